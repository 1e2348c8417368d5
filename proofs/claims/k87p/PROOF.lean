import PyProof.Rows.All
import Wide.All
import OpenK.AllK
import Wide.FinOn
import HandS.ForMost
import HandS.ForExc
import HandS.TupAny
import HandS.Zip
import HandS.Flow
import HandS.More
import HandS.Deep
import HandS.TupLe
import HandS.Wide
import HandS.TupMul
import KE.DataEq
import HandS.IsInst
import HandS.SortInts
import HandS.Text
import HandS.Small
import HandS.Words
import HandS.WordsExc
import HandS.ExcOwn
import HandS.Conv
import KE.SortData
import KE.KDictSum
import HandS.Style
import HandS.Strs
import HandS.RaiseMore
import HandS.ReCall
import KE.KDictPairs
import KE.KDictCopyH
import PyProof.ReprRoads
import PyProof.CallFns
import HandS.Ends
import HandS.EndBits
import HandS.Lambda
import HandS.Replace
import HandS.DictTup
import HandS.DictComp
import KE.DataMinMax
import KE.KExcInit
import HandS.TryMany
import HandS.ExcField
import HandS.EndTab
import KE.GoesEnum
import HandS.TupLen
import HandS.ListItems
import HandS.SetFor
import HandS.TupSets
import HandS.Property
import HandS.Codes
import PySem.Challenge.RW_everycut_k87_whole_promises_kept_or_brok
set_option Elab.async false
set_option linter.all false
set_option maxRecDepth 100000
set_option maxHeartbeats 4000000
namespace Rf
open PySem L2

/-! ### values, cells, outcomes -/
inductive W where
  | dat (d : PyData)
  | loc (n : Nat)
  | tw (ws : List W)
  | lw (ws : List W)
  | kt (ds : List PyData)
  | fn (x : Str)
  | rg (lo hi st : Int)
  deriving Inhabited
inductive Cell where
  | lst (ws : List W)
  | dic (kvs : List (PyData × W))
  | ins (c : Nat) (fs : List (Str × W))
  | fz (kvs : List (PyData × W))
def Cell.isFz : Cell → Bool
  | .fz _ => true
  | _ => false
abbrev Store := List Cell
abbrev Env := List (Option W)
inductive Out (α : Type) where
  | ok (a : α) (S : Store)
  | ex (c : Nat) (ws : List W) (S : Store)
  | stuck
abbrev M (α : Type) := List Nat → Env → Store → Out α
def Out.bind {α β : Type} : Out α → (α → Store → Out β) → Out β
  | .ok a S, f => f a S
  | .ex c ws S, _ => .ex c ws S
  | .stuck, _ => .stuck
@[simp] theorem Out.bind_ok {α β : Type} (a : α) (S : Store) (f : α → Store → Out β) : (Out.ok a S).bind f = f a S := rfl
@[simp] theorem Out.bind_ex {α β : Type} (c : Nat) (ws : List W) (S : Store) (f : α → Store → Out β) : (Out.ex c ws S : Out α).bind f = .ex c ws S := rfl
@[simp] theorem Out.bind_stuck {α β : Type} (f : α → Store → Out β) : (Out.stuck : Out α).bind f = .stuck := rfl
abbrev W.non : W := .dat .none
abbrev W.bl (b : Bool) : W := .dat (.bool b)
abbrev W.int (i : Int) : W := .dat (.int i)
abbrev W.str (s : Str) : W := .dat (.str s)
mutual
def W.und (n : Nat) : W → Bool
  | .dat _ => true
  | .loc k => decide (k < n)
  | .tw ws => W.undAll n ws
  | .lw ws => W.undAll n ws
  | .kt _ => true
  | .fn _ => true
  | .rg _ _ _ => true
def W.undAll (n : Nat) : List W → Bool
  | [] => true
  | w :: ws => W.und n w && W.undAll n ws
end
def Cell.und (n : Nat) : Cell → Bool
  | .lst ws => W.undAll n ws
  | .dic kvs => kvs.all fun p => p.2.und n
  | .ins _ fs => fs.all fun p => p.2.und n
  | .fz kvs => kvs.all fun p => p.2.und n
/-- all of some values are data -/
def allDat : List W → Option (List PyData)
  | [] => some []
  | .dat d :: ws => (allDat ws).map (d :: ·)
  | _ :: _ => none
def mkLst (ws : List W) : W := match allDat ws with
  | some ds => .dat (.list ds)
  | none => .lw ws
def mkTup (ws : List W) : W := match allDat ws with
  | some ds => .dat (.tuple ds)
  | none => .tw ws

/-! ### what stands for what -/
structure Grow (ρ : List Addr) (F : Hp) (ρ' : List Addr) (F' : Hp) : Prop where
  pre : ∃ t, ρ' = ρ ++ t
  ex : Same F F'
theorem Grow.refl (ρ : List Addr) (F : Hp) : Grow ρ F ρ F := ⟨⟨[], by simp⟩, Same.refl F⟩
theorem Grow.trans {ρ ρ1 ρ2 : List Addr} {F F1 F2 : Hp} (a : Grow ρ F ρ1 F1) (b : Grow ρ1 F1 ρ2 F2) : Grow ρ F ρ2 F2 := by
  obtain ⟨⟨t, e⟩, x⟩ := a
  obtain ⟨⟨u, e'⟩, y⟩ := b
  exact ⟨⟨t ++ u, by rw [e', e, List.append_assoc]⟩, x.trans y⟩
theorem Grow.at {ρ ρ' : List Addr} {F F' : Hp} (a : Grow ρ F ρ' F') {n : Nat} {x : Addr} (h : ρ[n]? = some x) : ρ'[n]? = some x := by
  obtain ⟨⟨t, e⟩, _⟩ := a
  subst e
  have hl := (List.getElem?_eq_some_iff.mp h).1
  rw [List.getElem?_append_left hl]
  exact h
/-- what stays as things grow -/
abbrev Stays (P : List Addr → Hp → Prop) : Prop := ∀ ρ F ρ' F', Grow ρ F ρ' F' → P ρ F → P ρ' F'
structure Gx where
  K : PySem.W.Frag
  cls : Nat → Addr
  fld : Nat → Str
  T : List (Addr × Str)
  more : List Addr → Hp → Prop
  stays : Stays more
/-- something more is known -/
abbrev Gx.pin (g : Gx) (P : List Addr → Hp → Prop) (h : Stays P) : Gx := ⟨g.K, g.cls, g.fld, g.T, fun ρ F => g.more ρ F ∧ P ρ F, fun _ _ _ _ gr x => ⟨g.stays _ _ _ _ gr x.1, h _ _ _ _ gr x.2⟩⟩
/-- a range stands there -/
def RangeAt (a : Addr) (lo hi st : Int) : Heap → Prop := fun h => ∃ t t' t'' : Tok, h.get? a = some { cls := .type "range", data := .fields #[.int lo t, .int hi t', .int st t''] }
/-- lists, dicts, sets -/
def Mu : Option HO → Prop
  | some (.lst _) => True
  | some (.dK _) => True
  | some (.dT _) => True
  | some (.set _ _) => True
  | _ => False
def kD : Key → PyData
  | .inl i => .int i
  | .inr x => .str x
mutual
inductive Rp (K : PySem.W.Frag) (F : Hp) : V → PyData → Prop
  | non : Rp K F .non .none
  | bl (b : Bool) : Rp K F (.bl b) (.bool b)
  | int (i : Int) : Rp K F (.int i) (.int i)
  | str (x : Str) : Rp K F (.str x) (.str x)
  | lst {a : Addr} {xs : List V} {ds : List PyData} : F a = some (.lst xs) → RpAll K F xs ds → Rp K F (.ref a) (.list ds)
  | tup {a : Addr} {xs : List V} {ds : List PyData} : F a = some (.tup xs) → RpAll K F xs ds → Rp K F (.ref a) (.tuple ds)
  | dicK {a : Addr} {o : Obj} {kvs : List (Key × V)} {ds : List (PyData × PyData)} : F a = some (.frz o (.dK kvs)) → RpKV K F (kvs.map fun p => (kD p.1, p.2)) ds → Rp K F (.ref a) (.dict ds)
  | dicT {a : Addr} {o : Obj} {kvs : List (List Key × V)} {ds : List (PyData × PyData)} : F a = some (.frz o (.dT kvs)) → RpKV K F (kvs.map fun p => (.tuple (p.1.map kD), p.2)) ds → Rp K F (.ref a) (.dict ds)
inductive RpAll (K : PySem.W.Frag) (F : Hp) : List V → List PyData → Prop
  | nil : RpAll K F [] []
  | cons {v : V} {vs : List V} {d : PyData} {ds : List PyData} : Rp K F v d → RpAll K F vs ds → RpAll K F (v :: vs) (d :: ds)
inductive RpKV (K : PySem.W.Frag) (F : Hp) : List (PyData × V) → List (PyData × PyData) → Prop
  | nil : RpKV K F [] []
  | cons {k : PyData} {v : V} {vs : List (PyData × V)} {d : PyData} {ds : List (PyData × PyData)} : Rp K F v d → RpKV K F vs ds → RpKV K F ((k, v) :: vs) ((k, d) :: ds)
end
mutual
inductive Is (K : PySem.W.Frag) (ρ : List Addr) (F : Hp) : V → W → Prop
  | dat {v : V} {d : PyData} : Rp K F v d → Is K ρ F v (.dat d)
  | loc {a : Addr} {n : Nat} : ρ[n]? = some a → Is K ρ F (.ref a) (.loc n)
  | tw {a : Addr} {vs : List V} {ws : List W} : SqT K F a vs → IsAll K ρ F vs ws → Is K ρ F (.ref a) (.tw ws)
  | lw {a : Addr} {vs : List V} {ws : List W} : SqL K F a vs → IsAll K ρ F vs ws → Is K ρ F (.ref a) (.lw ws)
  | kt {a : Addr} {vs : List V} {ds : List PyData} {o : Obj} : F a = some (.frz o (.tup vs)) → o.cls = .type "tuple" → o.dict = none → RpAll K F vs ds → Is K ρ F (.ref a) (.kt ds)
  | fn {a : Addr} {x : Str} : PySem.W.nsIn K mainGlobals x = some (some (.ref a)) → Is K ρ F (.ref a) (.fn x)
  | rg {a : Addr} {lo hi st : Int} : F a = some (.ext (RangeAt a lo hi st)) → Is K ρ F (.ref a) (.rg lo hi st)
inductive IsAll (K : PySem.W.Frag) (ρ : List Addr) (F : Hp) : List V → List W → Prop
  | nil : IsAll K ρ F [] []
  | cons {v : V} {vs : List V} {w : W} {ws : List W} : Is K ρ F v w → IsAll K ρ F vs ws → IsAll K ρ F (v :: vs) (w :: ws)
end
inductive IsKV (K : PySem.W.Frag) (ρ : List Addr) (F : Hp) : List (PyData × V) → List (PyData × W) → Prop
  | nil : IsKV K ρ F [] []
  | cons {k : PyData} {v : V} {vs : List (PyData × V)} {w : W} {ws : List (PyData × W)} : Is K ρ F v w → IsKV K ρ F vs ws → IsKV K ρ F ((k, v) :: vs) ((k, w) :: ws)
inductive IsFs (K : PySem.W.Frag) (ρ : List Addr) (F : Hp) : List (Str × V) → List (Str × W) → Prop
  | nil : IsFs K ρ F [] []
  | cons {k : Str} {v : V} {vs : List (Str × V)} {w : W} {ws : List (Str × W)} : Is K ρ F v w → IsFs K ρ F vs ws → IsFs K ρ F ((k, v) :: vs) ((k, w) :: ws)
def CellOk (g : Gx) (ρ : List Addr) (F H : Hp) (a : Addr) : Cell → Prop
  | .lst ws => ∃ vs, H a = some (.lst vs) ∧ IsAll g.K ρ F vs ws
  | .dic ws => (∃ kvs : List (Key × V), H a = some (.dK kvs) ∧ IsKV g.K ρ F (kvs.map fun p => (kD p.1, p.2)) ws) ∨
      ∃ kvs : List (List Key × V), H a = some (.dT kvs) ∧ IsKV g.K ρ F (kvs.map fun p => (.tuple (p.1.map kD), p.2)) ws
  | .ins c fs => ∃ dx gs, H a = some (.ins (g.cls c) dx gs) ∧ IsFs g.K ρ F gs fs
  | .fz ws => (∃ (o : Obj) (kvs : List (Key × V)), H a = some (.frz o (.dK kvs)) ∧ F a = some (.frz o (.dK kvs)) ∧ IsKV g.K ρ F (kvs.map fun p => (kD p.1, p.2)) ws) ∨
      ∃ (o : Obj) (kvs : List (List Key × V)), H a = some (.frz o (.dT kvs)) ∧ F a = some (.frz o (.dT kvs)) ∧ IsKV g.K ρ F (kvs.map fun p => (.tuple (p.1.map kD), p.2)) ws
structure Sim (g : Gx) (bs : List Nat) (ρ : List Addr) (F N : Hp) (S : Store) (H : Hp) : Prop where
  len : ρ.length = S.length
  nd : ρ.Nodup
  ex : Same F H
  fr : ∀ (n : Nat) (c : Cell) (a : Addr), S[n]? = some c → ρ[n]? = some a → c.isFz = false → F a = none
  cell : ∀ (n : Nat) (c : Cell) (a : Addr), S[n]? = some c → ρ[n]? = some a → CellOk g ρ F H a c
  hid : Same N H
  nf : ∀ a o, N a = some o → F a = none ∧ a ∉ ρ
  nl : ∀ a o, N a = some o → Mu (some o)
  bot : ∀ b ∈ bs, b ≤ S.length ∧ ∀ (k : Nat) (c : Cell), k < b → S[k]? = some c → c.und b = true
  tab : LamX.Tabs g.T H
  nt : ∀ a ps, F a ≠ some (.tbl ps)
theorem Same.sqT {K : PySem.W.Frag} {H H' : Hp} {a : Addr} {xs : List V} (e : Same H H') (h : SqT K H a xs) : SqT K H' a xs := by
  rcases h with (h | ⟨o, h⟩) | h
  · exact .inl (.inl (e _ _ h))
  · exact .inl (.inr ⟨o, e _ _ h⟩)
  · exact .inr h
section
variable {K : PySem.W.Frag} {F F' : Hp} {ρ ρ' : List Addr}
mutual
theorem Rp.mono (e : Same F F') : ∀ {d : PyData} {v : V}, Rp K F v d → Rp K F' v d
  | .none, _, h => by cases h; exact .non
  | .bool b, _, h => by cases h; exact .bl b
  | .int i, _, h => by cases h; exact .int i
  | .str x, _, h => by cases h; exact .str x
  | .list ds, _, h => by
    cases h with
    | lst s r => exact .lst (e _ _ s) (RpAll.mono e r)
  | .tuple ds, _, h => by
    cases h with
    | tup s r => exact .tup (e _ _ s) (RpAll.mono e r)
  | .dict ds, _, h => by
    cases h with
    | dicK s r => exact .dicK (e _ _ s) (RpKV.mono e r)
    | dicT s r => exact .dicT (e _ _ s) (RpKV.mono e r)
theorem RpAll.mono (e : Same F F') : ∀ {ds : List PyData} {vs : List V}, RpAll K F vs ds → RpAll K F' vs ds
  | [], _, h => by cases h; exact .nil
  | d :: ds, _, h => by
    cases h with
    | cons a b => exact .cons (Rp.mono e a) (RpAll.mono e b)
theorem RpKV.mono (e : Same F F') : ∀ {ds : List (PyData × PyData)} {vs : List (PyData × V)}, RpKV K F vs ds → RpKV K F' vs ds
  | [], _, h => by cases h; exact .nil
  | (k, d) :: ds, _, h => by
    cases h with
    | cons a b => exact .cons (Rp.mono e a) (RpKV.mono e b)
end
mutual
theorem Is.mono (gr : Grow ρ F ρ' F') : ∀ {w : W} {v : V}, Is K ρ F v w → Is K ρ' F' v w
  | .dat d, _, h => by
    cases h with
    | dat r => exact .dat (r.mono gr.ex)
  | .loc n, _, h => by
    cases h with
    | loc r => exact .loc (gr.at r)
  | .tw ws, _, h => by
    cases h with
    | tw s r => exact .tw (Same.sqT gr.ex s) (IsAll.mono gr r)
  | .lw ws, _, h => by
    cases h with
    | lw s r => exact .lw (gr.ex.seq s) (IsAll.mono gr r)
  | .kt ds, _, h => by
    cases h with
    | kt s c d r => exact .kt (gr.ex _ _ s) c d (r.mono gr.ex)
  | .fn x, _, h => by
    cases h with
    | fn s => exact .fn s
  | .rg x y z, _, h => by
    cases h with
    | rg s => exact .rg (gr.ex _ _ s)
theorem IsAll.mono (gr : Grow ρ F ρ' F') : ∀ {ws : List W} {vs : List V}, IsAll K ρ F vs ws → IsAll K ρ' F' vs ws
  | [], _, h => by cases h; exact .nil
  | w :: ws, _, h => by
    cases h with
    | cons a b => exact .cons (Is.mono gr a) (IsAll.mono gr b)
end
theorem IsKV.mono (gr : Grow ρ F ρ' F') : ∀ {ws : List (PyData × W)} {vs : List (PyData × V)}, IsKV K ρ F vs ws → IsKV K ρ' F' vs ws
  | [], _, h => by cases h; exact .nil
  | _ :: _, _, h => by
    cases h with
    | cons a b => exact .cons (a.mono gr) (IsKV.mono gr b)
theorem IsFs.mono (gr : Grow ρ F ρ' F') : ∀ {ws : List (Str × W)} {vs : List (Str × V)}, IsFs K ρ F vs ws → IsFs K ρ' F' vs ws
  | [], _, h => by cases h; exact .nil
  | _ :: _, _, h => by
    cases h with
    | cons a b => exact .cons (a.mono gr) (IsFs.mono gr b)
theorem IsAll.len : ∀ {ws : List W} {vs : List V}, IsAll K ρ F vs ws → vs.length = ws.length
  | [], _, h => by cases h; rfl
  | _ :: _, _, h => by
    cases h with
    | cons a b => simp [IsAll.len b]
theorem RpAll.len : ∀ {ws : List PyData} {vs : List V}, RpAll K F vs ws → vs.length = ws.length
  | [], _, h => by cases h; rfl
  | _ :: _, _, h => by
    cases h with
    | cons a b => simp [RpAll.len b]
theorem IsAll.dats : ∀ {ws : List W} {vs : List V} {ds : List PyData}, IsAll K ρ F vs ws → allDat ws = some ds → RpAll K F vs ds
  | [], _, _, h, e => by cases h; simp [allDat] at e; subst e; exact .nil
  | .dat d :: ws, _, _, h, e => by
    cases h with
    | cons a b =>
      simp only [allDat, Option.map_eq_some_iff] at e
      obtain ⟨ds, e, rfl⟩ := e
      cases a with
      | dat r => exact .cons r (IsAll.dats b e)
  | .loc _ :: _, _, _, _, e => by simp [allDat] at e
  | .tw _ :: _, _, _, _, e => by simp [allDat] at e
  | .lw _ :: _, _, _, _, e => by simp [allDat] at e
  | .kt _ :: _, _, _, _, e => by simp [allDat] at e
  | .fn _ :: _, _, _, _, e => by simp [allDat] at e
  | .rg _ _ _ :: _, _, _, _, e => by simp [allDat] at e
theorem RpAll.isAll : ∀ {ds : List PyData} {vs : List V}, RpAll K F vs ds → IsAll K ρ F vs (ds.map .dat)
  | [], _, h => by cases h; exact .nil
  | _ :: _, _, h => by
    cases h with
    | cons a b => exact .cons (.dat a) (RpAll.isAll b)
theorem allDat_map (ds : List PyData) : allDat (ds.map .dat) = some ds := by
  induction ds with
  | nil => rfl
  | cons d ds ih => simp [allDat, ih]
@[simp] theorem mkTup_dat (ds : List PyData) : mkTup (ds.map .dat) = .dat (.tuple ds) := by simp [mkTup, allDat_map]
@[simp] theorem mkLst_dat (ds : List PyData) : mkLst (ds.map .dat) = .dat (.list ds) := by simp [mkLst, allDat_map]
theorem is_mkLst {a : Addr} {vs : List V} {ws : List W} (s : F a = some (.lst vs)) (r : IsAll K ρ F vs ws) : Is K ρ F (.ref a) (mkLst ws) := by
  unfold mkLst
  split
  · rename_i ds e; exact .dat (.lst s (r.dats e))
  · exact .lw (SqL.of s) r
/-- what is known of a tuple is forgotten -/
def W.weak : W → W
  | .kt ds => .tw (ds.map .dat)
  | w => w
theorem Is.weak {v : V} {w : W} (h : Is K ρ F v w) : Is K ρ F v w.weak := by
  cases w with
  | kt ds =>
    cases h with
    | kt s c d r => exact .tw (.inl (.inr ⟨_, s⟩)) r.isAll
  | fn x => exact h
  | rg x y z => exact h
  | dat d => exact h
  | loc n => exact h
  | tw ws => exact h
  | lw ws => exact h
theorem is_mkTup {a : Addr} {vs : List V} {ws : List W} (s : F a = some (.tup vs)) (r : IsAll K ρ F vs ws) : Is K ρ F (.ref a) (mkTup ws) := by
  unfold mkTup
  split
  · rename_i ds e; exact .dat (.tup s (r.dats e))
  · exact .tw (SqT.of s) r
end
/-! ### a new frozen object; a new cell -/
theorem ne_mem {l : List Addr} {a p : Addr} (h : a ∈ l) (n : p ∉ l) : a ≠ p := fun z => n (by rw [← z]; exact h)
theorem same_new {H : Hp} {p : Addr} {o : HO} (h : H p = none) : Same H (upd H p o) := fun a u e => by
  rw [upd_ne (ne_of_none e h)]; exact e
section
variable {g : Gx} {bs : List Nat} {ρ : List Addr} {F N H : Hp} {S : Store}
theorem CellOk.mono {F' H' : Hp} {ρ' : List Addr} {a : Addr} {c : Cell} (gr : Grow ρ F ρ' F') (h : H a = H' a) (x : CellOk g ρ F H a c) : CellOk g ρ' F' H' a c := by
  cases c with
  | lst ws => obtain ⟨vs, e, r⟩ := x; exact ⟨vs, by rw [← h]; exact e, r.mono gr⟩
  | dic ws =>
    rcases x with ⟨k, e, r⟩ | ⟨k, e, r⟩
    · exact .inl ⟨k, by rw [← h]; exact e, r.mono gr⟩
    · exact .inr ⟨k, by rw [← h]; exact e, r.mono gr⟩
  | ins c fs => obtain ⟨dx, gs, e, r⟩ := x; exact ⟨dx, gs, by rw [← h]; exact e, r.mono gr⟩
  | fz ws =>
    rcases x with ⟨o, k, e, f, r⟩ | ⟨o, k, e, f, r⟩
    · exact .inl ⟨o, k, by rw [← h]; exact e, gr.ex _ _ f, r.mono gr⟩
    · exact .inr ⟨o, k, by rw [← h]; exact e, gr.ex _ _ f, r.mono gr⟩
theorem CellOk.some {a : Addr} {c : Cell} (x : CellOk g ρ F H a c) : ∃ o, H a = some o := by
  cases c with
  | lst ws => obtain ⟨vs, e, r⟩ := x; exact ⟨_, e⟩
  | dic ws =>
    rcases x with ⟨k, e, r⟩ | ⟨k, e, r⟩
    · exact ⟨_, e⟩
    · exact ⟨_, e⟩
  | ins c fs => obtain ⟨dx, gs, e, r⟩ := x; exact ⟨_, e⟩
  | fz ws =>
    rcases x with ⟨o, k, e, f, r⟩ | ⟨o, k, e, f, r⟩
    · exact ⟨_, e⟩
    · exact ⟨_, e⟩
/-- neither a table nor a thing of another kind -/
def NT (u : HO) : Prop := (∀ ps, u ≠ .tbl ps) ∧ ∀ P, u ≠ .ext P
theorem Mu.nt {u : HO} (h : Mu (some u)) : NT u := by
  cases u <;> first | exact h.elim | exact ⟨fun _ z => (nomatch z), fun _ z => (nomatch z)⟩
theorem CellOk.nt {a : Addr} {c : Cell} (x : CellOk g ρ F H a c) : ∀ u : HO, H a = .some u → NT u := by
  intro u e
  cases c with
  | lst ws => obtain ⟨vs, e', r⟩ := x; rw [e'] at e; cases e; exact ⟨fun _ z => (nomatch z), fun _ z => (nomatch z)⟩
  | dic ws => rcases x with ⟨k, e', r⟩ | ⟨k, e', r⟩ <;> (rw [e'] at e; cases e; exact ⟨fun _ z => (nomatch z), fun _ z => (nomatch z)⟩)
  | ins c fs => obtain ⟨dx, gs, e', r⟩ := x; rw [e'] at e; cases e; exact ⟨fun _ z => (nomatch z), fun _ z => (nomatch z)⟩
  | fz ws => rcases x with ⟨o, k, e', f, r⟩ | ⟨o, k, e', f, r⟩ <;> (rw [e'] at e; cases e; exact ⟨fun _ z => (nomatch z), fun _ z => (nomatch z)⟩)
theorem tabs_put {T : List (Addr × Str)} {a : Addr} {o : HO} (h : ∀ u : HO, H a = .some u → NT u) (t : LamX.Tabs T H) : LamX.Tabs T (upd H a o) := fun p hp => by
  obtain ⟨ps, h1, h2, h3⟩ := t p hp
  have off : ∀ (b : Addr) (u : HO), H b = .some u → ¬ NT u → b ≠ a := fun b u e n z => by subst z; exact n (h u e)
  refine ⟨ps, by rw [upd_ne (off _ _ h1 fun z => z.1 ps rfl)]; exact h1, h2, fun pos cv hc => ?_⟩
  obtain ⟨c, e1, e2⟩ := h3 pos cv hc
  exact ⟨c, e1, by rw [upd_ne (off _ _ e2 fun z => z.2 _ rfl)]; exact e2⟩
theorem tabs_new {T : List (Addr × Str)} {a : Addr} {o : HO} (h : H a = none) (t : LamX.Tabs T H) : LamX.Tabs T (upd H a o) := tabs_put (fun u e => by rw [h] at e; cases e) t
theorem Sim.has (s : Sim g bs ρ F N S H) {a : Addr} (ha : a ∈ ρ) : ∃ o, H a = some o := by
  obtain ⟨n, hn, e⟩ := List.mem_iff_getElem.mp ha
  have hn' : n < S.length := by rw [← s.len]; exact hn
  exact (s.cell n S[n] a (by simp [hn']) (by rw [List.getElem?_eq_getElem hn, e])).some
theorem nt_upd {p : Addr} {o : HO} (h : ∀ a ps, F a ≠ .some (.tbl ps)) (no : ∀ ps, o ≠ .tbl ps) : ∀ a ps, upd F p o a ≠ .some (.tbl ps) := fun a ps e => by
  by_cases z : a = p
  · subst z; rw [upd_same] at e; cases e; exact no _ rfl
  · rw [upd_ne z] at e; exact h a ps e
theorem Sim.frozen (s : Sim g bs ρ F N S H) {p : Addr} {o : HO} (hp : H p = none) (no : ∀ ps, o ≠ .tbl ps := by exact fun _ z => nomatch z) : Sim g bs ρ (upd F p o) N S (upd H p o) ∧ Grow ρ F ρ (upd F p o) := by
  have fp : F p = none := s.ex.free hp
  have np : p ∉ ρ := fun z => by obtain ⟨o, e⟩ := s.has z; rw [hp] at e; cases e
  have gr : Grow ρ F ρ (upd F p o) := ⟨⟨[], by simp⟩, same_new fp⟩
  have np2 : ∀ a o, N a = some o → a ≠ p := fun a u e z => by subst z; rw [s.hid a u e] at hp; cases hp
  refine ⟨⟨s.len, s.nd, fun a u e => ?_, fun n c a e1 e2 e3 => ?_, fun n c a e1 e2 => ?_, fun a u e => ?_, fun a u e => ?_, s.nl, s.bot, tabs_new hp s.tab, nt_upd s.nt no⟩, gr⟩
  rotate_left 3
  · rw [upd_ne (np2 a u e)]; exact s.hid a u e
  · rw [upd_ne (np2 a u e)]; exact s.nf a u e
  · by_cases h : a = p
    · subst h; rw [upd_same] at e ⊢; exact e
    · rw [upd_ne h] at e ⊢; exact s.ex a u e
  · rw [upd_ne (ne_mem (List.mem_of_getElem? e2) np)]; exact s.fr n c a e1 e2 e3
  · have ha : a ∈ ρ := List.mem_of_getElem? e2
    exact (s.cell n c a e1 e2).mono gr (by rw [upd_ne (ne_mem ha np)])
/-- another heap with the same cells and all that is frozen -/
theorem Sim.heap {H' : Hp} (s : Sim g bs ρ F N S H) (k : Same H H') : Sim g bs ρ F N S H' :=
  ⟨s.len, s.nd, s.ex.trans k, s.fr, fun n c a e1 e2 => by
    have x := s.cell n c a e1 e2
    obtain ⟨o, e⟩ := x.some
    exact x.mono (Grow.refl ρ F) (by rw [e, k a o e]), s.hid.trans k, s.nf, s.nl, s.bot, s.tab.ext k, s.nt⟩
theorem Sim.newCell {p : Addr} {o : HO} {c : Cell} (s : Sim g bs ρ F N S H) (hp : H p = none) (hc : CellOk g (ρ ++ [p]) F (upd H p o) p c) :
    Sim g bs (ρ ++ [p]) F N (S ++ [c]) (upd H p o) ∧ Grow ρ F (ρ ++ [p]) F := by
  have fp : F p = none := s.ex.free hp
  have np : p ∉ ρ := fun z => by obtain ⟨o, e⟩ := s.has z; rw [hp] at e; cases e
  have gr : Grow ρ F (ρ ++ [p]) F := ⟨⟨[p], rfl⟩, Same.refl F⟩
  have np2 : ∀ a o, N a = some o → a ≠ p := fun a u e z => by subst z; rw [s.hid a u e] at hp; cases hp
  refine ⟨⟨by simp [s.len], ?_, fun a u e => ?_, fun n c' a e1 e2 e3 => ?_, fun n c' a e1 e2 => ?_, fun a u e => ?_, fun a u e => ?_, s.nl, fun b hb => ?_, tabs_new hp s.tab, s.nt⟩, gr⟩
  rotate_left 4
  · rw [upd_ne (np2 a u e)]; exact s.hid a u e
  · refine ⟨(s.nf a u e).1, fun ha => ?_⟩
    rcases List.mem_append.mp ha with ha | ha
    · exact (s.nf a u e).2 ha
    · simp at ha; exact np2 a u e ha
  rotate_left 1
  · rw [List.nodup_append]; exact ⟨s.nd, by simp, fun a ha b hb z => by simp at hb; subst hb; subst z; exact np ha⟩
  · have h : a ≠ p := fun z => by subst z; rw [fp] at e; cases e
    rw [upd_ne h]; exact s.ex a u e
  · by_cases hn : n < S.length
    · rw [List.getElem?_append_left hn] at e1
      rw [List.getElem?_append_left (by rw [s.len]; exact hn)] at e2
      exact s.fr n c' a e1 e2 e3
    · rcases List.mem_append.mp (List.mem_of_getElem? e2) with ha | ha
      · have hl := (List.getElem?_eq_some_iff.mp e1).1
        have e : n = S.length := by simp at hl; omega
        subst e
        rw [← s.len] at e2; simp at e2
        subst e2; exact fp
      · simp at ha; subst ha; exact fp
  · by_cases hn : n < S.length
    · rw [List.getElem?_append_left hn] at e1
      rw [List.getElem?_append_left (by rw [s.len]; exact hn)] at e2
      have ha : a ∈ ρ := List.mem_of_getElem? e2
      exact (s.cell n c' a e1 e2).mono gr (by rw [upd_ne (ne_mem ha np)])
    · have hl := (List.getElem?_eq_some_iff.mp e1).1
      have e : n = S.length := by simp at hl; omega
      subst e
      simp at e1
      rw [← s.len] at e2; simp at e2
      subst e1; subst e2
      exact hc
  · obtain ⟨h1, h2⟩ := s.bot b hb
    refine ⟨by simp; omega, fun k c' hk e => h2 k c' hk ?_⟩
    rw [List.getElem?_append_left (by omega)] at e
    exact e
/-- a cell is written -/
theorem Sim.write {n : Nat} {a : Addr} {o : HO} {c c0 : Cell} (s : Sim g bs ρ F N S H) (h0 : S[n]? = some c0) (hz : c0.isFz = false) (hn : ρ[n]? = some a) (hc : CellOk g ρ F (upd H a o) a c) (hb : ∀ b ∈ bs, n < b → c.und b = true) :
    Sim g bs ρ F N (S.set n c) (upd H a o) := by
  have fa : F a = none := s.fr n c0 a h0 hn hz
  have hl := (List.getElem?_eq_some_iff.mp hn).1
  refine ⟨by simp [s.len], s.nd, fun b u e => ?_, fun m c' b e1 e2 e3 => (by
    by_cases hm : m = n
    · subst hm; rw [hn] at e2; cases e2; exact fa
    · rw [List.getElem?_set_ne (Ne.symm hm)] at e1; exact s.fr m c' b e1 e2 e3), fun m c' b e1 e2 => ?_, fun b u e => ?_, s.nf, s.nl, fun b hb' => ?_, tabs_put (CellOk.nt (s.cell n c0 a h0 hn)) s.tab, s.nt⟩
  rotate_left 2
  · have h : b ≠ a := fun z => by subst z; exact (s.nf b u e).2 (List.mem_of_getElem? hn)
    rw [upd_ne h]; exact s.hid b u e
  rotate_left 1
  · have h : b ≠ a := fun z => by subst z; rw [fa] at e; cases e
    rw [upd_ne h]; exact s.ex b u e
  · by_cases hm : m = n
    · subst hm
      rw [hn] at e2; cases e2
      rw [List.getElem?_set_self (by rw [← s.len]; exact hl)] at e1
      cases e1
      exact hc
    · rw [List.getElem?_set_ne (Ne.symm hm)] at e1
      have ne : b ≠ a := fun z => by
        subst z
        exact hm (nodup_ixA s.nd e2 hn)
      exact (s.cell m c' b e1 e2).mono (Grow.refl ρ F) (by rw [upd_ne ne])
  · obtain ⟨h1, h2⟩ := s.bot b hb'
    refine ⟨by simpa using h1, fun k c' hk e => ?_⟩
    by_cases hm : k = n
    · subst hm
      rw [List.getElem?_set_self (by rw [← s.len]; exact hl)] at e
      cases e
      exact hb b hb' hk
    · rw [List.getElem?_set_ne (Ne.symm hm)] at e
      exact h2 k c' hk e
where
  nodup_ixA {l : List Addr} (nd : l.Nodup) {i j : Nat} {x : Addr} (a : l[i]? = some x) (b : l[j]? = some x) : i = j := by
    obtain ⟨h1, e1⟩ := List.getElem?_eq_some_iff.mp a
    obtain ⟨h2, e2⟩ := List.getElem?_eq_some_iff.mp b
    exact (List.getElem_inj nd).mp (e1.trans e2.symm)
end
end Rf

namespace Rf
open PySem L2

theorem _root_.L2.PE.imp {X : Cx} {e : Expr} {t t' : TE} (h : PE X e t) (i : ∀ σ H Q, t' σ H Q → t σ H Q) : PE X e t' := ⟨fun pins s σ H Q I q => h.run pins s σ H Q I (i σ H Q q)⟩
theorem _root_.L2.PT.imp {X : Cx} {e : Expr} {t t' : TT} (h : PT X e t) (i : ∀ σ H Q, t' σ H Q → t σ H Q) : PT X e t' := ⟨fun pins s σ H Q I q => h.run pins s σ H Q I (i σ H Q q)⟩
theorem _root_.L2.PW.imp {X : Cx} {e : Expr} {t t' : TT} (h : PW X e t) (i : ∀ σ H Q, t' σ H Q → t σ H Q) : PW X e t' := ⟨fun wh pins s σ H Q I q => h.run wh pins s σ H Q I (i σ H Q q)⟩
theorem _root_.L2.PA.imp {X : Cx} {es : List Expr} {t t' : TA} (h : PA X es t) (i : ∀ σ H Q, t' σ H Q → t σ H Q) : PA X es t' := ⟨fun pos pins s σ H Q I q => h.run pos pins s σ H Q I (i σ H Q q)⟩
theorem _root_.L2.PS.imp {X : Cx} {st : Stmt} {t t' : TS} (h : PS X st t) (i : ∀ D σ H, t' D σ H → t D σ H) : PS X st t' := ⟨fun pins s σ H D I q => h.run pins s σ H D I (i D σ H q)⟩
theorem _root_.L2.PSs.imp {X : Cx} {st : List Stmt} {t t' : TS} (h : PSs X st t) (i : ∀ D σ H, t' D σ H → t D σ H) : PSs X st t' := ⟨fun pins s σ H D I q => h.run pins s σ H D I (i D σ H q)⟩
theorem _root_.L2.PG.imp {X : Cx} {tg : Expr} {t t' : TG} (h : PG X tg t) (i : ∀ v σ H Q, t' v σ H Q → t v σ H Q) : PG X tg t' := ⟨fun pins s σ H v u Q I r q => h.run pins s σ H v u Q I r (i v σ H Q q)⟩
theorem _root_.L2.PI.imp {X : Cx} {tg it : Expr} {t t' : TI} (h : PI X tg it t) (i : ∀ σ H R, t' σ H R → t σ H R) : PI X tg it t' := ⟨fun pins s σ H R I q => h.run pins s σ H R I (i σ H R q)⟩

structure EnvR (g : Gx) (ρ : List Addr) (F : Hp) (σ : St) (env : Env) : Prop where
  len : σ.length = env.length
  at_ : ∀ (i : Nat) (w : W), env[i]? = some (some w) → ∃ v, σ[i]? = some (some v) ∧ Is g.K ρ F v w
  more : g.more ρ F
theorem EnvR.mono {g : Gx} {ρ ρ' : List Addr} {F F' : Hp} {σ : St} {env : Env} (gr : Grow ρ F ρ' F') (e : EnvR g ρ F σ env) : EnvR g ρ' F' σ env :=
  ⟨e.len, fun i w h => let ⟨v, a, b⟩ := e.at_ i w h; ⟨v, a, b.mono gr⟩, g.stays _ _ _ _ gr e.more⟩
theorem EnvR.set {g : Gx} {ρ : List Addr} {F : Hp} {σ : St} {env : Env} {v : V} {w : W} (e : EnvR g ρ F σ env) (i : Nat) (h : Is g.K ρ F v w) : EnvR g ρ F (σ.set i (some v)) (env.set i (some w)) := by
  refine ⟨by simp [e.len], fun j x hj => ?_, e.more⟩
  by_cases z : i = j
  · subst z
    have hl := (List.getElem?_eq_some_iff.mp hj).1
    simp only [List.length_set] at hl
    rw [List.getElem?_set_self hl] at hj
    cases hj
    exact ⟨v, List.getElem?_set_self (by rw [e.len]; exact hl), h⟩
  · rw [List.getElem?_set_ne z] at hj ⊢
    exact e.at_ j x hj
def ExR (g : Gx) (c : Nat) (ρ : List Addr) (F H : Hp) (d : Option Addr) : List W → Prop
  | [] => d = none
  | w :: _ => ∃ a v, d = some a ∧ H a = some (.xd [(g.fld c, v)]) ∧ Is g.K ρ F v w
/-- what an outcome must lead to -/
def Post {α β : Type} (g : Gx) (B : WX) (R : List Addr → Hp → β → α → Prop) (bs : List Nat) (ρ : List Addr) (F N : Hp) (σ : St) (Q : β → Hp → Prop) : Out α → Prop
  | .ok w S' => ∀ ρ' F' H' v, Grow ρ F ρ' F' → Sim g bs ρ' F' N S' H' → R ρ' F' v w → Q v H'
  | .ex c ws S' => ∀ ρ' F' H' d, Grow ρ F ρ' F' → Sim g bs ρ' F' N S' H' → ExR g c ρ' F' H' d ws → B (.ref (g.cls c)) d σ H'
  | .stuck => False
def rdG {α β : Type} (g : Gx) (B : WX) (R : List Addr → Hp → β → α → Prop) (m : M α) : St → Hp → (β → Hp → Prop) → Prop := fun σ H Q =>
  ∃ bs ρ F N env S, Sim g bs ρ F N S H ∧ EnvR g ρ F σ env ∧ Post g B R bs ρ F N σ Q (m bs env S)
abbrev RW (g : Gx) : List Addr → Hp → V → W → Prop := fun ρ F v w => Is g.K ρ F v w
abbrev RWs (g : Gx) : List Addr → Hp → List V → List W → Prop := fun ρ F v w => IsAll g.K ρ F v w
abbrev RB : List Addr → Hp → Bool → Bool → Prop := fun _ _ a b => a = b
abbrev rd (g : Gx) (B : WX) (m : M W) : TE := rdG g B (RW g) m
abbrev rdT (g : Gx) (B : WX) (m : M Bool) : TT := rdG g B RB m
abbrev rdA (g : Gx) (B : WX) (m : M (List W)) : TA := rdG g B (RWs g) m
theorem Post.grow {α β : Type} {g : Gx} {B : WX} {R : List Addr → Hp → β → α → Prop} {bs : List Nat} {ρ ρ1 : List Addr} {F F1 N : Hp} {σ : St} {Q : β → Hp → Prop} {o : Out α} (gr : Grow ρ F ρ1 F1) (h : Post g B R bs ρ F N σ Q o) : Post g B R bs ρ1 F1 N σ Q o := by
  cases o with
  | ok a S => exact fun ρ' F' H' v g1 s r => h ρ' F' H' v (gr.trans g1) s r
  | ex c ws S => exact fun ρ' F' H' d g1 s r => h ρ' F' H' d (gr.trans g1) s r
  | stuck => exact h
theorem Post.imp {α β : Type} {g : Gx} {B : WX} {R : List Addr → Hp → β → α → Prop} {bs : List Nat} {ρ : List Addr} {F N : Hp} {σ : St} {Q Q' : β → Hp → Prop} {o : Out α} (h : Post g B R bs ρ F N σ Q o) (i : ∀ v H, Q v H → Q' v H) : Post g B R bs ρ F N σ Q' o := by
  cases o with
  | ok a S => exact fun ρ' F' H' v g1 s r => i _ _ (h ρ' F' H' v g1 s r)
  | ex c ws S => exact h
  | stuck => exact h
/-- one after another -/
theorem Post.bind {α β γ δ : Type} {g : Gx} {B : WX} {R1 : List Addr → Hp → β → α → Prop} {R2 : List Addr → Hp → δ → γ → Prop} {bs : List Nat} {ρ : List Addr} {F N : Hp} {σ : St} {Q : δ → Hp → Prop} {o : Out α} {f : α → Store → Out γ}
    (h : Post g B R2 bs ρ F N σ Q (o.bind f)) :
    Post g B R1 bs ρ F N σ (fun v H1 => ∃ ρ' F' a S', Grow ρ F ρ' F' ∧ Sim g bs ρ' F' N S' H1 ∧ R1 ρ' F' v a ∧ Post g B R2 bs ρ' F' N σ Q (f a S')) o := by
  cases o with
  | ok a S1 => exact fun ρ' F' H' v gr s' r => ⟨ρ', F', a, S1, gr, s', r, Post.grow gr h⟩
  | ex c ws S1 => exact h
  | stuck => exact h

/-! ### names, constants -/
def mVar (i : Nat) : M W := fun _ env S => match env[i]? with
  | some (some w) => .ok w.weak S
  | _ => .stuck
/-- with all that is known of it -/
def mVarK (i : Nat) : M W := fun _ env S => match env[i]? with
  | some (some w) => .ok w S
  | _ => .stuck
def mCon (d : PyData) : M W := fun _ _ S => .ok (.dat d) S
section
variable {X : Cx} {g : Gx} {B : WX}
theorem rd_var {i : Nat} (σ : St) (H : Hp) (Q : VK) (h : rd g B (mVar i) σ H Q) : tVar i σ H Q := by
  obtain ⟨bs, ρ, F, N, env, S, s, e, p⟩ := h
  unfold mVar at p
  split at p
  · rename_i w hw
    obtain ⟨v, h1, h2⟩ := e.at_ i w hw
    exact ⟨v, h1, p ρ F H v (Grow.refl _ _) s h2.weak⟩
  · exact p.elim
theorem re_var {i : Nat} {x : Str} {pos : Pos} (hN : X.N[i]? = some x := by rfl) (hv : Vis X.env.scope x := by first | exact Or.inl rfl | exact Or.inr (Or.inl rfl) | exact Or.inr (Or.inr rfl)) (hd : (x == ("__debug__" : Str)) = false := by decide)
    (hcd : (x == ("__classdict__" : Str)) = false := by decide) : PE X (.Name x pos) (rd g B (mVar i)) := (pe_var hN hv hd hcd).imp rd_var
theorem rd_con {d : PyData} {v : V} (hr : ∀ F, Rp g.K F v d) (σ : St) (H : Hp) (Q : VK) (h : rd g B (mCon d) σ H Q) : tC v σ H Q := by
  obtain ⟨bs, ρ, F, N, env, S, s, e, p⟩ := h
  exact p ρ F H v (Grow.refl _ _) s (.dat (hr F))
theorem re_int {i : Int} {j pos} : PE X (.Constant (.int i) j pos) (rd g B (mCon (.int i))) := pe_int.imp (rd_con fun _ => .int i)
theorem re_bl {b : Bool} {j pos} : PE X (.Constant (.bool b) j pos) (rd g B (mCon (.bool b))) := pe_bl.imp (rd_con fun _ => .bl b)
theorem re_non {j pos} : PE X (.Constant .none j pos) (rd g B (mCon .none)) := pe_non.imp (rd_con fun _ => .non)
theorem re_str {x : Str} {j pos} : PE X (.Constant (.str x) j pos) (rd g B (mCon (.str x))) := pe_str.imp (rd_con fun _ => .str x)
theorem re_glob {x : Str} {v : V} {u : Value} {d : PyData} {pos : Pos} (hg : Gl X x) (hm : X.mg x = some u) (r : RelV v u) (hr : ∀ F, Rp g.K F v d) (hd : (x == ("__debug__" : Str)) = false := by decide) : PE X (.Name x pos) (rd g B (mCon d)) :=
  (pe_glob hg hm r hd).imp (rd_con hr)

/-! ### operations on two values -/
abbrev Op2 := List Nat → W → W → Store → Option (W × Store)
def mBin (f : Op2) (ma mb : M W) : M W := fun bs env S => (ma bs env S).bind fun x S1 => (mb bs env S1).bind fun y S2 => match f bs x y S2 with
  | some (w, S3) => .ok w S3
  | none => .stuck
def PostV (g : Gx) (bs : List Nat) (ρ : List Addr) (F N : Hp) (Q : VK) : Option (W × Store) → Prop
  | some (w, S') => ∀ ρ' F' H' v, Grow ρ F ρ' F' → Sim g bs ρ' F' N S' H' → Is g.K ρ' F' v w → Q v H'
  | none => False
def rd2 (g : Gx) (f : Op2) : R2 := fun x y H Q => ∃ bs ρ F N S wx wy, Sim g bs ρ F N S H ∧ Is g.K ρ F x wx ∧ Is g.K ρ F y wy ∧ PostV g bs ρ F N Q (f bs wx wy S)
theorem post_op {o : Option (W × Store)} {bs : List Nat} {ρ : List Addr} {F N : Hp} {σ : St} {Q : VK} (p : Post g B (RW g) bs ρ F N σ Q (match o with
    | some (w, S3) => .ok w S3
    | none => .stuck)) : PostV g bs ρ F N Q o := by
  cases o with
  | none => exact p
  | some q => exact p
theorem rd_bin {f : Op2} {ma mb : M W} (σ : St) (H : Hp) (Q : VK) (h : rd g B (mBin f ma mb) σ H Q) : tOp (rd2 g f) (rd g B ma) (rd g B mb) σ H Q := by
  obtain ⟨bs, ρ, F, N, env, S, s, e, p⟩ := h
  refine ⟨bs, ρ, F, N, env, S, s, e, (Post.bind p).imp fun x H1 ⟨ρ1, F1, wx, S1, g1, s1, r1, p1⟩ => ?_⟩
  refine ⟨bs, ρ1, F1, N, env, S1, s1, e.mono g1, (Post.bind p1).imp fun y H2 ⟨ρ2, F2, wy, S2, g2, s2, r2, p2⟩ => ?_⟩
  exact ⟨bs, ρ2, F2, N, S2, wx, wy, s2, r1.mono g2, r2, post_op p2⟩
variable {a b c e : Expr} {ma mb mc : M W} {pos : Pos} {f f' : Op2}
theorem re_bin {op : Operator} (ho : OpR X (binaryOp op) (rd2 g f)) (ha : PE X a (rd g B ma)) (hb : PE X b (rd g B mb)) : PE X (.BinOp a op b pos) (rd g B (mBin f ma mb)) := (pe_op ho ha hb).imp rd_bin
theorem re_cmp {op : CmpOp} (ho : OpR X (compareOp op) (rd2 g f)) (ha : PE X a (rd g B ma)) (hb : PE X b (rd g B mb)) (hm : behindInMarks op b = false := by first | exact nomark _ | rfl) : PE X (.Compare a [op] [b] pos) (rd g B (mBin f ma mb)) := (pe_cmpR ho ha hb hm).imp rd_bin
/-! ### tests -/
/-- the value as a truth, when it is a bool -/
def mB (m : M W) : M Bool := fun bs env S => (m bs env S).bind fun w S1 => match w with
  | .dat (.bool b) => .ok b S1
  | _ => .stuck
theorem is_bl {K : PySem.W.Frag} {ρ : List Addr} {F : Hp} {v : V} {b : Bool} (h : Is K ρ F v (.dat (.bool b))) : v = .bl b := by
  cases h with
  | dat r => cases r; rfl
theorem is_int {K : PySem.W.Frag} {ρ : List Addr} {F : Hp} {v : V} {b : Int} (h : Is K ρ F v (.dat (.int b))) : v = .int b := by
  cases h with
  | dat r => cases r; rfl
theorem is_str {K : PySem.W.Frag} {ρ : List Addr} {F : Hp} {v : V} {b : Str} (h : Is K ρ F v (.dat (.str b))) : v = .str b := by
  cases h with
  | dat r => cases r; rfl
theorem is_non {K : PySem.W.Frag} {ρ : List Addr} {F : Hp} {v : V} (h : Is K ρ F v (.dat .none)) : v = .non := by
  cases h with
  | dat r => cases r; rfl
theorem rd_B {m : M W} {σ : St} {H : Hp} {Q : Bool → Hp → Prop} (h : rdT g B (mB m) σ H Q) : rd g B m σ H (fun x H1 => ∃ k, x = .bl k ∧ Q k H1) := by
  obtain ⟨bs, ρ, F, N, env, S, s, e, p⟩ := h
  refine ⟨bs, ρ, F, N, env, S, s, e, (Post.bind (R1 := RW g) p).imp fun x H1 ⟨ρ1, F1, wx, S1, g1, s1, r1, p1⟩ => ?_⟩
  split at p1
  · have ev := is_bl r1
    subst ev
    exact ⟨_, rfl, p1 ρ1 F1 H1 _ (Grow.refl _ _) s1 rfl⟩
  · exact p1.elim
theorem rt_cmp {op : CmpOp} (ho : OpR X (compareOp op) (rd2 g f)) (ha : PE X a (rd g B ma)) (hb : PE X b (rd g B mb)) (hm : behindInMarks op b = false := by first | exact nomark _ | rfl) : PT X (.Compare a [op] [b] pos) (rdT g B (mB (mBin f ma mb))) :=
  (pt_cmpR ho ha hb hm).imp fun σ H Q h => rd_bin σ H _ (rd_B h)
def mNot (m : M Bool) : M Bool := fun bs env S => (m bs env S).bind fun b S1 => .ok (!b) S1
theorem rd_not {m : M Bool} (σ : St) (H : Hp) (Q : Bool → Hp → Prop) (h : rdT g B (mNot m) σ H Q) : tNot (rdT g B m) σ H Q := by
  obtain ⟨bs, ρ, F, N, env, S, s, e, p⟩ := h
  refine ⟨bs, ρ, F, N, env, S, s, e, (Post.bind (R1 := RB) p).imp fun x H1 ⟨ρ1, F1, wx, S1, g1, s1, r1, p1⟩ => ?_⟩
  cases r1
  exact p1 ρ1 F1 H1 _ (Grow.refl _ _) s1 rfl
theorem rt_not {m : M Bool} (h : PT X a (rdT g B m)) : PT X (.UnaryOp .Not a pos) (rdT g B (mNot m)) := (pt_not h).imp rd_not
def mIf {α : Type} (t : M Bool) (m n : M α) : M α := fun bs env S => (t bs env S).bind fun b S1 => if b = true then m bs env S1 else n bs env S1
theorem rd_if {α β : Type} {R : List Addr → Hp → β → α → Prop} {t : M Bool} {m n : M α} (σ : St) (H : Hp) (Q : β → Hp → Prop) (h : rdG g B R (mIf t m n) σ H Q) :
    rdT g B t σ H fun c H1 => if c = true then rdG g B R m σ H1 Q else rdG g B R n σ H1 Q := by
  obtain ⟨bs, ρ, F, N, env, S, s, e, p⟩ := h
  refine ⟨bs, ρ, F, N, env, S, s, e, (Post.bind (R1 := RB) p).imp fun x H1 ⟨ρ1, F1, wx, S1, g1, s1, r1, p1⟩ => ?_⟩
  cases r1
  cases x with
  | true => exact ⟨bs, ρ1, F1, N, env, S1, s1, e.mono g1, p1⟩
  | false => exact ⟨bs, ρ1, F1, N, env, S1, s1, e.mono g1, p1⟩
theorem rdG_imp {α β : Type} {R : List Addr → Hp → β → α → Prop} {m : M α} {σ : St} {H : Hp} {Q Q' : β → Hp → Prop} (h : rdG g B R m σ H Q) (i : ∀ v H, Q v H → Q' v H) : rdG g B R m σ H Q' := by
  obtain ⟨bs, ρ, F, N, env, S, s, e, p⟩ := h
  exact ⟨bs, ρ, F, N, env, S, s, e, p.imp i⟩
abbrev mAnd (t u : M Bool) : M Bool := mIf t u (fun _ _ S => .ok false S)
abbrev mOr (t u : M Bool) : M Bool := mIf t (fun _ _ S => .ok true S) u
theorem rd_ok {α β : Type} {R : List Addr → Hp → β → α → Prop} {x : α} {y : β} (hr : ∀ ρ F, R ρ F y x) (σ : St) (H : Hp) (Q : β → Hp → Prop) (h : rdG g B R (fun _ _ S => .ok x S) σ H Q) : Q y H := by
  obtain ⟨bs, ρ, F, N, env, S, s, e, p⟩ := h
  exact p ρ F H y (Grow.refl _ _) s (hr ρ F)
theorem rd_and {t u : M Bool} (σ : St) (H : Hp) (Q : Bool → Hp → Prop) (h : rdT g B (mAnd t u) σ H Q) : tAnd (rdT g B t) (rdT g B u) σ H Q :=
  rdG_imp (rd_if σ H Q h) fun c H1 q => by
    cases c with
    | true => exact q
    | false => exact rd_ok (R := RB) (y := false) (fun _ _ => rfl) σ H1 Q q
theorem rd_or {t u : M Bool} (σ : St) (H : Hp) (Q : Bool → Hp → Prop) (h : rdT g B (mOr t u) σ H Q) : tOr (rdT g B t) (rdT g B u) σ H Q :=
  rdG_imp (rd_if σ H Q h) fun c H1 q => by
    cases c with
    | true => exact rd_ok (R := RB) (y := true) (fun _ _ => rfl) σ H1 Q q
    | false => exact q
theorem rw_and1 {m : M Bool} (h : PT X a (rdT g B m)) : PW X (.BoolOp .And [a] pos) (rdT g B m) := pw_and1 h
theorem rw_or1 {m : M Bool} (h : PT X a (rdT g B m)) : PW X (.BoolOp .Or [a] pos) (rdT g B m) := pw_or1 h
theorem rw_and {m n : M Bool} {rest : List Expr} (h : PT X a (rdT g B m)) (k : PW X (.BoolOp .And (b :: rest) pos) (rdT g B n)) : PW X (.BoolOp .And (a :: b :: rest) pos) (rdT g B (mAnd m n)) := (pw_and h k).imp rd_and
theorem rw_or {m n : M Bool} {rest : List Expr} (h : PT X a (rdT g B m)) (k : PW X (.BoolOp .Or (b :: rest) pos) (rdT g B n)) : PW X (.BoolOp .Or (a :: b :: rest) pos) (rdT g B (mOr m n)) := (pw_or h k).imp rd_or
theorem re_ife {m : M Bool} (ht : PT X c (rdT g B m)) (ha : PE X a (rd g B ma)) (hb : PE X b (rd g B mb)) : PE X (.IfExp c a b pos) (rd g B (mIf m ma mb)) := (pe_ifExp ht ha hb).imp fun σ H Q h => rd_if σ H Q h
end
end Rf

namespace Rf
open PySem L2

/-! ### new lists: frozen, or a cell -/
def newL (k : Bool) (ws : List W) (S : Store) : W × Store := if k then (.loc S.length, S ++ [.lst ws]) else (mkLst ws, S)
section
variable {g : Gx} {bs : List Nat} {ρ : List Addr} {F N H : Hp} {S : Store}
theorem new_ok {k : Bool} {p : Addr} {vs : List V} {ws : List W} {Q : VK} (s : Sim g bs ρ F N S H) (hp : H p = none) (r : IsAll g.K ρ F vs ws)
    (h : ∀ ρ' F' H' v, Grow ρ F ρ' F' → Sim g bs ρ' F' N (newL k ws S).2 H' → Is g.K ρ' F' v (newL k ws S).1 → Q v H') : Q (.ref p) (upd H p (.lst vs)) := by
  cases k with
  | true =>
    obtain ⟨s', gr⟩ := s.newCell (c := .lst ws) (o := .lst vs) hp ⟨vs, upd_same, r.mono ⟨⟨[p], rfl⟩, Same.refl F⟩⟩
    refine h _ _ _ _ gr s' (.loc ?_)
    show (ρ ++ [p])[S.length]? = some p
    rw [← s.len]; simp
  | false =>
    obtain ⟨s', gr⟩ := s.frozen (o := .lst vs) hp
    exact h _ _ _ _ gr s' (is_mkLst upd_same (r.mono gr))
theorem newT_ok {p : Addr} {vs : List V} {ws : List W} {Q : VK} (s : Sim g bs ρ F N S H) (hp : H p = none) (r : IsAll g.K ρ F vs ws)
    (h : ∀ ρ' F' H' v, Grow ρ F ρ' F' → Sim g bs ρ' F' N S H' → Is g.K ρ' F' v (mkTup ws) → Q v H') : Q (.ref p) (upd H p (.tup vs)) := by
  obtain ⟨s', gr⟩ := s.frozen (o := .tup vs) hp
  exact h _ _ _ _ gr s' (is_mkTup upd_same (r.mono gr))
end

/-! ### arguments, tuples, lists -/
def mNil : M (List W) := fun _ _ S => .ok [] S
def mCons (m : M W) (ms : M (List W)) : M (List W) := fun bs env S => (m bs env S).bind fun w S1 => (ms bs env S1).bind fun ws S2 => .ok (w :: ws) S2
def mTup (ms : M (List W)) : M W := fun bs env S => (ms bs env S).bind fun ws S1 => if ws.length ≤ 100000 then .ok (mkTup ws) S1 else .stuck
def mLst (k : Bool) (ms : M (List W)) : M W := fun bs env S => (ms bs env S).bind fun ws S1 => if ws.length ≤ 100000 then .ok (newL k ws S1).1 (newL k ws S1).2 else .stuck
theorem line5 {n : Nat} (h : n ≤ 100000) : n ≤ sizeLine := Nat.le_trans h (by decide)
section
variable {X : Cx} {g : Gx} {B : WX} {a b c e : Expr} {es : List Expr} {ma mb mc : M W} {ms : M (List W)} {pos : Pos} {f f' : Op2}
theorem ra_nil : PA X [] (rdA g B mNil) := pa_nil.imp fun σ H Q ⟨bs, ρ, F, N, env, S, s, e, p⟩ => p ρ F H [] (Grow.refl _ _) s .nil
theorem ra_cons (ha : PE X e (rd g B ma)) (hr : PA X es (rdA g B ms)) (hs : starEach (e :: es) X.env = (false, eval e X.env) :: starEach es X.env := by rfl) : PA X (e :: es) (rdA g B (mCons ma ms)) :=
  (pa_cons ha hr hs).imp fun σ H Q ⟨bs, ρ, F, N, env, S, s, e, p⟩ => by
    refine ⟨bs, ρ, F, N, env, S, s, e, (Post.bind p).imp fun x H1 ⟨ρ1, F1, wx, S1, g1, s1, r1, p1⟩ => ?_⟩
    refine ⟨bs, ρ1, F1, N, env, S1, s1, e.mono g1, (Post.bind p1).imp fun y H2 ⟨ρ2, F2, wy, S2, g2, s2, r2, p2⟩ => ?_⟩
    exact p2 ρ2 F2 H2 _ (Grow.refl _ _) s2 (.cons (r1.mono g2) r2)
theorem re_tup {x1} (h : PA X es (rdA g B ms)) : PE X (.Tuple es x1 pos) (rd g B (mTup ms)) := (pe_tup h).imp fun σ H Q ⟨bs, ρ, F, N, env, S, s, e, p⟩ => by
  refine ⟨bs, ρ, F, N, env, S, s, e, (Post.bind p).imp fun x H1 ⟨ρ1, F1, wx, S1, g1, s1, r1, p1⟩ => ?_⟩
  split at p1
  · rename_i hl
    refine ⟨line5 (by rw [r1.len]; exact hl), fun q hq => newT_ok s1 hq r1 p1⟩
  · exact p1.elim
theorem re_lst {k : Bool} (h : PA X es (rdA g B ms)) : PE X (.List es pos) (rd g B (mLst k ms)) := (pe_lst h).imp fun σ H Q ⟨bs, ρ, F, N, env, S, s, e, p⟩ => by
  refine ⟨bs, ρ, F, N, env, S, s, e, (Post.bind p).imp fun x H1 ⟨ρ1, F1, wx, S1, g1, s1, r1, p1⟩ => ?_⟩
  split at p1
  · rename_i hl
    refine ⟨line5 (by rw [r1.len]; exact hl), fun q hq => new_ok s1 hq r1 p1⟩
  · exact p1.elim

/-! ### views -/
/-- the items of a tuple, of a list -/
def tupOf : W → Option (List W)
  | .dat (.tuple ds) => some (ds.map .dat)
  | .tw ws => some ws
  | _ => none
def lstOf (S : Store) : W → Option (List W)
  | .dat (.list ds) => some (ds.map .dat)
  | .lw ws => some ws
  | .loc n => match S[n]? with
    | some (.lst ws) => some ws
    | _ => none
  | _ => none
def seqOf (S : Store) (w : W) : Option (List W) := match tupOf w with
  | some ws => some ws
  | none => lstOf S w
section
variable {bs : List Nat} {ρ : List Addr} {F N H : Hp} {S : Store} {v : V} {w : W} {ws : List W}
theorem tup_of (r : Is g.K ρ F v w) (h : tupOf w = some ws) : ∃ a vs, v = .ref a ∧ SqT g.K F a vs ∧ IsAll g.K ρ F vs ws := by
  cases w with
  | dat d =>
    cases d <;> simp only [tupOf] at h <;> try cases h
    cases r with
    | dat r => cases r with
      | tup q r => exact ⟨_, _, rfl, SqT.of q, r.isAll⟩
  | loc n => simp [tupOf] at h
  | tw xs => cases h; cases r with
    | tw q r => exact ⟨_, _, rfl, q, r⟩
  | lw xs => simp [tupOf] at h
  | kt ds => simp [tupOf] at h
  | fn x => simp [tupOf] at h
  | rg x y z => simp [tupOf] at h
theorem lst_of (s : Sim g bs ρ F N S H) (r : Is g.K ρ F v w) (h : lstOf S w = some ws) : ∃ a vs, v = .ref a ∧ SqL g.K H a vs ∧ IsAll g.K ρ F vs ws := by
  cases w with
  | dat d =>
    cases d <;> simp only [lstOf] at h <;> try cases h
    cases r with
    | dat r => cases r with
      | lst q r => exact ⟨_, _, rfl, SqL.of (s.ex _ _ q), r.isAll⟩
  | loc n =>
    simp only [lstOf] at h
    split at h
    · rename_i xs hn
      cases h
      cases r with
      | loc hr =>
        obtain ⟨vs, e, q⟩ := s.cell n _ _ hn hr
        exact ⟨_, vs, rfl, SqL.of e, q⟩
    · cases h
  | tw xs => simp [lstOf] at h
  | lw xs => cases h; cases r with
    | lw q r => exact ⟨_, _, rfl, s.ex.seq q, r⟩
  | kt ds => simp [lstOf] at h
  | fn x => simp [lstOf] at h
  | rg x y z => simp [lstOf] at h
theorem seq_of (s : Sim g bs ρ F N S H) (r : Is g.K ρ F v w) (h : seqOf S w = some ws) : ∃ a vs, v = .ref a ∧ (SqL g.K H a vs ∨ SqT g.K H a vs) ∧ IsAll g.K ρ F vs ws := by
  unfold seqOf at h
  split at h
  · cases h; rename_i ht
    obtain ⟨a, vs, e, q, r⟩ := tup_of r ht
    exact ⟨a, vs, e, .inr (Same.sqT s.ex q), r⟩
  · obtain ⟨a, vs, e, q, r⟩ := lst_of s r h
    exact ⟨a, vs, e, .inl q, r⟩
end
theorem IsAll.get {K : PySem.W.Frag} {ρ : List Addr} {F : Hp} : ∀ {ws : List W} {vs : List V} {i : Nat} {w : W}, IsAll K ρ F vs ws → ws[i]? = some w → ∃ v, vs[i]? = some v ∧ Is K ρ F v w
  | _ :: _, _, 0, w, .cons a b, e => by simp at e; subst e; exact ⟨_, rfl, a⟩
  | _ :: _, _, i + 1, w, .cons a b, e => by simpa using IsAll.get (i := i) b (by simpa using e)
theorem IsAll.atI {K : PySem.W.Frag} {ρ : List Addr} {F : Hp} {ws : List W} {vs : List V} {i : Int} {w : W} (h : IsAll K ρ F vs ws) (e : L2.atI ws i = some w) : ∃ v, L2.atI vs i = some v ∧ Is K ρ F v w := by
  unfold L2.atI at e ⊢
  rw [h.len]
  cases hx : ixN ws.length i with
  | none => rw [hx] at e; cases e
  | some j => rw [hx] at e; exact h.get e
theorem IsAll.append {K : PySem.W.Frag} {ρ : List Addr} {F : Hp} : ∀ {ws xs : List W} {vs us : List V}, IsAll K ρ F vs ws → IsAll K ρ F us xs → IsAll K ρ F (vs ++ us) (ws ++ xs)
  | [], _, _, _, .nil, h => h
  | _ :: _, _, _, _, .cons a b, h => .cons a (IsAll.append b h)
theorem IsAll.drop {K : PySem.W.Frag} {ρ : List Addr} {F : Hp} : ∀ {ws : List W} {vs : List V} (n : Nat), IsAll K ρ F vs ws → IsAll K ρ F (vs.drop n) (ws.drop n)
  | _, _, 0, h => h
  | [], _, n + 1, .nil => .nil
  | _ :: _, _, n + 1, .cons a b => IsAll.drop n b
theorem IsAll.take {K : PySem.W.Frag} {ρ : List Addr} {F : Hp} : ∀ {ws : List W} {vs : List V} (n : Nat), IsAll K ρ F vs ws → IsAll K ρ F (vs.take n) (ws.take n)
  | _, _, 0, h => .nil
  | [], _, n + 1, .nil => .nil
  | _ :: _, _, n + 1, .cons a b => .cons a (IsAll.take n b)
theorem IsAll.set {K : PySem.W.Frag} {ρ : List Addr} {F : Hp} {v : V} {w : W} (r : Is K ρ F v w) : ∀ {ws : List W} {vs : List V} (n : Nat), IsAll K ρ F vs ws → IsAll K ρ F (vs.set n v) (ws.set n w)
  | [], _, n, .nil => .nil
  | _ :: _, _, 0, .cons a b => .cons r b
  | _ :: _, _, n + 1, .cons a b => .cons a (IsAll.set r n b)
/-- a pure operation -/
def pure2 (f : Store → W → W → Option W) : Op2 := fun _ x y S => (f S x y).map (·, S)

/-! ### arithmetic -/
/-- a list that may be added to another one -/
def lstM (S : Store) : W → Option (List W)
  | .dat (.list ds) => some (ds.map .dat)
  | .loc n => match S[n]? with
    | some (.lst ws) => some ws
    | _ => none
  | _ => none
theorem lstM_of {bs : List Nat} {ρ : List Addr} {F N H : Hp} {S : Store} {v : V} {w : W} {ws : List W} (s : Sim g bs ρ F N S H) (r : Is g.K ρ F v w) (h : lstM S w = some ws) : ∃ a vs, v = .ref a ∧ H a = some (.lst vs) ∧ IsAll g.K ρ F vs ws := by
  cases w with
  | dat d =>
    cases d <;> simp only [lstM] at h <;> try cases h
    cases r with
    | dat r => cases r with
      | lst q r => exact ⟨_, _, rfl, s.ex _ _ q, r.isAll⟩
  | loc n =>
    simp only [lstM] at h
    split at h
    · rename_i xs hn
      cases h
      cases r with
      | loc hr =>
        obtain ⟨vs, e, q⟩ := s.cell n _ _ hn hr
        exact ⟨_, vs, rfl, e, q⟩
    · cases h
  | tw xs => simp [lstM] at h
  | lw xs => simp [lstM] at h
  | kt ds => simp [lstM] at h
  | fn x => simp [lstM] at h
  | rg x y z => simp [lstM] at h
def addF (k : Bool) : Op2 := fun _ x y S => match x, y with
  | .dat (.int i), .dat (.int j) => some (.int (i + j), S)
  | .dat (.str i), .dat (.str j) => if i.length + j.length ≤ 100000 then some (.str (i ++ j), S) else none
  | .dat (.tuple a), .dat (.tuple b) => if a.length + b.length ≤ 100000 then some (.dat (.tuple (a ++ b)), S) else none
  | x, y => match tupOf x, tupOf y with
    | some xs, some ys => if xs.length + ys.length ≤ 100000 then some (if xs.isEmpty then y else if ys.isEmpty then x else mkTup (xs ++ ys), S) else none
    | _, _ => match lstM S x, lstM S y with
      | some xs, some ys => if xs.length + ys.length ≤ 100000 then some (newL k (xs ++ ys) S) else none
      | _, _ => none
theorem ro_add (hK : g.K = X.K) {k : Bool} : OpR X (binaryOp .Add) (rd2 g (addF k)) := by
  intro pins s σ H x y v u Q I rx ry ⟨bs, ρ, F, N, S, wx, wy, s1, r1, r2, p⟩
  unfold addF at p
  split at p
  · rw [is_int r1] at rx; rw [is_int r2] at ry
    exact op_add pins s σ H _ _ v u Q I rx ry ⟨_, _, rfl, rfl, p ρ F H _ (Grow.refl _ _) s1 (.dat (.int _))⟩
  · split at p
    · rename_i hl
      rw [is_str r1] at rx; rw [is_str r2] at ry
      exact op_add_str pins s σ H _ _ v u Q I rx ry ⟨_, _, rfl, rfl, line5 hl, p ρ F H _ (Grow.refl _ _) s1 (.dat (.str _))⟩
    · exact p.elim
  · split at p
    · rename_i a b hl
      have r1' := r1
      have r2' := r2
      cases r1 with
      | dat r1 => cases r1 with
        | tup q1 l1 => cases r2 with
          | dat r2 => cases r2 with
            | tup q2 l2 =>
              refine op_catA pins s σ H _ _ v u Q I rx ry ⟨_, _, _, _, rfl, rfl, SqT.of (s1.ex _ _ q1), SqT.of (s1.ex _ _ q2), line5 (by rw [l1.len, l2.len]; exact hl), fun e => ?_, fun _ e => ?_, fun _ _ q hq => newT_ok s1 hq (l1.isAll.append l2.isAll) (by rw [← List.map_append, mkTup_dat]; exact p)⟩
              · subst e; cases l1; exact p ρ F H _ (Grow.refl _ _) s1 r2'
              · subst e; cases l2; rw [List.append_nil] at p; exact p ρ F H _ (Grow.refl _ _) s1 r1'
    · exact p.elim
  · split at p
    · rename_i xs ys h1 h2
      split at p
      · rename_i hl
        obtain ⟨a, vs, e1, q1, l1⟩ := tup_of r1 h1
        obtain ⟨b, us, e2, q2, l2⟩ := tup_of r2 h2
        subst e1 e2
        have n1 : xs.isEmpty = vs.isEmpty := by have := l1.len; cases xs <;> cases vs <;> simp_all
        have n2 : ys.isEmpty = us.isEmpty := by have := l2.len; cases ys <;> cases us <;> simp_all
        refine op_catA pins s σ H _ _ v u Q I rx ry ⟨a, b, vs, us, rfl, rfl, ?_, ?_, line5 (by rw [l1.len, l2.len]; exact hl), fun e => ?_, fun n e => ?_, fun n n' q hq => newT_ok s1 hq (l1.append l2) ?_⟩
        · rw [← hK]; exact Same.sqT s1.ex q1
        · rw [← hK]; exact Same.sqT s1.ex q2
        · subst e; rw [n1] at p; exact p ρ F H _ (Grow.refl _ _) s1 r2
        · subst e; rw [n1, n2] at p
          have z : vs.isEmpty = false := by cases vs <;> simp_all
          rw [z] at p; exact p ρ F H _ (Grow.refl _ _) s1 r1
        · rw [n1, n2] at p
          have z : vs.isEmpty = false := by cases vs <;> simp_all
          have z' : us.isEmpty = false := by cases us <;> simp_all
          rw [z, z'] at p; exact p
      · exact p.elim
    · split at p
      · rename_i xs ys h1 h2
        split at p
        · rename_i hl
          obtain ⟨a, vs, e1, q1, l1⟩ := lstM_of s1 r1 h1
          obtain ⟨b, us, e2, q2, l2⟩ := lstM_of s1 r2 h2
          subst e1 e2
          exact op_cat pins s σ H _ _ v u Q I rx ry ⟨a, b, vs, us, rfl, rfl, q1, q2, line5 (by rw [l1.len, l2.len]; exact hl), fun q hq => new_ok s1 hq (l1.append l2) p⟩
        · exact p.elim
      · exact p.elim
def intF (f : Int → Int → Option Int) : Op2 := fun _ x y S => match x, y with
  | .dat (.int i), .dat (.int j) => (f i j).map fun z => (.int z, S)
  | _, _ => none
theorem ro_int {op : Operator} {f : Int → Int → Option Int} {C : Int → Int → Prop} {h : Int → Int → Int} (ho : OpR X (binaryOp op) (rI C fun i j => .int (h i j))) (hf : ∀ i j z, f i j = some z → C i j ∧ z = h i j) : OpR X (binaryOp op) (rd2 g (intF f)) := by
  intro pins s σ H x y v u Q I rx ry ⟨bs, ρ, F, N, S, wx, wy, s1, r1, r2, p⟩
  unfold intF at p
  split at p
  · rename_i i j
    rw [is_int r1] at rx; rw [is_int r2] at ry
    cases hz : f i j with
    | none => rw [hz] at p; exact p.elim
    | some z =>
      rw [hz] at p
      obtain ⟨c, e⟩ := hf i j z hz
      subst e
      exact ho pins s σ H _ _ v u Q I rx ry ⟨_, _, rfl, rfl, c, p ρ F H _ (Grow.refl _ _) s1 (.dat (.int _))⟩
  · exact p.elim
def subF : Op2 := intF fun i j => some (i - j)
def modF : Op2 := intF fun i j => if 0 < j then some (i % j) else none
def fdivF : Op2 := intF fun i j => if 0 < j ∧ j.natAbs.log2 < 9000 then some (i / j) else none
def powF : Op2 := intF fun i j => if 0 ≤ j ∧ (i.natAbs.log2 + 1) * j.toNat ≤ 100000000 then some (i ^ j.toNat) else none
theorem ro_sub : OpR X (binaryOp .Sub) (rd2 g subF) := ro_int (C := fun _ _ => True) (h := fun i j => i - j) (fun pins s σ H x y v u Q I rx ry ⟨i, j, e1, e2, _, q⟩ => op_sub pins s σ H x y v u Q I rx ry ⟨i, j, e1, e2, q⟩) fun i j z e => ⟨trivial, by cases e; rfl⟩
theorem ro_mod : OpR X (binaryOp .Mod) (rd2 g modF) := ro_int (C := fun _ j => 0 < j) (h := fun i j => i % j) op_mod fun i j z e => by
  split at e
  · rename_i h; cases e; exact ⟨h, rfl⟩
  · cases e
theorem ro_fdiv : OpR X (binaryOp .FloorDiv) (rd2 g fdivF) := ro_int (C := CDivW) (h := fun i j => i / j) op_fdivW fun i j z e => by
  split at e
  · rename_i h; cases e; exact ⟨h, rfl⟩
  · cases e
theorem ro_pow : OpR X (binaryOp .Pow) (rd2 g powF) := ro_int (C := fun i j => 0 ≤ j ∧ (i.natAbs.log2 + 1) * j.toNat ≤ 100000000) (h := fun i j => i ^ j.toNat)
    (opI fun i j _ _ _ _ _ hc q => PyProof.Rows.pow_int hc.1 (by
      have b : Builtin.Int.intBits i ≤ i.natAbs.log2 + 1 := by
        unfold Builtin.Int.intBits
        split <;> omega
      have h2 := hc.2
      have h3 : Builtin.Int.intBits i * j.toNat ≤ (i.natAbs.log2 + 1) * j.toNat := Nat.mul_le_mul_right _ b
      have h4 : (Builtin.Int.intBits i : Int) * j = ((Builtin.Int.intBits i * j.toNat : Nat) : Int) := by
        rw [Int.natCast_mul, Int.toNat_of_nonneg hc.1]
      rw [h4]
      omega) q) fun i j z e => by
  split at e
  · rename_i h; cases e; exact ⟨h, rfl⟩
  · cases e
def mulOk (i j : Int) : Bool := decide (i.natAbs < 18446744073709551616) || decide (j.natAbs < 18446744073709551616) || decide (i.natAbs.log2 + j.natAbs.log2 < 900000)
def mulF (k : Bool) : Op2 := fun _ x y S => match x, y with
  | .dat (.int i), .dat (.int j) => if mulOk i j then some (.int (i * j), S) else none
  | x, .dat (.int j) => match tupOf x with
    | some xs => if xs.length ≤ 1000 ∧ 0 < xs.length ∧ 2 ≤ j ∧ j ≤ 1000 then some (mkTup (List.replicate j.toNat xs).flatten, S) else none
    | none => match lstM S x with
      | some xs => if xs.length ≤ 1000 ∧ 0 ≤ j ∧ j ≤ 1000 then some (newL k (List.replicate j.toNat xs).flatten S) else none
      | none => none
  | _, _ => none
theorem IsAll.rep {K : PySem.W.Frag} {ρ : List Addr} {F : Hp} {ws : List W} {vs : List V} (h : IsAll K ρ F vs ws) : ∀ n, IsAll K ρ F (List.replicate n vs).flatten (List.replicate n ws).flatten
  | 0 => .nil
  | n + 1 => by rw [List.replicate_succ, List.replicate_succ, List.flatten_cons, List.flatten_cons]; exact h.append (IsAll.rep h n)
theorem ro_mul (hK : g.K = X.K) {k : Bool} : OpR X (binaryOp .Mult) (rd2 g (mulF k)) := by
  intro pins s σ H x y v u Q I rx ry ⟨bs, ρ, F, N, S, wx, wy, s1, r1, r2, p⟩
  unfold mulF at p
  split at p
  · rename_i i j
    split at p
    · rename_i hm
      rw [is_int r1] at rx; rw [is_int r2] at ry
      have q : Q (.int (i * j)) H := p ρ F H _ (Grow.refl _ _) s1 (.dat (.int _))
      unfold mulOk at hm
      simp only [Bool.or_eq_true, decide_eq_true_eq] at hm
      rcases hm with (hm | hm) | hm
      · exact op_mul pins s σ H _ _ v u Q I rx ry ⟨_, _, rfl, rfl, .inl (by omega), q⟩
      · exact op_mul pins s σ H _ _ v u Q I rx ry ⟨_, _, rfl, rfl, .inr (by omega), q⟩
      · exact op_mulW pins s σ H _ _ v u Q I rx ry ⟨_, _, rfl, rfl, (by unfold CMulW; omega), q⟩
    · exact p.elim
  · rename_i j _
    rw [is_int r2] at ry
    split at p
    · rename_i xs h1
      split at p
      · rename_i hl
        obtain ⟨a, vs, e1, q1, l1⟩ := tup_of r1 h1
        subst e1
        refine op_repT pins s σ H _ _ v u Q I rx ry ⟨a, j, vs, rfl, rfl, ?_, ?_, hl.2.2.1, hl.2.2.2, (by rw [l1.len]; exact hl.1), fun q hq => newT_ok s1 hq (l1.rep _) p⟩
        · rw [← hK]; exact Same.sqT s1.ex q1
        · intro z; subst z; have := l1.len; simp at this; omega
      · exact p.elim
    · split at p
      · rename_i xs h1
        split at p
        · rename_i hl
          obtain ⟨a, vs, e1, q1, l1⟩ := lstM_of s1 r1 h1
          subst e1
          refine op_rep pins s σ H _ _ v u Q I rx ry ⟨a, j, vs, rfl, rfl, q1, by omega, by omega, ?_, fun q hq => new_ok s1 hq (l1.rep _) p⟩
          refine Nat.le_trans ?_ (show 1000 * 1000 ≤ sizeLine by decide)
          rw [l1.len]
          exact Nat.mul_le_mul hl.1 (by omega : j.toNat ≤ 1000)
        · exact p.elim
      · exact p.elim
  · exact p.elim
end
end Rf

namespace Rf
open PySem L2

/-! ### data in the heap, without dicts -/
section
variable {K : PySem.W.Frag} {F N H : Hp}
mutual
theorem Rp.dp (e : Same F H) : ∀ {d : PyData} {v : V}, d.plain = true → Rp K F v d → Dp K H v d
  | .none, _, _, h => by cases h; exact .non
  | .bool b, _, _, h => by cases h; exact .bl b
  | .int i, _, _, h => by cases h; exact .int i
  | .str x, _, _, h => by cases h; exact .str x
  | .list ds, _, p, h => by
    cases h with
    | lst s r => exact .lst (SqL.of (e _ _ s)) (RpAll.dp e (by simpa [PyData.plain] using p) r)
  | .tuple ds, _, p, h => by
    cases h with
    | tup s r => exact .tup (SqT.of (e _ _ s)) (RpAll.dp e (by simpa [PyData.plain] using p) r)
  | .dict ds, _, p, h => by simp [PyData.plain] at p
theorem RpAll.dp (e : Same F H) : ∀ {ds : List PyData} {vs : List V}, PyData.plainAll ds = true → RpAll K F vs ds → DpAll K H vs ds
  | [], _, _, h => by cases h; exact .nil
  | d :: ds, _, p, h => by
    have p' : d.plain = true ∧ PyData.plainAll ds = true := by simpa [PyData.plainAll] using p
    cases h with
    | cons a b => exact .cons (Rp.dp e p'.1 a) (RpAll.dp e p'.2 b)
end
end
mutual
/-- the data that a value tells by itself -/
def viewW : W → Option PyData
  | .dat d => some d
  | .loc _ => none
  | .tw ws => (viewAll ws).map .tuple
  | .lw ws => (viewAll ws).map .list
  | .kt _ => none
  | .fn _ => none
  | .rg _ _ _ => none
def viewAll : List W → Option (List PyData)
  | [] => some []
  | w :: ws => match viewW w, viewAll ws with
    | some d, some ds => some (d :: ds)
    | _, _ => none
end
/-- the data that a value tells now -/
def viewD (S : Store) : W → Option PyData
  | .loc n => match S[n]? with
    | some (.lst ws) => (viewAll ws).map .list
    | _ => none
  | w => viewW w
section
variable {X : Cx} {g : Gx} {bs : List Nat} {ρ : List Addr} {F N H : Hp} {S : Store} {v : V} {w : W} {d : PyData}
mutual
theorem viewW_dp {K : PySem.W.Frag} (e : Same F H) : ∀ {w : W} {v : V} {d : PyData}, Is K ρ F v w → viewW w = some d → d.plain = true → Dp K H v d
  | .dat _, _, _, r, h, p => by
    cases h
    cases r with
    | dat r => exact r.dp e p
  | .loc _, _, _, _, h, _ => by simp [viewW] at h
  | .tw ws, _, _, r, h, p => by
    simp only [viewW, Option.map_eq_some_iff] at h
    obtain ⟨ds, h, rfl⟩ := h
    cases r with
    | tw q r => exact .tup (Same.sqT e q) (viewAll_dp e r h (by simpa [PyData.plain] using p))
  | .lw ws, _, _, r, h, p => by
    simp only [viewW, Option.map_eq_some_iff] at h
    obtain ⟨ds, h, rfl⟩ := h
    cases r with
    | lw q r => exact .lst (e.seq q) (viewAll_dp e r h (by simpa [PyData.plain] using p))
  | .kt _, _, _, _, h, _ => by simp [viewW] at h
  | .fn _, _, _, _, h, _ => by simp [viewW] at h
  | .rg _ _ _, _, _, _, h, _ => by simp [viewW] at h
theorem viewAll_dp {K : PySem.W.Frag} (e : Same F H) : ∀ {ws : List W} {vs : List V} {ds : List PyData}, IsAll K ρ F vs ws → viewAll ws = some ds → PyData.plainAll ds = true → DpAll K H vs ds
  | [], _, _, r, h, p => by cases r; simp [viewAll] at h; subst h; exact .nil
  | w :: ws, _, _, r, h, p => by
    cases r with
    | cons a b =>
      simp only [viewAll] at h
      split at h
      · rename_i d ds h1 h2
        cases h
        have p' : d.plain = true ∧ PyData.plainAll ds = true := by simpa [PyData.plainAll] using p
        exact .cons (viewW_dp e a h1 p'.1) (viewAll_dp e b h2 p'.2)
      · cases h
end
theorem view_dp (s : Sim g bs ρ F N S H) (r : Is g.K ρ F v w) (h : viewD S w = some d) (p : d.plain = true) : Dp g.K H v d := by
  cases w with
  | dat d' => exact viewW_dp s.ex r h p
  | loc n =>
    simp only [viewD] at h
    split at h
    · rename_i ws hn
      simp only [Option.map_eq_some_iff] at h
      obtain ⟨ds, h, rfl⟩ := h
      cases r with
      | loc hr =>
        obtain ⟨vs, e, q⟩ := s.cell n _ _ hn hr
        exact .lst (SqL.of e) (viewAll_dp s.ex q h (by simpa [PyData.plain] using p))
    · cases h
  | tw ws => exact viewW_dp s.ex r h p
  | lw ws => exact viewW_dp s.ex r h p
  | kt ws => exact viewW_dp s.ex r h p
  | fn ws => exact viewW_dp s.ex r h p
  | rg x y z => exact viewW_dp s.ex r h p
def eqF (neg : Bool) : Op2 := fun _ x y S => match viewD S x, viewD S y with
  | some d, some e => if d.plain = true ∧ e.plain = true ∧ d.depth ≤ 64 then some (.bl (PyData.eqv d e != neg), S) else none
  | _, _ => none
theorem ro_eq (hK : g.K = X.K) (hu : X.A.units + 100 < cLine) : OpR X (compareOp .Eq) (rd2 g (eqF false)) := by
  intro pins s σ H x y v u Q I rx ry ⟨bs, ρ, F, N, S, wx, wy, s1, r1, r2, p⟩
  unfold eqF at p
  split at p
  · rename_i d e h1 h2
    split at p
    · rename_i hp
      have d1 := view_dp s1 r1 h1 hp.1
      have d2 := view_dp s1 r2 h2 hp.2.1
      rw [hK] at d1 d2
      obtain ⟨as, q1⟩ := Dp.reads I d x v d1 rx
      obtain ⟨bs', q2⟩ := Dp.reads I e y u d2 ry
      refine SeqAt.eq_plain q1 q2 hp.1 hp.2.1 (Nat.lt_of_le_of_lt (Nat.add_le_add_left (Nat.le_trans (Nat.min_le_left _ _) hp.2.2) _) (by omega)) ⟨.bl _, H, I, rfl, ?_⟩
      simpa using p ρ F H (.bl _) (Grow.refl _ _) s1 (.dat (.bl _))
    · exact p.elim
  · exact p.elim
theorem ro_ne (hK : g.K = X.K) (hu : X.A.units + 100 < cLine) : OpR X (compareOp .NotEq) (rd2 g (eqF true)) := by
  intro pins s σ H x y v u Q I rx ry ⟨bs, ρ, F, N, S, wx, wy, s1, r1, r2, p⟩
  unfold eqF at p
  split at p
  · rename_i d e h1 h2
    split at p
    · rename_i hp
      have d1 := view_dp s1 r1 h1 hp.1
      have d2 := view_dp s1 r2 h2 hp.2.1
      rw [hK] at d1 d2
      obtain ⟨as, q1⟩ := Dp.reads I d x v d1 rx
      obtain ⟨bs', q2⟩ := Dp.reads I e y u d2 ry
      refine SeqAt.ne_plain q1 q2 hp.1 hp.2.1 (Nat.lt_of_le_of_lt (Nat.add_le_add_left (Nat.le_trans (Nat.min_le_left _ _) hp.2.2) _) (by omega)) ⟨.bl _, H, I, rfl, ?_⟩
      simpa using p ρ F H (.bl _) (Grow.refl _ _) s1 (.dat (.bl _))
    · exact p.elim
  · exact p.elim
/-- x in a list or tuple -/
def inF (neg : Bool) : Op2 := fun _ x y S => match viewD S x, viewD S y with
  | some d, some (.list es) => if d.plain = true ∧ PyData.plainAll es = true ∧ d.depth ≤ 64 then some (.bl ((es.any fun z => PyData.eqv z d) != neg), S) else none
  | some d, some (.tuple es) => if d.plain = true ∧ PyData.plainAll es = true ∧ d.depth ≤ 64 then some (.bl ((es.any fun z => PyData.eqv z d) != neg), S) else none
  | _, _ => none
theorem unit_of {A : Around} {m n : Nat} (hu : A.units + 100 < cLine) (h : n ≤ 64) : A.units + 1 + min m n < cLine := Nat.lt_of_le_of_lt (Nat.add_le_add_left (Nat.le_trans (Nat.min_le_right _ _) h) _) (by omega)
theorem ro_in (hK : g.K = X.K) (hu : X.A.units + 100 < cLine) : OpR X (compareOp .In) (rd2 g (inF false)) := by
  intro pins s σ H x y v u Q I rx ry ⟨bs, ρ, F, N, S, wx, wy, s1, r1, r2, p⟩
  unfold inF at p
  split at p
  · rename_i d es h1 h2
    split at p
    · rename_i hp
      have d1 := view_dp s1 r1 h1 hp.1
      have d2 := view_dp s1 r2 h2 (by simpa [PyData.plain] using hp.2.1)
      rw [hK] at d1 d2
      obtain ⟨as, q1⟩ := Dp.reads I d x v d1 rx
      obtain ⟨bs', q2⟩ := Dp.reads I _ y u d2 ry
      refine SeqAt.in_list_data q2 q1 hp.2.1 hp.1 (unit_of hu hp.2.2) ⟨.bl _, H, I, rfl, ?_⟩
      simpa using p ρ F H (.bl _) (Grow.refl _ _) s1 (.dat (.bl _))
    · exact p.elim
  · rename_i d es h1 h2
    split at p
    · rename_i hp
      have d1 := view_dp s1 r1 h1 hp.1
      have d2 := view_dp s1 r2 h2 (by simpa [PyData.plain] using hp.2.1)
      rw [hK] at d1 d2
      obtain ⟨as, q1⟩ := Dp.reads I d x v d1 rx
      obtain ⟨bs', q2⟩ := Dp.reads I _ y u d2 ry
      refine SeqAt.in_tuple_data q2 q1 hp.2.1 hp.1 (unit_of hu hp.2.2) ⟨.bl _, H, I, rfl, ?_⟩
      simpa using p ρ F H (.bl _) (Grow.refl _ _) s1 (.dat (.bl _))
    · exact p.elim
  · exact p.elim
theorem ro_notIn (hK : g.K = X.K) (hu : X.A.units + 100 < cLine) : OpR X (compareOp .NotIn) (rd2 g (inF true)) := by
  intro pins s σ H x y v u Q I rx ry ⟨bs, ρ, F, N, S, wx, wy, s1, r1, r2, p⟩
  unfold inF at p
  split at p
  · rename_i d es h1 h2
    split at p
    · rename_i hp
      have d1 := view_dp s1 r1 h1 hp.1
      have d2 := view_dp s1 r2 h2 (by simpa [PyData.plain] using hp.2.1)
      rw [hK] at d1 d2
      obtain ⟨as, q1⟩ := Dp.reads I d x v d1 rx
      obtain ⟨bs', q2⟩ := Dp.reads I _ y u d2 ry
      refine SeqAt.notIn_list_data q2 q1 hp.2.1 hp.1 (unit_of hu hp.2.2) ⟨.bl _, H, I, rfl, ?_⟩
      simpa using p ρ F H (.bl _) (Grow.refl _ _) s1 (.dat (.bl _))
    · exact p.elim
  · rename_i d es h1 h2
    split at p
    · rename_i hp
      have d1 := view_dp s1 r1 h1 hp.1
      have d2 := view_dp s1 r2 h2 (by simpa [PyData.plain] using hp.2.1)
      rw [hK] at d1 d2
      obtain ⟨as, q1⟩ := Dp.reads I d x v d1 rx
      obtain ⟨bs', q2⟩ := Dp.reads I _ y u d2 ry
      refine SeqAt.notIn_tuple_data q2 q1 hp.2.1 hp.1 (unit_of hu hp.2.2) ⟨.bl _, H, I, rfl, ?_⟩
      simpa using p ρ F H (.bl _) (Grow.refl _ _) s1 (.dat (.bl _))
    · exact p.elim
  · exact p.elim
/-- is None, is not None -/
def isNF (neg : Bool) : Op2 := fun _ x y S => match y with
  | .dat .none => match x with
    | .dat .none => some (.bl (true != neg), S)
    | _ => some (.bl (false != neg), S)
  | _ => none
theorem is_notnon {K : PySem.W.Frag} (h : ∀ d, w = .dat d → d = .none → False) (r : Is K ρ F v w) : v ≠ .non := by
  intro z; subst z
  cases w with
  | dat d => cases r with
    | dat r => cases r; exact h _ rfl rfl
  | loc n => cases r
  | tw ws => cases r
  | lw ws => cases r
  | kt ws => cases r
  | fn ws => cases r
  | rg x y z => cases r
theorem ro_isN : OpR X (compareOp .Is) (rd2 g (isNF false)) := by
  intro pins s σ H x y v u Q I rx ry ⟨bs, ρ, F, N, S, wx, wy, s1, r1, r2, p⟩
  unfold isNF at p
  split at p
  · rw [is_non r2] at ry
    split at p
    · rw [is_non r1] at rx
      exact op_isN pins s σ H _ _ v u Q I rx ry ⟨rfl, p ρ F H _ (Grow.refl _ _) s1 (.dat (.bl _))⟩
    · rename_i hx
      have hn := is_notnon (fun d e z => hx (by rw [e, z])) r1
      exact op_isN pins s σ H _ _ v u Q I rx ry ⟨rfl, by rw [decide_eq_false hn]; exact p ρ F H _ (Grow.refl _ _) s1 (.dat (.bl _))⟩
  · exact p.elim
theorem ro_notN : OpR X (compareOp .IsNot) (rd2 g (isNF true)) := by
  intro pins s σ H x y v u Q I rx ry ⟨bs, ρ, F, N, S, wx, wy, s1, r1, r2, p⟩
  unfold isNF at p
  split at p
  · rw [is_non r2] at ry
    split at p
    · rw [is_non r1] at rx
      exact op_notN pins s σ H _ _ v u Q I rx ry ⟨rfl, p ρ F H _ (Grow.refl _ _) s1 (.dat (.bl _))⟩
    · rename_i hx
      have hn := is_notnon (fun d e z => hx (by rw [e, z])) r1
      exact op_notN pins s σ H _ _ v u Q I rx ry ⟨rfl, by rw [decide_eq_false hn]; exact p ρ F H _ (Grow.refl _ _) s1 (.dat (.bl _))⟩
  · exact p.elim
end
end Rf

namespace Rf
open PySem L2 PySem.Spec PyProof.Rows

/-! ### order -/
def lexB (r : Int → Int → Bool) (z : Nat → Nat → Bool) : List Int → List Int → Bool
  | x :: xs, y :: ys => if x = y then lexB r z xs ys else r x y
  | [], ys => z 0 ys.length
  | xs, [] => z xs.length 0
theorem lexAt_shift {e r e' r' : Nat → Bool} {z : Bool} (he : ∀ i, e (i + 1) = e' i) (hr : ∀ i, r (i + 1) = r' i) : ∀ k i, Ob.lexAt e r z (i + 1) k = Ob.lexAt e' r' z i k
  | 0, _ => rfl
  | k + 1, i => by rw [Ob.lexAt_succ, Ob.lexAt_succ, he, hr, lexAt_shift he hr k (i + 1)]
theorem lexAt_lexB {r : Int → Int → Bool} {z : Nat → Nat → Bool} (hz : ∀ a b, z (a + 1) (b + 1) = z a b) : ∀ ns ms : List Int,
    Ob.lexAt (fun j => decide (ns.getD j 0 = ms.getD j 0)) (fun j => r (ns.getD j 0) (ms.getD j 0)) (z ns.length ms.length) 0 (min ns.length ms.length) = lexB r z ns ms
  | [], ys => by simp [Ob.lexAt_zero, lexB]
  | x :: xs, [] => by simp [Ob.lexAt_zero, lexB]
  | x :: xs, y :: ys => by
    have hm : min (x :: xs).length (y :: ys).length = min xs.length ys.length + 1 := by simp
    rw [hm, Ob.lexAt_succ]
    by_cases e : x = y
    · subst e
      rw [if_pos (by simp)]
      rw [lexAt_shift (e' := fun j => decide (xs.getD j 0 = ys.getD j 0)) (r' := fun j => r (xs.getD j 0) (ys.getD j 0)) (fun i => rfl) (fun i => rfl)]
      have hl : z (x :: xs).length (x :: ys).length = z xs.length ys.length := hz _ _
      rw [hl, lexAt_lexB hz xs ys]
      simp [lexB]
    · rw [if_neg (by simpa using e)]
      simp [lexB, e]
def intsD : List PyData → Option (List Int)
  | [] => some []
  | .int i :: ds => (intsD ds).map (i :: ·)
  | _ :: _ => none
theorem intsD_eq : ∀ {ds : List PyData} {ns : List Int}, intsD ds = some ns → ds = ns.map .int
  | [], _, e => by simp [intsD] at e; subst e; rfl
  | .int i :: ds, _, e => by
    simp only [intsD, Option.map_eq_some_iff] at e
    obtain ⟨ns, e, rfl⟩ := e
    rw [intsD_eq e]; rfl
  | .none :: _, _, e => by simp [intsD] at e
  | .bool _ :: _, _, e => by simp [intsD] at e
  | .str _ :: _, _, e => by simp [intsD] at e
  | .list _ :: _, _, e => by simp [intsD] at e
  | .tuple _ :: _, _, e => by simp [intsD] at e
  | .dict _ :: _, _, e => by simp [intsD] at e
theorem rp_ints {K : PySem.W.Frag} {F : Hp} : ∀ {ns : List Int} {vs : List V}, RpAll K F vs (ns.map .int) → vs = ns.map V.int
  | [], _, h => by cases h; rfl
  | n :: ns, _, h => by
    cases h with
    | cons a b => cases a; rw [rp_ints b]; rfl
inductive Ord where
  | lt | le | gt | ge
def Ord.op : Ord → CmpOp
  | .lt => .Lt | .le => .LtE | .gt => .Gt | .ge => .GtE
def Ord.int : Ord → Int → Int → Bool
  | .lt, a, b => decide (a < b) | .le, a, b => decide (a ≤ b) | .gt, a, b => decide (b < a) | .ge, a, b => decide (b ≤ a)
def Ord.nat : Ord → Nat → Nat → Bool
  | .lt, a, b => decide (a < b) | .le, a, b => decide (a ≤ b) | .gt, a, b => decide (a > b) | .ge, a, b => decide (a ≥ b)
def Ord.str : Ord → Str → Str → Bool
  | .lt, a, b => decide (a.cps.toList < b.cps.toList) | .le, a, b => !decide (b.cps.toList < a.cps.toList) | .gt, a, b => decide (b.cps.toList < a.cps.toList) | .ge, a, b => !decide (a.cps.toList < b.cps.toList)
def ordF (o : Ord) : Op2 := fun _ x y S => match x, y with
  | .dat (.int i), .dat (.int j) => some (.bl (o.int i j), S)
  | .dat (.str i), .dat (.str j) => some (.bl (o.str i j), S)
  | .dat (.tuple a), .dat (.tuple b) => match intsD a, intsD b with
    | some ns, some ms => some (.bl (lexB o.int o.nat ns ms), S)
    | _, _ => none
  | _, _ => none
section
variable {X : Cx} {g : Gx}
theorem tup_ints {K : PySem.W.Frag} {ρ : List Addr} {F H : Hp} {v : V} {ds : List PyData} {ns : List Int} (e : Same F H) (r : Is K ρ F v (.dat (.tuple ds))) (h : intsD ds = some ns) : ∃ a, v = .ref a ∧ SqT K H a (ns.map V.int) := by
  cases r with
  | dat r => cases r with
    | tup q r =>
      rw [intsD_eq h] at r
      rw [rp_ints r] at q
      exact ⟨_, rfl, SqT.of (e _ _ q)⟩
theorem ints_at {us : List Value} {ns : List Int} (i1 : IntsAre us ns) : ∀ j (h1 : j < us.toArray.size), ∃ t, us.toArray[j] = .int (ns.getD j 0) t := fun j h1 => by
  have e1 : us.toArray.size = ns.length := by rw [List.size_toArray]; exact i1.length
  exact PyProof.Rows.IntsAre.int_at i1 _ _ (by simp at h1; simp [h1])
theorem int_bd (a b : Int) : (a == b) = decide (a = b) := by
  by_cases q : a = b
  · rw [decide_eq_true q]; exact beq_iff_eq.mpr q
  · rw [decide_eq_false q]; exact beq_eq_false_iff_ne.mpr q
theorem ro_ordT (o : Ord) (hu : X.A.units + 100 < cLine) {pins : List (Addr × Obj)} {s : Shared} {σ : L2.St} {H : Hp} {a b : Addr} {ns ms : List Int} {Q : VK} (I : Inv X pins σ H s) (ha : SqT X.K H a (ns.map V.int)) (hb : SqT X.K H b (ms.map V.int))
    (q : Q (.bl (lexB o.int o.nat ns ms)) H) : wpAny (model X.prog X.w) X.A (compareOp o.op (.ref a) (.ref b)) (EP X pins σ Q) X.xe s := by
  obtain ⟨its, r1, p1, _⟩ := I.tuple ha
  obtain ⟨its2, r2, p2, _⟩ := I.tuple hb
  have i1 : IntsAre its ns := Vals.ints r1
  have i2 : IntsAre its2 ms := Vals.ints r2
  have e1 : its.toArray.size = ns.length := by rw [List.size_toArray]; exact i1.length
  have e2 : its2.toArray.size = ms.length := by rw [List.size_toArray]; exact i2.length
  have he : ∀ j (h1 : j < its.toArray.size) (h2 : j < its2.toArray.size), SeqAt.EqAt X.A.in1 s its.toArray[j] its2.toArray[j] (decide (ns.getD j 0 = ms.getD j 0)) := fun j h1 h2 => by
    obtain ⟨t, et⟩ := ints_at i1 j h1
    obtain ⟨t', et'⟩ := ints_at i2 j h2
    rw [et, et', ← int_bd]
    exact SeqAt.EqAt.int_int _ _ _ _
  have fin : wpAny (model X.prog X.w) X.A (compareOp o.op (.ref a) (.ref b)) (EP X pins σ Q) X.xe s := by
    have q' : EP X pins σ Q (.bool (lexB o.int o.nat ns ms)) s := ⟨.bl _, H, I, rfl, q⟩
    cases o with
    | lt =>
      have R := Ob.RcOp.tuples_lt (A := X.A) (s := s) (r := fun j => decide (ns.getD j 0 < ms.getD j 0)) p1 p2 (by omega) he (fun j h1 h2 _ => by
        obtain ⟨t, et⟩ := ints_at i1 j h1
        obtain ⟨t', et'⟩ := ints_at i2 j h2
        rw [et, et']
        exact Ob.RcOp.lt_int _ _ _ _)
      rw [e1, e2] at R
      exact R X.prog X.w X.xe _ (by rw [← lexAt_lexB (fun a b => by simp [Ord.nat])] at q'; exact q')
    | le =>
      have R := Ob.RcOp.tuples_le (A := X.A) (s := s) (r := fun j => decide (ns.getD j 0 ≤ ms.getD j 0)) p1 p2 (by omega) he (fun j h1 h2 _ => by
        obtain ⟨t, et⟩ := ints_at i1 j h1
        obtain ⟨t', et'⟩ := ints_at i2 j h2
        rw [et, et']
        exact Ob.RcOp.le_int _ _ _ _)
      rw [e1, e2] at R
      exact R X.prog X.w X.xe _ (by rw [← lexAt_lexB (fun a b => by simp [Ord.nat])] at q'; exact q')
    | gt =>
      have R := Ob.RcOp.tuples_gt (A := X.A) (s := s) (r := fun j => decide (ms.getD j 0 < ns.getD j 0)) p1 p2 (by omega) he (fun j h1 h2 _ => by
        obtain ⟨t, et⟩ := ints_at i1 j h1
        obtain ⟨t', et'⟩ := ints_at i2 j h2
        rw [et, et']
        exact Ob.RcOp.gt_int _ _ _ _)
      rw [e1, e2] at R
      exact R X.prog X.w X.xe _ (by rw [← lexAt_lexB (fun a b => by simp [Ord.nat])] at q'; exact q')
    | ge =>
      have R := Ob.RcOp.tuples_ge (A := X.A) (s := s) (r := fun j => decide (ms.getD j 0 ≤ ns.getD j 0)) p1 p2 (by omega) he (fun j h1 h2 _ => by
        obtain ⟨t, et⟩ := ints_at i1 j h1
        obtain ⟨t', et'⟩ := ints_at i2 j h2
        rw [et, et']
        exact Ob.RcOp.ge_int _ _ _ _)
      rw [e1, e2] at R
      exact R X.prog X.w X.xe _ (by rw [← lexAt_lexB (fun a b => by simp [Ord.nat])] at q'; exact q')
  exact fin
theorem ro_ord (o : Ord) (hK : g.K = X.K) (hu : X.A.units + 100 < cLine) : OpR X (compareOp o.op) (rd2 g (ordF o)) := by
  intro pins s σ H x y v u Q I rx ry ⟨bs, ρ, F, N, S, wx, wy, s1, r1, r2, p⟩
  unfold ordF at p
  split at p
  · rw [is_int r1] at rx; rw [is_int r2] at ry
    have q := p ρ F H _ (Grow.refl _ _) s1 (.dat (.bl _))
    cases o
    · exact op_lt pins s σ H _ _ v u Q I rx ry ⟨_, _, rfl, rfl, q⟩
    · exact op_le pins s σ H _ _ v u Q I rx ry ⟨_, _, rfl, rfl, q⟩
    · exact op_gt pins s σ H _ _ v u Q I rx ry ⟨_, _, rfl, rfl, q⟩
    · exact op_ge pins s σ H _ _ v u Q I rx ry ⟨_, _, rfl, rfl, q⟩
  · rw [is_str r1] at rx; rw [is_str r2] at ry
    have q := p ρ F H _ (Grow.refl _ _) s1 (.dat (.bl _))
    cases o
    · exact op_lt_str pins s σ H _ _ v u Q I rx ry ⟨_, _, rfl, rfl, q⟩
    · exact op_le_str pins s σ H _ _ v u Q I rx ry ⟨_, _, rfl, rfl, q⟩
    · exact op_gt_str pins s σ H _ _ v u Q I rx ry ⟨_, _, rfl, rfl, q⟩
    · exact op_ge_str pins s σ H _ _ v u Q I rx ry ⟨_, _, rfl, rfl, q⟩
  · split at p
    · rename_i ns ms h1 h2
      obtain ⟨a, e1, q1⟩ := tup_ints s1.ex r1 h1
      obtain ⟨b, e2, q2⟩ := tup_ints s1.ex r2 h2
      subst e1 e2
      cases rx; cases ry
      rw [hK] at q1 q2
      exact ro_ordT o hu I q1 q2 (p ρ F H _ (Grow.refl _ _) s1 (.dat (.bl _)))
    · exact p.elim
  · exact p.elim

/-! ### chains -/
/-- a < b < c; the middle is asked once -/
def mChain (f f' : Op2) (ma mb mc : M W) : M W := fun bs env S => (ma bs env S).bind fun x S1 => (mb bs env S1).bind fun y S2 => match f bs x y S2 with
  | some (.dat (.bool b), S3) => if b = true then (mc bs env S3).bind fun z S4 => match f' bs y z S4 with
      | some (w, S5) => .ok w S5
      | none => .stuck
    else .ok (.bl false) S3
  | _ => .stuck
variable {B : WX} {a b c e : Expr} {ma mb mc : M W} {pos : Pos} {f f' : Op2}
theorem rd_chain (σ : L2.St) (H : Hp) (Q : VK) (h : rd g B (mChain f f' ma mb mc) σ H Q) : tChain (rd2 g f) (rd2 g f') (rd g B ma) (rd g B mb) (rd g B mc) σ H Q := by
  obtain ⟨bs, ρ, F, N, env, S, s, e, p⟩ := h
  refine ⟨bs, ρ, F, N, env, S, s, e, (Post.bind p).imp fun x H1 ⟨ρ1, F1, wx, S1, g1, s1, r1, p1⟩ => ?_⟩
  refine ⟨bs, ρ1, F1, N, env, S1, s1, e.mono g1, (Post.bind p1).imp fun y H2 ⟨ρ2, F2, wy, S2, g2, s2, r2, p2⟩ => ?_⟩
  refine ⟨bs, ρ2, F2, N, S2, wx, wy, s2, r1.mono g2, r2, ?_⟩
  split at p2
  · rename_i b S3 hf
    rw [hf]
    intro ρ3 F3 H3 v g3 s3 r3
    refine ⟨b, is_bl r3, ?_⟩
    cases b with
    | true =>
      rw [if_pos rfl] at p2 ⊢
      have p3 := Post.grow g3 p2
      refine ⟨bs, ρ3, F3, N, env, S3, s3, e.mono (g1.trans (g2.trans g3)), (Post.bind p3).imp fun z H4 ⟨ρ4, F4, wz, S4, g4, s4, r4, p4⟩ => ?_⟩
      exact ⟨bs, ρ4, F4, N, S4, wy, wz, s4, r2.mono (g3.trans g4), r4, post_op p4⟩
    | false =>
      rw [if_neg Bool.false_ne_true] at p2 ⊢
      exact p2 ρ3 F3 H3 _ g3 s3 (.dat (.bl _))
  · exact p2.elim
theorem re_chain {op op' : CmpOp} (ho : OpR X (compareOp op) (rd2 g f)) (ho' : OpR X (compareOp op') (rd2 g f')) (ha : PE X a (rd g B ma)) (hb : PE X b (rd g B mb)) (hc : PE X c (rd g B mc))
    (hm : lastMarks [op, op'] [b, c] = false := by with_unfolding_all rfl) : PE X (.Compare a [op, op'] [b, c] pos) (rd g B (mChain f f' ma mb mc)) := (pe_chain ho ho' ha hb hc hm).imp rd_chain
theorem rt_chain {op op' : CmpOp} (ho : OpR X (compareOp op) (rd2 g f)) (ho' : OpR X (compareOp op') (rd2 g f')) (ha : PE X a (rd g B ma)) (hb : PE X b (rd g B mb)) (hc : PE X c (rd g B mc))
    (hm : lastMarks [op, op'] [b, c] = false := by with_unfolding_all rfl) : PT X (.Compare a [op, op'] [b, c] pos) (rdT g B (mB (mChain f f' ma mb mc))) := (pt_chain ho ho' ha hb hc hm).imp fun σ H Q h => rd_chain σ H _ (rd_B h)

/-! ### truth -/
def truW (S : Store) : W → Option Bool
  | .dat .none => some false
  | .dat (.bool b) => some b
  | .dat (.int i) => some (i != 0)
  | .dat (.str x) => if x.length ≤ 100000 then some ((x.length : Int) != 0) else none
  | w => (seqOf S w).map fun ws => !ws.isEmpty
theorem tru_of {bs : List Nat} {ρ : List Addr} {F N H : Hp} {S : Store} {v : V} {w : W} {k : Bool} (s : Sim g bs ρ F N S H) (r : Is g.K ρ F v w) (h : truW S w = some k) : TruV g.K v H k := by
  unfold truW at h
  split at h
  · rw [is_non r]; cases h; rfl
  · rw [is_bl r]; cases h; rfl
  · rw [is_int r]; cases h; rfl
  · split at h
    · rename_i hl; rw [is_str r]; cases h; exact ⟨line5 hl, rfl⟩
    · cases h
  · simp only [Option.map_eq_some_iff] at h
    obtain ⟨ws, h, rfl⟩ := h
    obtain ⟨a, vs, e, q, l⟩ := seq_of s r h
    subst e
    have hl : (!ws.isEmpty) = !vs.isEmpty := by
      have := l.len
      cases ws <;> cases vs <;> simp_all
    rw [hl]
    rcases q with q | q
    · exact .inl ⟨vs, q, rfl⟩
    · exact .inr (.inl ⟨vs, q, rfl⟩)
def mTru (m : M W) : M Bool := fun bs env S => (m bs env S).bind fun w S1 => match truW S1 w with
  | some b => .ok b S1
  | none => .stuck
theorem rd_tru (hK : g.K = X.K) {m : M W} (σ : L2.St) (H : Hp) (Q : Bool → Hp → Prop) (h : rdT g B (mTru m) σ H Q) : rd g B m σ H (fun x H1 => ∃ k, TruV X.K x H1 k ∧ Q k H1) := by
  obtain ⟨bs, ρ, F, N, env, S, s, e, p⟩ := h
  refine ⟨bs, ρ, F, N, env, S, s, e, (Post.bind (R1 := RW g) p).imp fun x H1 ⟨ρ1, F1, wx, S1, g1, s1, r1, p1⟩ => ?_⟩
  split at p1
  · rename_i b hb
    refine ⟨b, ?_, p1 ρ1 F1 H1 _ (Grow.refl _ _) s1 rfl⟩
    rw [← hK]; exact tru_of s1 r1 hb
  · exact p1.elim
theorem rt_tru (hK : g.K = X.K) (h : PE X e (rd g B ma)) (he : ∀ whole, isTrue e X.env whole = (do let v ← whole; standAt e.pos; holding [v] (truthy v)) := by intro _; rfl) : PT X e (rdT g B (mTru ma)) :=
  (pt_truth h he).imp fun σ H Q h => rd_tru hK σ H Q h
/-- x and y, x or y, not x, as values -/
def mAndV (ma mb : M W) : M W := fun bs env S => (ma bs env S).bind fun x S1 => match truW S1 x with
  | some b => if b = true then mb bs env S1 else .ok x S1
  | none => .stuck
def mOrV (ma mb : M W) : M W := fun bs env S => (ma bs env S).bind fun x S1 => match truW S1 x with
  | some b => if b = true then .ok x S1 else mb bs env S1
  | none => .stuck
def mNotV (ma : M W) : M W := fun bs env S => (ma bs env S).bind fun x S1 => match truW S1 x with
  | some b => .ok (.bl (!b)) S1
  | none => .stuck
theorem re_and (hK : g.K = X.K) {rest : List Expr} (ha : PE X a (rd g B ma)) (hb : PE X (.BoolOp .And (b :: rest) pos) (rd g B mb)) : PE X (.BoolOp .And (a :: b :: rest) pos) (rd g B (mAndV ma mb)) := (pe_andT ha hb).imp fun σ H Q ⟨bs, ρ, F, N, env, S, s, e, p⟩ => by
  refine ⟨bs, ρ, F, N, env, S, s, e, (Post.bind (R1 := RW g) p).imp fun x H1 ⟨ρ1, F1, wx, S1, g1, s1, r1, p1⟩ => ?_⟩
  split at p1
  · rename_i b hb
    refine ⟨b, by rw [← hK]; exact tru_of s1 r1 hb, ?_⟩
    cases b with
    | true => exact ⟨bs, ρ1, F1, N, env, S1, s1, e.mono g1, p1⟩
    | false => exact p1 ρ1 F1 H1 _ (Grow.refl _ _) s1 r1
  · exact p1.elim
theorem re_or (hK : g.K = X.K) {rest : List Expr} (ha : PE X a (rd g B ma)) (hb : PE X (.BoolOp .Or (b :: rest) pos) (rd g B mb)) : PE X (.BoolOp .Or (a :: b :: rest) pos) (rd g B (mOrV ma mb)) := (pe_orT ha hb).imp fun σ H Q ⟨bs, ρ, F, N, env, S, s, e, p⟩ => by
  refine ⟨bs, ρ, F, N, env, S, s, e, (Post.bind (R1 := RW g) p).imp fun x H1 ⟨ρ1, F1, wx, S1, g1, s1, r1, p1⟩ => ?_⟩
  split at p1
  · rename_i b hb
    refine ⟨b, by rw [← hK]; exact tru_of s1 r1 hb, ?_⟩
    cases b with
    | true => exact p1 ρ1 F1 H1 _ (Grow.refl _ _) s1 r1
    | false => exact ⟨bs, ρ1, F1, N, env, S1, s1, e.mono g1, p1⟩
  · exact p1.elim
theorem re_one {op : BoolOp} (ha : PE X a (rd g B ma)) : PE X (.BoolOp op [a] pos) (rd g B ma) := pe_one ha
theorem re_not (hK : g.K = X.K) (ha : PE X a (rd g B ma)) : PE X (.UnaryOp .Not a pos) (rd g B (mNotV ma)) := (pe_notT ha).imp fun σ H Q ⟨bs, ρ, F, N, env, S, s, e, p⟩ => by
  refine ⟨bs, ρ, F, N, env, S, s, e, (Post.bind (R1 := RW g) p).imp fun x H1 ⟨ρ1, F1, wx, S1, g1, s1, r1, p1⟩ => ?_⟩
  split at p1
  · rename_i b hb
    exact ⟨b, by rw [← hK]; exact tru_of s1 r1 hb, p1 ρ1 F1 H1 _ (Grow.refl _ _) s1 (.dat (.bl _))⟩
  · exact p1.elim
def mNeg (ma : M W) : M W := fun bs env S => (ma bs env S).bind fun x S1 => match x with
  | .dat (.int i) => .ok (.int (-i)) S1
  | _ => .stuck
theorem re_neg (ha : PE X a (rd g B ma)) : PE X (.UnaryOp .USub a pos) (rd g B (mNeg ma)) := (pe_un un_neg ha).imp fun σ H Q ⟨bs, ρ, F, N, env, S, s, e, p⟩ => by
  refine ⟨bs, ρ, F, N, env, S, s, e, (Post.bind (R1 := RW g) p).imp fun x H1 ⟨ρ1, F1, wx, S1, g1, s1, r1, p1⟩ => ?_⟩
  split at p1
  · rw [is_int r1]; exact ⟨_, rfl, p1 ρ1 F1 H1 _ (Grow.refl _ _) s1 (.dat (.int _))⟩
  · exact p1.elim
end
end Rf

namespace Rf
open PySem L2

/-! ### dicts by data -/
def keyD : PyData → Option Key
  | .int i => some (.inl i)
  | .str x => some (.inr x)
  | _ => none
def keysD : List PyData → Option (List Key)
  | [] => some []
  | d :: ds => match keyD d, keysD ds with
    | some k, some ks => some (k :: ks)
    | _, _ => none
theorem keyD_eq {d : PyData} {k : Key} (h : keyD d = some k) : d = kD k := by
  cases d <;> simp [keyD] at h <;> subst h <;> rfl
@[simp] theorem keyD_kD (k : Key) : keyD (kD k) = some k := by cases k <;> rfl
theorem keysD_eq : ∀ {ds : List PyData} {ks : List Key}, keysD ds = some ks → ds = ks.map kD
  | [], _, h => by simp [keysD] at h; subst h; rfl
  | d :: ds, _, h => by
    simp only [keysD] at h
    split at h
    · rename_i k ks h1 h2
      cases h
      rw [keyD_eq h1, keysD_eq h2]; rfl
    · cases h
@[simp] theorem keysD_map (ks : List Key) : keysD (ks.map kD) = some ks := by
  induction ks with
  | nil => rfl
  | cons k ks ih => simp [keysD, ih]
theorem rp_key {K : PySem.W.Frag} {F : Hp} {v : V} {k : Key} (h : Rp K F v (kD k)) : v = kV k := by
  cases k with
  | inl i => cases h; rfl
  | inr x => cases h; rfl
theorem rp_keys {K : PySem.W.Frag} {F : Hp} : ∀ {ks : List Key} {vs : List V}, RpAll K F vs (ks.map kD) → vs = ks.map kV
  | [], _, h => by cases h; rfl
  | k :: ks, _, h => by
    cases h with
    | cons a b => rw [rp_key a, rp_keys b]; rfl
/-- what stands at an item that equals a key -/
inductive DKey where
  | one (k : Key)
  | tup (ks : List Key)
  deriving DecidableEq
def dkey : PyData → Option DKey
  | .tuple ds => (keysD ds).map .tup
  | d => (keyD d).map .one
def DKey.d : DKey → PyData
  | .one k => kD k
  | .tup ks => .tuple (ks.map kD)
theorem dkey_eq {d : PyData} {k : DKey} (h : dkey d = some k) : d = k.d := by
  unfold dkey at h
  split at h
  · simp only [Option.map_eq_some_iff] at h
    obtain ⟨ks, h, rfl⟩ := h
    rw [keysD_eq h]; rfl
  · simp only [Option.map_eq_some_iff] at h
    obtain ⟨ks, h, rfl⟩ := h
    rw [keyD_eq h]; rfl
@[simp] theorem dkey_d (k : DKey) : dkey k.d = some k := by
  cases k with
  | one k => cases k <;> rfl
  | tup ks => simp [DKey.d, dkey]
def lookW (ws : List (PyData × W)) (k : DKey) : Option W := (ws.find? fun p => decide (dkey p.1 = some k)).map (·.2)
def putW (ws : List (PyData × W)) (k : DKey) (w : W) : List (PyData × W) :=
  if (ws.any fun p => decide (dkey p.1 = some k)) then ws.map fun p => if dkey p.1 = some k then (p.1, w) else p else ws ++ [(k.d, w)]
def dropW (ws : List (PyData × W)) (k : DKey) : List (PyData × W) := ws.filter fun p => decide (dkey p.1 ≠ some k)
/-- all keys of one kind: 0 ints and texts, 1 tuples of these -/
def kindK (k : DKey) : Nat := match k with | .one _ => 0 | .tup _ => 1
def dicOf (S : Store) : W → Option (List (PyData × W))
  | .dat (.dict kvs) => some (kvs.map fun p => (p.1, .dat p.2))
  | .loc n => match S[n]? with
    | some (.dic ws) => some ws
    | some (.fz ws) => some ws
    | _ => none
  | _ => none
section
variable {K : PySem.W.Frag} {ρ : List Addr} {F N H : Hp}
theorem RpKV.isKV : ∀ {vs : List (PyData × V)} {ds : List (PyData × PyData)}, RpKV K F vs ds → IsKV K ρ F vs (ds.map fun p => (p.1, .dat p.2))
  | _, [], h => by cases h; exact .nil
  | _, (k, d) :: ds, h => by
    cases h with
    | cons a b => exact .cons (.dat a) (RpKV.isKV b)
theorem isKV_val {vs : List (PyData × V)} {ws : List (PyData × W)} (h : IsKV K ρ F vs ws) (k : DKey) : match lookW ws k with
    | some w => ∃ v, (vs.find? fun p => decide (dkey p.1 = some k)).map (·.2) = some v ∧ Is K ρ F v w
    | none => (vs.find? fun p => decide (dkey p.1 = some k)).map (·.2) = none := by
  induction h with
  | nil => rfl
  | @cons k' v vs w ws a b ih =>
    unfold lookW at ih ⊢
    rw [List.find?_cons, List.find?_cons]
    by_cases e : dkey k' = some k
    · simp only [decide_eq_true e]; exact ⟨v, rfl, a⟩
    · simp only [decide_eq_false e]; exact ih
theorem valK_eq (kvs : List (Key × V)) (k : Key) : ((kvs.map fun p => (kD p.1, p.2)).find? fun p => decide (dkey p.1 = some (.one k))).map (·.2) = valV kvs k := by
  unfold valV
  induction kvs with
  | nil => rfl
  | cons p kvs ih =>
    rw [List.map_cons, List.find?_cons, List.find?_cons]
    have e : decide (dkey (kD p.1) = some (.one k)) = decide (p.1 = k) := by
      have z : dkey (kD p.1) = some (.one p.1) := dkey_d (.one p.1)
      rw [z]; simp
    simp only [e]
    by_cases q : p.1 = k
    · simp [q]
    · simp [q]; simpa using ih
theorem valT_eq (kvs : List (List Key × V)) (k : List Key) : ((kvs.map fun p => (PyData.tuple (p.1.map kD), p.2)).find? fun p => decide (dkey p.1 = some (.tup k))).map (·.2) = valV kvs k := by
  unfold valV
  induction kvs with
  | nil => rfl
  | cons p kvs ih =>
    rw [List.map_cons, List.find?_cons, List.find?_cons]
    have e : decide (dkey (.tuple (p.1.map kD)) = some (.tup k)) = decide (p.1 = k) := by
      have z : dkey (.tuple (p.1.map kD)) = some (.tup p.1) := dkey_d (.tup p.1)
      rw [z]; simp
    simp only [e]
    by_cases q : p.1 = k
    · simp [q]
    · simp [q]; simpa using ih
end
/-- the dict in the heap, of one kind -/
inductive DicH (H : Hp) (a : Addr) : Nat → List (PyData × V) → Prop
  | k {kvs : List (Key × V)} : Rd H a (.dK kvs) → DicH H a 0 (kvs.map fun p => (kD p.1, p.2))
  | t {kvs : List (List Key × V)} : Rd H a (.dT kvs) → DicH H a 1 (kvs.map fun p => (.tuple (p.1.map kD), p.2))
section
variable {X : Cx} {g : Gx} {bs : List Nat} {ρ : List Addr} {F N H : Hp} {S : Store} {v : V} {w : W}
theorem dic_of {ws : List (PyData × W)} (s : Sim g bs ρ F N S H) (r : Is g.K ρ F v w) (h : dicOf S w = some ws) : ∃ a n vs, v = .ref a ∧ DicH H a n vs ∧ IsKV g.K ρ F vs ws := by
  cases w with
  | dat d =>
    cases d <;> simp only [dicOf] at h <;> try cases h
    cases r with
    | dat r => cases r with
      | dicK e q => exact ⟨_, _, _, rfl, .k (.inr ⟨_, s.ex _ _ e⟩), q.isKV⟩
      | dicT e q => exact ⟨_, _, _, rfl, .t (.inr ⟨_, s.ex _ _ e⟩), q.isKV⟩
  | loc n =>
    simp only [dicOf] at h
    split at h
    · rename_i xs hn
      cases h
      cases r with
      | loc hr =>
        rcases s.cell n _ _ hn hr with ⟨kvs, e, q⟩ | ⟨kvs, e, q⟩
        · exact ⟨_, _, _, rfl, .k (.inl e), q⟩
        · exact ⟨_, _, _, rfl, .t (.inl e), q⟩
    · rename_i xs hn
      cases h
      cases r with
      | loc hr =>
        rcases s.cell n _ _ hn hr with ⟨o, kvs, e, _, q⟩ | ⟨o, kvs, e, _, q⟩
        · exact ⟨_, _, _, rfl, .k (.inr ⟨_, e⟩), q⟩
        · exact ⟨_, _, _, rfl, .t (.inr ⟨_, e⟩), q⟩
    · cases h
  | tw xs => simp [dicOf] at h
  | lw xs => simp [dicOf] at h
  | kt xs => simp [dicOf] at h
  | fn xs => simp [dicOf] at h
  | rg x y z => simp [dicOf] at h
/-- an empty dict may be of either kind -/
theorem inv_kind {pins : List (Addr × Obj)} {σ : L2.St} {s : Shared} {a : Addr} (I : Inv X pins σ H s) (h : H a = some (.dK [])) : Inv X pins σ (upd H a (.dT [])) s := by
  obtain ⟨z, hd, vs, rel, o, es, ep, h1, h2, h3, h4, h5, h6⟩ := dk_of I.hok h
  cases rel
  cases es with
  | mk l =>
    cases l with
    | nil =>
      refine I.write (h' := s.heap) (t' := s.toks) (x := a) (e := a) (by rw [h]; trivial) (.inl rfl) (fun b u _ q => q) ⟨_, h1⟩ ⟨Nat.zero_le _, hd, [], .nil, o, _, ep, h1, h2, h3, rfl, .nil⟩
    | cons x xs => cases h5
theorem inv_kind' {pins : List (Addr × Obj)} {σ : L2.St} {s : Shared} {a : Addr} (I : Inv X pins σ H s) (h : H a = some (.dT [])) : Inv X pins σ (upd H a (.dK [])) s := by
  obtain ⟨z, hd, xs, rel, o, es, ep, h1, h2, h3, h4, h5⟩ := (show ObjOk X.prog X.w H s.heap a (.dT []) from I.hok a _ h)
  cases rel
  cases es with
  | mk l =>
    cases l with
    | nil =>
      refine I.write (h' := s.heap) (t' := s.toks) (x := a) (e := a) (by rw [h]; trivial) (.inl rfl) (fun b u _ q => q) ⟨_, h1⟩ (dk_new (kvs := []) (vs := []) (Nat.zero_le _) hd .nil ⟨o, _, ep, h1, h2, h3, fun x hx => by simp at hx, ?_, .nil⟩)
      exact .nil
    | cons x xs => simp at h4
end
end Rf

namespace Rf
open PySem L2

/-! ### an item -/
def ixF : Op2 := fun _ x y S => match seqOf S x, y with
  | some ws, .dat (.int i) => (atI ws i).map (·, S)
  | some _, _ => none
  | none, y => match x, y with
    | .dat (.str z), .dat (.int i) => if z.length ≤ 100000 then (atI z.cps.toList i).map fun c => (.str ⟨#[c]⟩, S) else none
    | x, .dat d => match dicOf S x, dkey d with
      | some ws, some k => (lookW ws k).map (·, S)
      | _, _ => none
    | _, _ => none
section
variable {X : Cx} {g : Gx}
/-- the key in the heap -/
theorem key_one {K : PySem.W.Frag} {F : Hp} {v : V} {k : Key} (r : Rp K F v (DKey.one k).d) : v = kV k := rp_key r
theorem key_tup {K : PySem.W.Frag} {F H : Hp} {v : V} {ks : List Key} (e : Same F H) (r : Rp K F v (DKey.tup ks).d) : ∃ b, v = .ref b ∧ H b = some (.tup (ks.map kV)) := by
  have r' : Rp K F v (.tuple (ks.map kD)) := r
  cases r' with
  | tup q r => rw [rp_keys r] at q; exact ⟨_, rfl, e _ _ q⟩
theorem dic_get {H : Hp} {a : Addr} {n : Nat} {vs : List (PyData × V)} {K : PySem.W.Frag} {F : Hp} {v : V} {k : DKey} (d : DicH H a n vs) (e : Same F H) (r : Rp K F v k.d) (h : kindK k = n) :
    DGet H a v ((vs.find? fun p => decide (dkey p.1 = some k)).map (·.2)) := by
  cases d with
  | k hk =>
    cases k with
    | one k => rw [key_one r, valK_eq]; exact .inl ⟨_, k, hk, rfl, rfl⟩
    | tup ks => simp [kindK] at h
  | t hk =>
    cases k with
    | one k => simp [kindK] at h
    | tup ks => obtain ⟨b, rfl, hb⟩ := key_tup e r; rw [valT_eq]; exact .inr ⟨_, ks, b, hk, rfl, hb, rfl⟩
/-- a key found says the kind -/
theorem look_kind {H : Hp} {a : Addr} {n : Nat} {vs : List (PyData × V)} {k : DKey} {v : V} (d : DicH H a n vs) (h : (vs.find? fun p => decide (dkey p.1 = some k)).map (·.2) = some v) : kindK k = n := by
  obtain ⟨p, h1, _⟩ := Option.map_eq_some_iff.mp h
  have hm := List.mem_of_find?_eq_some h1
  have hp := List.find?_some h1
  simp only [decide_eq_true_eq] at hp
  cases d with
  | k hk =>
    obtain ⟨q, _, rfl⟩ := List.mem_map.mp hm
    have z : dkey (kD q.1) = some (.one q.1) := dkey_d (.one q.1)
    rw [z] at hp; cases hp; rfl
  | t hk =>
    obtain ⟨q, _, rfl⟩ := List.mem_map.mp hm
    have z : dkey (.tuple (q.1.map kD)) = some (.tup q.1) := dkey_d (.tup q.1)
    rw [z] at hp; cases hp; rfl
theorem subTail {prog : Program} {w : World} {A : Around} {E : Value → Shared → Prop} {s : Shared} {value slice : Expr} {o i : Value} {T id : String} {Q : Value → Shared → Prop} (hT : s.TypeIs o T)
    (hl : typeLookup (.type T) "__getitem__" = pure (some (.builtin id))) (h : wpAny (model prog w) A (getItem o i) Q E s) (hs : subscripted slice false o i = operate [o, i] (getItem o i)) : wpAny (model prog w) A (PyProof.Rows.subscriptTail value slice o i) Q E s := by
  unfold PyProof.Rows.subscriptTail
  refine wpAny_bind ?_
  rw [getitemInPython_of_ne hT.not_modules]; refine wpAny_bind (wpAny_specialOf hT hl ?_)
  have fin : wpAny (model prog w) A (subscripted slice false o i) (fun r t => wpAny (model prog w) A (letTemporaryGo value o r >>= fun _ => pure r) Q E t) E s := by
    rw [hs]; exact wpAny_operating (wpAny_mono h (fun r t ht => wpAny_bind (wpAny_letTemporaryGo (wpAny_pure ht))) fun _ _ x => x)
  first
    | exact wpAny_pure (wpAny_bind fin)
    | exact wpAny_bind (wpAny_pure (wpAny_bind fin))
    | exact wpAny_bind fin
theorem ix_dict (hu : X.A.units + 100 < cLine) : IxR X (fun x y H Q => ∃ a v, x = .ref a ∧ DGet H a y (some v) ∧ Q v H) := by
  intro value slice pins s σ H x y v u Q I rx ry ⟨a, w, e, d, q⟩ hs
  subst e
  cases rx
  exact subTail (dict_typeIs I d) PySem.F.slot_dict_getitem.lookup (d_getItem (by omega) I d ry fun w' s' I' r' => ⟨w, H, I', r', q⟩) hs
theorem ro_ix (hK : g.K = X.K) (hu : X.A.units + 100 < cLine) : IxR X (rd2 g ixF) := by
  intro value slice pins s σ H x y v u Q I rx ry ⟨bs, ρ, F, N, S, wx, wy, s1, r1, r2, p⟩ hs
  unfold ixF at p
  split at p
  · rename_i ws i h1
    cases hz : atI ws i with
    | none => rw [hz] at p; exact p.elim
    | some z =>
      rw [hz] at p
      obtain ⟨a, vs, e1, q1, l1⟩ := seq_of s1 r1 h1
      obtain ⟨x', hx, rx'⟩ := l1.atI hz
      subst e1
      rw [is_int r2] at ry
      have q : Q x' H := p ρ F H _ (Grow.refl _ _) s1 rx'
      rw [hK] at q1
      rcases q1 with q1 | q1
      · exact ix_list value slice pins s σ H _ _ v u Q I rx ry ⟨a, vs, i, x', rfl, rfl, q1, hx, q⟩ hs
      · exact ix_tup value slice pins s σ H _ _ v u Q I rx ry ⟨a, vs, i, x', rfl, rfl, q1, hx, q⟩ hs
  · exact p.elim
  · split at p
    · rename_i _ z i _
      split at p
      · rename_i hl
        cases hz : atI z.cps.toList i with
        | none => rw [hz] at p; exact p.elim
        | some c =>
          rw [hz] at p
          rw [is_str r1] at rx; rw [is_int r2] at ry
          exact ix_str value slice pins s σ H _ _ v u Q I rx ry ⟨z, i, c, rfl, rfl, line5 hl, hz, p ρ F H _ (Grow.refl _ _) s1 (.dat (.str _))⟩ hs
      · exact p.elim
    · rename_i d _
      split at p
      · rename_i ws k h1 h2
        cases hz : lookW ws k with
        | none => rw [hz] at p; exact p.elim
        | some z =>
          rw [hz] at p
          obtain ⟨a, n, vs, e1, dh, l1⟩ := dic_of s1 r1 h1
          subst e1
          have hv := isKV_val l1 k
          rw [hz] at hv
          obtain ⟨x', hx, rx'⟩ := hv
          have hd := dkey_eq h2
          subst hd
          cases r2 with
          | dat r2 =>
            have dg := dic_get dh s1.ex r2 (look_kind dh hx)
            rw [hx] at dg
            exact ix_dict hu value slice pins s σ H _ _ v u Q I rx ry ⟨a, x', rfl, dg, p ρ F H _ (Grow.refl _ _) s1 rx'⟩ hs
      · exact p.elim
    · exact p.elim
variable {B : WX} {a b c e : Expr} {es : List Expr} {ma mb mc : M W} {ms : M (List W)} {pos : Pos}
theorem re_ix (hK : g.K = X.K) (hu : X.A.units + 100 < cLine) (ha : PE X a (rd g B ma)) (hb : PE X b (rd g B mb)) (hs : PlainIx b := by intro _ _; rfl) : PE X (.Subscript a b pos) (rd g B (mBin ixF ma mb)) := (pe_ix (ro_ix hK hu) ha hb hs).imp rd_bin

/-! ### calls of built-ins -/
abbrev OpN := List Nat → List W → Store → Option (W × Store)
def mCB (f : OpN) (ms : M (List W)) : M W := fun bs env S => (ms bs env S).bind fun ws S1 => match f bs ws S1 with
  | some (w, S2) => .ok w S2
  | none => .stuck
def rdN (g : Gx) (f : OpN) : List V → Hp → VK → Prop := fun xs H Q => ∃ bs ρ F N S ws, Sim g bs ρ F N S H ∧ IsAll g.K ρ F xs ws ∧ PostV g bs ρ F N Q (f bs ws S)
theorem rd_CB {f : OpN} (σ : L2.St) (H : Hp) (Q : VK) (h : rd g B (mCB f ms) σ H Q) : tCB (rdN g f) (rdA g B ms) σ H Q := by
  obtain ⟨bs, ρ, F, N, env, S, s, e, p⟩ := h
  exact ⟨bs, ρ, F, N, env, S, s, e, (Post.bind p).imp fun x H1 ⟨ρ1, F1, wx, S1, g1, s1, r1, p1⟩ => ⟨bs, ρ1, F1, N, S1, wx, s1, r1, post_op p1⟩⟩
theorem re_callB {f : OpN} {x : Str} {id : String} {p : Pos} (hc : CallR X (.builtin id) (rdN g f)) (hg : Gl X x) (hm : X.mg x = none) (hv : bootBuiltins x = some (.builtin id)) (ha : PA X (e :: es) (rdA g B ms)) (hn : x ≠ "__name__" := by decide) (hdb : (x == ("__debug__" : Str)) = false := by decide)
    (he : starEach (e :: es) X.env = (false, eval e X.env) :: starEach es X.env := by rfl) (hpl : (backTo pos (starEach es X.env)).any (·.1) = false := by rfl) : PE X (.Call (.Name x p) (e :: es) [] pos) (rd g B (mCB f ms)) := (pe_callB hc hg hm hv ha hn hdb he hpl).imp rd_CB
theorem re_callTy {f : OpN} {x : Str} {T : String} {p : Pos} (hc : CallR X (.type T) (rdN g f)) (hg : Gl X x) (hm : X.mg x = none) (hv : bootBuiltins x = some (.type T)) (ha : PA X (e :: es) (rdA g B ms)) (hn : x ≠ "__name__" := by decide) (hdb : (x == ("__debug__" : Str)) = false := by decide)
    (he : starEach (e :: es) X.env = (false, eval e X.env) :: starEach es X.env := by rfl) (hpl : (backTo pos (starEach es X.env)).any (·.1) = false := by rfl) : PE X (.Call (.Name x p) (e :: es) [] pos) (rd g B (mCB f ms)) := (pe_callTy hc hg hm hv ha hn hdb he hpl).imp rd_CB
end
end Rf

namespace Rf
open PySem L2

section
variable {X : Cx} {g : Gx}
/-- a value of one argument that changes nothing -/
def un (f : Store → W → Option W) : OpN := fun _ ws S => match ws with
  | [w] => (f S w).map (·, S)
  | _ => none
theorem all_one {K : PySem.W.Frag} {ρ : List Addr} {F : Hp} {vs : List V} {w : W} (h : IsAll K ρ F vs [w]) : ∃ v, vs = [v] ∧ Is K ρ F v w := by
  cases h with
  | cons a b => cases b; exact ⟨_, rfl, a⟩
theorem all_two {K : PySem.W.Frag} {ρ : List Addr} {F : Hp} {vs : List V} {w u : W} (h : IsAll K ρ F vs [w, u]) : ∃ v x, vs = [v, x] ∧ Is K ρ F v w ∧ Is K ρ F x u := by
  cases h with
  | cons a b => cases b with
    | cons b c => cases c; exact ⟨_, _, rfl, a, b⟩
def lenW (S : Store) (w : W) : Option W := match seqOf S w with
  | some ws => some (.int ws.length)
  | none => match w with
    | .dat (.str x) => if x.length ≤ 100000 then some (.int x.length) else none
    | _ => none
theorem rc_len (hK : g.K = X.K) : CallR X (.builtin "len") (rdN g (un lenW)) := by
  intro pins s σ H xs us Q I r ⟨bs, ρ, F, N, S, ws, s1, r1, p⟩
  unfold un at p
  split at p
  · rename_i w
    obtain ⟨v, rfl, r2⟩ := all_one r1
    unfold lenW at p
    split at p
    · rename_i ws h1
      obtain ⟨a, vs, rfl, q1, l1⟩ := seq_of s1 r2 h1
      rw [hK] at q1
      exact call_len_seq pins s σ H _ us Q I r ⟨a, vs, rfl, q1, by rw [l1.len]; exact p ρ F H _ (Grow.refl _ _) s1 (.dat (.int _))⟩
    · split at p
      · skip
        split at p
        · rename_i hl
          rw [is_str r2] at r
          exact call_len_str pins s σ H _ us Q I r ⟨_, rfl, line5 hl, p ρ F H _ (Grow.refl _ _) s1 (.dat (.int _))⟩
        · exact p.elim
      · exact p.elim
  · exact p.elim
def absW (_ : Store) (w : W) : Option W := match w with
  | .dat (.int i) => some (.int (if i < 0 then -i else i))
  | _ => none
theorem rc_abs : CallR X (.builtin "abs") (rdN g (un absW)) := by
  intro pins s σ H xs us Q I r ⟨bs, ρ, F, N, S, ws, s1, r1, p⟩
  unfold un at p
  split at p
  · obtain ⟨v, rfl, r2⟩ := all_one r1
    unfold absW at p
    split at p
    · rw [is_int r2] at r
      exact call_abs pins s σ H _ us Q I r ⟨_, rfl, p ρ F H _ (Grow.refl _ _) s1 (.dat (.int _))⟩
    · exact p.elim
  · exact p.elim
def intW (_ : Store) (w : W) : Option W := match w with
  | .dat (.int i) => some (.int i)
  | .dat (.bool b) => some (.int (if b then 1 else 0))
  | _ => none
theorem rc_int : CallR X (.type "int") (rdN g (un intW)) := by
  intro pins s σ H xs us Q I r ⟨bs, ρ, F, N, S, ws, s1, r1, p⟩
  unfold un at p
  split at p
  · obtain ⟨v, rfl, r2⟩ := all_one r1
    unfold intW at p
    split at p
    · rw [is_int r2] at r
      exact call_int1 pins s σ H _ us Q I r (.inl ⟨_, rfl, p ρ F H _ (Grow.refl _ _) s1 (.dat (.int _))⟩)
    · rw [is_bl r2] at r
      exact call_int1 pins s σ H _ us Q I r (.inr ⟨_, rfl, p ρ F H _ (Grow.refl _ _) s1 (.dat (.int _))⟩)
    · exact p.elim
  · exact p.elim
def strW (_ : Store) (w : W) : Option W := match w with
  | .dat (.int i) => if i.natAbs.log2 < 1920 then some (.str (toString i)) else none
  | _ => none
def two (f : Int → Int → Int) : OpN := fun _ ws S => match ws with
  | [.dat (.int i), .dat (.int j)] => some (.int (f i j), S)
  | _ => none
theorem rc_two {n : String} {f : Int → Int → Int} (hc : CallR X (.builtin n) (fun xs H Q => ∃ i j, xs = [.int i, .int j] ∧ Q (.int (f i j)) H)) : CallR X (.builtin n) (rdN g (two f)) := by
  intro pins s σ H xs us Q I r ⟨bs, ρ, F, N, S, ws, s1, r1, p⟩
  unfold two at p
  split at p
  · obtain ⟨v, x, rfl, r2, r3⟩ := all_two r1
    rw [is_int r2, is_int r3] at r
    exact hc pins s σ H _ us Q I r ⟨_, _, rfl, p ρ F H _ (Grow.refl _ _) s1 (.dat (.int _))⟩
  · exact p.elim
def max2F : OpN := two fun i j => if j > i then j else i
def min2F : OpN := two fun i j => if j < i then j else i
theorem rc_max2 (hc : X.calm = true) : CallR X (.builtin "max") (rdN g max2F) := rc_two (call_max2 hc)
theorem rc_min2 (hc : X.calm = true) : CallR X (.builtin "min") (rdN g min2F) := rc_two (call_min2 hc)
/-- list(..) of a sequence -/
def listF (k : Bool) : OpN := fun _ ws S => match ws with
  | [w] => (seqOf S w).map fun xs => newL k xs S
  | _ => none
theorem rc_list (hK : g.K = X.K) {k : Bool} : CallR X (.type "list") (rdN g (listF k)) := by
  intro pins s σ H xs us Q I r ⟨bs, ρ, F, N, S, ws, s1, r1, p⟩
  unfold listF at p
  split at p
  · rename_i w
    obtain ⟨v, rfl, r2⟩ := all_one r1
    cases h1 : seqOf S w with
    | none => rw [h1] at p; exact p.elim
    | some ws =>
      rw [h1] at p
      obtain ⟨a, vs, rfl, q1, l1⟩ := seq_of s1 r2 h1
      rw [hK] at q1
      exact call_list_of pins s σ H _ us Q I r ⟨a, vs, rfl, q1, fun q hq => new_ok s1 hq l1 p⟩
  · exact p.elim
/-- tuple(..) of a list; of a tuple: itself -/
def tupleF : OpN := fun _ ws S => match ws with
  | [w] => match tupOf w with
    | some _ => some (w, S)
    | none => (lstOf S w).map fun xs => (mkTup xs, S)
  | _ => none
theorem rc_tuple (hK : g.K = X.K) : CallR X (.type "tuple") (rdN g tupleF) := by
  intro pins s σ H xs us Q I r ⟨bs, ρ, F, N, S, ws, s1, r1, p⟩
  unfold tupleF at p
  split at p
  · rename_i w
    obtain ⟨v, rfl, r2⟩ := all_one r1
    split at p
    · rename_i xs h1
      obtain ⟨a, vs, rfl, q1, l1⟩ := tup_of r2 h1
      rw [hK] at q1
      exact call_tuple_of pins s σ H _ us Q I r ⟨a, vs, rfl, .inr ⟨Same.sqT s1.ex q1, p ρ F H _ (Grow.refl _ _) s1 r2⟩⟩
    · cases h1 : lstOf S w with
      | none => rw [h1] at p; exact p.elim
      | some ws =>
        rw [h1] at p
        obtain ⟨a, vs, rfl, q1, l1⟩ := lst_of s1 r2 h1
        rw [hK] at q1
        exact call_tuple_of pins s σ H _ us Q I r ⟨a, vs, rfl, .inl ⟨q1, fun q hq => newT_ok s1 hq l1 p⟩⟩
  · exact p.elim
/-- the bools, the intsW of a list -/
def bools : List W → Option (List Bool)
  | [] => some []
  | .dat (.bool b) :: ws => (bools ws).map (b :: ·)
  | _ :: _ => none
theorem bools_is {K : PySem.W.Frag} {ρ : List Addr} {F : Hp} : ∀ {ws : List W} {vs : List V} {xs : List Bool}, IsAll K ρ F vs ws → bools ws = some xs → vs = xs.map V.bl
  | [], _, _, h, e => by cases h; simp [bools] at e; subst e; rfl
  | w :: ws, _, _, .cons a b, e => by
    unfold bools at e
    split at e
    · rename_i h; cases h
    · rename_i b' ws' h
      cases h
      simp only [Option.map_eq_some_iff] at e
      obtain ⟨xs, e, rfl⟩ := e
      rw [is_bl a, bools_is b e]; rfl
    · cases e
@[simp] theorem bools_map (xs : List Bool) : bools (xs.map W.bl) = some xs := by
  induction xs with
  | nil => rfl
  | cons x xs ih => simp only [List.map_cons, W.bl, bools, Option.map_eq_some_iff]; exact ⟨xs, ih, rfl⟩
def intsW : List W → Option (List Int)
  | [] => some []
  | .dat (.int b) :: ws => (intsW ws).map (b :: ·)
  | _ :: _ => none
theorem ints_is {K : PySem.W.Frag} {ρ : List Addr} {F : Hp} : ∀ {ws : List W} {vs : List V} {xs : List Int}, IsAll K ρ F vs ws → intsW ws = some xs → vs = xs.map V.int
  | [], _, _, h, e => by cases h; simp [intsW] at e; subst e; rfl
  | w :: ws, _, _, .cons a b, e => by
    unfold intsW at e
    split at e
    · rename_i h; cases h
    · rename_i b' ws' h
      cases h
      simp only [Option.map_eq_some_iff] at e
      obtain ⟨xs, e, rfl⟩ := e
      rw [is_int a, ints_is b e]; rfl
    · cases e
def allF (S : Store) (w : W) : Option W := match lstOf S w with
  | some ws => (bools ws).map fun xs => .bl (xs.all id)
  | none => none
def anyF (S : Store) (w : W) : Option W := match lstOf S w with
  | some ws => (bools ws).map fun xs => .bl (xs.any id)
  | none => none
def sumF (S : Store) (w : W) : Option W := match lstOf S w with
  | some ws => (intsW ws).map fun xs => .int xs.sum
  | none => none
theorem rc_all (hK : g.K = X.K) (hc : X.calm = true) : CallR X (.builtin "all") (rdN g (un allF)) := by
  intro pins s σ H xs us Q I r ⟨bs, ρ, F, N, S, ws, s1, r1, p⟩
  unfold un at p
  split at p
  · obtain ⟨v, rfl, r2⟩ := all_one r1
    unfold allF at p
    split at p
    · rename_i ws h1
      obtain ⟨a, vs, rfl, q1, l1⟩ := lst_of s1 r2 h1
      rw [hK] at q1
      cases h2 : bools ws with
      | none => rw [h2] at p; exact p.elim
      | some xs =>
        rw [h2] at p
        rw [bools_is l1 h2] at q1
        exact cr_all hc pins s σ H _ us Q I r ⟨a, xs, rfl, q1, p ρ F H _ (Grow.refl _ _) s1 (.dat (.bl _))⟩
    · exact p.elim
  · exact p.elim
/-- isinstance(x, T), T a built-in type -/
def tyW (S : Store) : W → Option String
  | .dat .none => some "NoneType"
  | .dat (.bool _) => some "bool"
  | .dat (.int _) => some "int"
  | .dat (.str _) => some "str"
  | .dat (.list _) => some "list"
  | .dat (.tuple _) => some "tuple"
  | .dat (.dict _) => some "dict"
  | .tw _ => some "tuple"
  | .lw _ => some "list"
  | .loc n => match S[n]? with
    | some (.lst _) => some "list"
    | some (.dic _) => some "dict"
    | some (.fz _) => some "dict"
    | _ => none
  | .kt _ => none
  | .fn _ => none
  | .rg _ _ _ => none
/-- a type, also of a locked dict whose keys are tuples -/
def TyD (K : PySem.W.Frag) (H : Hp) (x : V) (t : Value) : Prop := TyX K H x t ∨ ∃ a o, ∃ kvs : List (List Key × V), x = .ref a ∧ H a = some (.frz o (.dT kvs)) ∧ t = .type "dict"
def isiD (K : PySem.W.Frag) : List V → Hp → VK → Prop := fun xs H Q => ∃ (x c : V) (t u : Value) (b : Bool), xs = [x, c] ∧ ClsV c u ∧ TyD K H x t ∧ PySem.W.kitOne K t u = some b ∧ Q (.bl b) H
theorem call_isiD : CallR X (.builtin "isinstance") (isiD X.K) := by
  intro pins s σ H xs us Q inv rel ⟨x, c, t, u, b, ex, cls, ty, kit, q⟩
  rcases ty with ty | ⟨a, o, kvs, rfl, look, rfl⟩
  · exact call_isi pins s σ H xs us Q inv rel ⟨x, c, t, u, b, ex, cls, ty, kit, q⟩
  · subst ex
    obtain ⟨w1, w2, rfl, rel1, rel2⟩ := vals2 rel
    obtain rfl := cls.eq rel2
    cases rel1
    obtain ⟨hs, get, exact_, _⟩ := inv.frzT look
    exact PySem.W.kia_one PySem.W.kitx_dict inv.kIn ⟨o, get, exact_.1⟩ kit (fun z => nomatch z) fun tk => ⟨.bl b, H, inv.tok tk, rfl, q⟩
theorem ty_of {bs : List Nat} {ρ : List Addr} {F N H : Hp} {S : Store} {v : V} {w : W} {T : String} (s : Sim g bs ρ F N S H) (r : Is g.K ρ F v w) (h : tyW S w = some T) : TyD g.K H v (.type T) := by
  unfold tyW at h
  split at h <;> try cases h
  · rw [is_non r]; exact .inl (.base .non)
  · rw [is_bl r]; exact .inl (.base (.bl _))
  · rw [is_int r]; exact .inl (.base (.int _))
  · rw [is_str r]; exact .inl (.base (.str _))
  · cases r with
    | dat r => cases r with
      | lst q _ => exact .inl (.base (.lst (s.ex _ _ q)))
  · cases r with
    | dat r => cases r with
      | tup q _ => exact .inl (.base (.tup (s.ex _ _ q)))
  · cases r with
    | dat r => cases r with
      | dicK q _ => exact .inl (.fDict (s.ex _ _ q))
      | dicT q _ => exact .inr ⟨_, _, _, rfl, s.ex _ _ q, rfl⟩
  · cases r with
    | tw q _ =>
      rcases q with (q | ⟨o, q⟩) | ⟨o, its, n, q, c, _⟩
      · exact .inl (.base (.tup (s.ex _ _ q)))
      · exact .inl (.fTuple (s.ex _ _ q))
      · exact .inl (.kTuple q c)
  · cases r with
    | lw q _ =>
      rcases q with (q | ⟨o, q⟩) | ⟨o, its, n, q, c, _⟩
      · exact .inl (.base (.lst (s.ex _ _ q)))
      · exact .inl (.base (.frz (s.ex _ _ q)))
      · exact .inl (.kList q c)
  · split at h <;> try cases h
    · rename_i hn
      cases r with
      | loc hr => obtain ⟨vs, e, q⟩ := s.cell _ _ _ hn hr; exact .inl (.base (.lst e))
    · rename_i hn
      cases r with
      | loc hr =>
        rcases s.cell _ _ _ hn hr with ⟨kvs, e, q⟩ | ⟨kvs, e, q⟩
        · exact .inl (.base (.dK e))
        · exact .inl (.base (.dT e))
    · rename_i hn
      cases r with
      | loc hr =>
        rcases s.cell _ _ _ hn hr with ⟨o, kvs, e, _, q⟩ | ⟨o, kvs, e, _, q⟩
        · exact .inl (.fDict e)
        · exact .inr ⟨_, _, _, rfl, e, rfl⟩
def isiW (T : String) (S : Store) (w : W) : Option W := match tyW S w with
  | some t => (kitB t T).map .bl
  | none => none
def mIsi (T : String) (m : M W) : M W := fun bs env S => (m bs env S).bind fun w S1 => match isiW T S1 w with
  | some u => .ok u S1
  | none => .stuck
variable {B : WX} {a b c e : Expr} {es : List Expr} {ma mb mc : M W} {ms : M (List W)} {pos : Pos}
/-- isinstance with a name of a built-in type -/
theorem re_isi (hK : g.K = X.K) {x t : Str} {T : String} {p q : Pos} (hg : Gl X x) (hm : X.mg x = none) (hv : bootBuiltins x = some (.builtin "isinstance")) (ha : PE X a (rd g B ma)) (hg' : Gl X t) (hm' : X.mg t = none) (hv' : bootBuiltins t = some (.type T))
    (hn : x ≠ "__name__" := by decide) (hdb : (x == ("__debug__" : Str)) = false := by decide) (hn' : t ≠ "__name__" := by decide) (hdb' : (t == ("__debug__" : Str)) = false := by decide)
    (he : starEach [a, .Name t q] X.env = (false, eval a X.env) :: starEach [.Name t q] X.env := by rfl) (hpl : (backTo pos (starEach [.Name t q] X.env)).any (·.1) = false := by rfl) :
    PE X (.Call (.Name x p) [a, .Name t q] [] pos) (rd g B (mIsi T ma)) :=
  (pe_callB call_isiD hg hm hv (pa_cons ha (pa_cons (pe_bltn (v := .ty T) hg' hm' hv' rfl hn' hdb') pa_nil) he) hn hdb he hpl).imp fun σ H Q ⟨bs, ρ, F, N, env, S, s, e, p⟩ => by
    refine ⟨bs, ρ, F, N, env, S, s, e, (Post.bind p).imp fun x H1 ⟨ρ1, F1, wx, S1, g1, s1, r1, p1⟩ => ?_⟩
    show isiD X.K [x, .ty T] H1 Q
    split at p1
    · rename_i u hu
      unfold isiW at hu
      split at hu
      · rename_i t ht
        simp only [Option.map_eq_some_iff] at hu
        obtain ⟨b, hb, rfl⟩ := hu
        have ty := ty_of s1 r1 ht
        rw [hK] at ty
        exact ⟨x, .ty T, .type t, .type T, b, rfl, .ty T, ty, kit_ty hb, p1 ρ1 F1 H1 _ (Grow.refl _ _) s1 (.dat (.bl _))⟩
      · cases hu
    · exact p1.elim
end
end Rf

namespace Rf
open PySem L2

/-! ### statements -/
inductive SO where
  | nx (env : Env) (S : Store)
  | rt (w : W) (S : Store)
  | bk (env : Env) (S : Store)
  | ct (env : Env) (S : Store)
  | ex (c : Nat) (ws : List W) (env : Env) (S : Store)
  | stuck
abbrev MS := List Nat → Env → Store → SO
def Out.so {α : Type} (o : Out α) (env : Env) (f : α → Store → SO) : SO := match o with
  | .ok a S => f a S
  | .ex c ws S => .ex c ws env S
  | .stuck => .stuck
def PostS (g : Gx) (B : WX) (bs : List Nat) (ρ : List Addr) (F N : Hp) (D : Ends) : SO → Prop
  | .nx e S' => ∀ ρ' F' H' σ', Grow ρ F ρ' F' → Sim g bs ρ' F' N S' H' → EnvR g ρ' F' σ' e → D.nx σ' H'
  | .rt w S' => ∀ ρ' F' H' v, Grow ρ F ρ' F' → Sim g bs ρ' F' N S' H' → Is g.K ρ' F' v w → D.rt v H'
  | .bk e S' => ∀ ρ' F' H' σ', Grow ρ F ρ' F' → Sim g bs ρ' F' N S' H' → EnvR g ρ' F' σ' e → D.bk σ' H'
  | .ct e S' => ∀ ρ' F' H' σ', Grow ρ F ρ' F' → Sim g bs ρ' F' N S' H' → EnvR g ρ' F' σ' e → D.ct σ' H'
  | .ex c ws e S' => ∀ ρ' F' H' σ' d, Grow ρ F ρ' F' → Sim g bs ρ' F' N S' H' → EnvR g ρ' F' σ' e → ExR g c ρ' F' H' d ws → B (.ref (g.cls c)) d σ' H'
  | .stuck => False
def rdS (g : Gx) (B : WX) (m : MS) : TS := fun D σ H => ∃ bs ρ F N env S, Sim g bs ρ F N S H ∧ EnvR g ρ F σ env ∧ PostS g B bs ρ F N D (m bs env S)
section
variable {X : Cx} {g : Gx} {B : WX} {bs : List Nat} {ρ ρ1 : List Addr} {F F1 N : Hp} {D : Ends} {σ : L2.St}
theorem PostS.grow {o : SO} (gr : Grow ρ F ρ1 F1) (h : PostS g B bs ρ F N D o) : PostS g B bs ρ1 F1 N D o := by
  cases o with
  | nx e S => exact fun ρ' F' H' s' g1 => h ρ' F' H' s' (gr.trans g1)
  | rt e S => exact fun ρ' F' H' s' g1 => h ρ' F' H' s' (gr.trans g1)
  | bk e S => exact fun ρ' F' H' s' g1 => h ρ' F' H' s' (gr.trans g1)
  | ct e S => exact fun ρ' F' H' s' g1 => h ρ' F' H' s' (gr.trans g1)
  | ex c ws e S => exact fun ρ' F' H' s' d g1 => h ρ' F' H' s' d (gr.trans g1)
  | stuck => exact h
theorem PostS.out {α β : Type} {R : List Addr → Hp → β → α → Prop} {o : Out α} {env : Env} {f : α → Store → SO} (e : EnvR g ρ F σ env) (h : PostS g B bs ρ F N D (o.so env f)) :
    Post g B R bs ρ F N σ (fun v H1 => ∃ ρ' F' a S', Grow ρ F ρ' F' ∧ Sim g bs ρ' F' N S' H1 ∧ R ρ' F' v a ∧ PostS g B bs ρ' F' N D (f a S')) o := by
  cases o with
  | ok a S1 => exact fun ρ' F' H' v gr s' r => ⟨ρ', F', a, S1, gr, s', r, PostS.grow gr h⟩
  | ex c ws S1 => exact fun ρ' F' H' d gr s' r => h ρ' F' H' σ d gr s' (e.mono gr) r
  | stuck => exact h
variable {a b c e : Expr} {es : List Expr} {ma mb mc : M W} {ms : M (List W)} {pos : Pos} {st : Stmt} {rest : List Stmt}
/-- an expression alone -/
def sDrop (m : M W) : MS := fun bs env S => (m bs env S).so env fun _ S1 => .nx env S1
theorem rs_expr (h : PE X e (rd g B ma)) (hs : swapsWith e none pos.line X.env = pure false := by rfl) : PS X (.Expr e pos) (rdS g B (sDrop ma)) := (ps_expr h hs).imp fun D σ H ⟨bs, ρ, F, N, env, S, s, e, p⟩ => by
  refine ⟨bs, ρ, F, N, env, S, s, e, (PostS.out (R := RW g) e p).imp fun x H1 ⟨ρ1, F1, wx, S1, g1, s1, r1, p1⟩ => ?_⟩
  exact p1 ρ1 F1 H1 σ (Grow.refl _ _) s1 (e.mono g1)
def sRet (m : M W) : MS := fun bs env S => (m bs env S).so env fun w S1 => .rt w S1
theorem rs_ret (h : PE X e (rd g B ma)) : PS X (.Return (some e) pos) (rdS g B (sRet ma)) := (ps_ret h).imp fun D σ H ⟨bs, ρ, F, N, env, S, s, e, p⟩ => by
  refine ⟨bs, ρ, F, N, env, S, s, e, (PostS.out (R := RW g) e p).imp fun x H1 ⟨ρ1, F1, wx, S1, g1, s1, r1, p1⟩ => ?_⟩
  exact p1 ρ1 F1 H1 x (Grow.refl _ _) s1 r1
def sRetN : MS := fun _ _ S => .rt .non S
def sNil : MS := fun _ env S => .nx env S
def SO.andThen (o : SO) (f : Env → Store → SO) : SO := match o with
  | .nx env S => f env S
  | o => o
def sSeq (m n : MS) : MS := fun bs env S => (m bs env S).andThen fun env1 S1 => n bs env1 S1
theorem rss_nil : PSs X [] (rdS g B sNil) := pss_nil.imp fun D σ H ⟨bs, ρ, F, N, env, S, s, e, p⟩ => p ρ F H σ (Grow.refl _ _) s e
theorem rss_cons {m n : MS} (h : PS X st (rdS g B m)) (k : PSs X rest (rdS g B n)) : PSs X (st :: rest) (rdS g B (sSeq m n)) := (pss_cons h k).imp fun D σ H ⟨bs, ρ, F, N, env, S, s, e, p⟩ => by
  refine ⟨bs, ρ, F, N, env, S, s, e, ?_⟩
  unfold sSeq at p
  cases hm : m bs env S with
  | nx e1 S1 => rw [hm] at p; exact fun ρ' F' H' σ' gr s' e' => ⟨bs, ρ', F', N, e1, S1, s', e', PostS.grow gr p⟩
  | rt w S1 => rw [hm] at p; exact p
  | bk e1 S1 => rw [hm] at p; exact p
  | ct e1 S1 => rw [hm] at p; exact p
  | ex c ws e1 S1 => rw [hm] at p; exact p
  | stuck => rw [hm] at p; exact p
theorem rss_one {m : MS} (h : PS X st (rdS g B m)) : PSs X [st] (rdS g B m) := pss_one h
def sBrk : MS := fun _ env S => .bk env S
def sCnt : MS := fun _ env S => .ct env S
/-- what is never come to -/
def sNever : MS := fun _ _ _ => .stuck
def sIf (t : M Bool) (m n : MS) : MS := fun bs env S => (t bs env S).so env fun b S1 => if b = true then m bs env S1 else n bs env S1
theorem rs_if {t : M Bool} {m n : MS} {p q : List Stmt} (ht : PT X c (rdT g B t)) (hm : PSs X p (rdS g B m)) (hn : PSs X q (rdS g B n)) : PS X (.If c p q pos) (rdS g B (sIf t m n)) := (ps_if ht hm hn).imp fun D σ H ⟨bs, ρ, F, N, env, S, s, e, p⟩ => by
  refine ⟨bs, ρ, F, N, env, S, s, e, (PostS.out (R := RB) e p).imp fun x H1 ⟨ρ1, F1, wx, S1, g1, s1, r1, p1⟩ => ?_⟩
  cases r1
  cases x with
  | true => exact ⟨bs, ρ1, F1, N, env, S1, s1, e.mono g1, p1⟩
  | false => exact ⟨bs, ρ1, F1, N, env, S1, s1, e.mono g1, p1⟩

/-! ### targets -/
abbrev TM := W → M Env
abbrev TMs := List W → M Env
def PostG (g : Gx) (B : WX) (bs : List Nat) (ρ : List Addr) (F N : Hp) (σ : L2.St) (Q : L2.St → Hp → Prop) : Out Env → Prop
  | .ok e S' => ∀ ρ' F' H' σ', Grow ρ F ρ' F' → Sim g bs ρ' F' N S' H' → EnvR g ρ' F' σ' e → Q σ' H'
  | .ex c ws S' => ∀ ρ' F' H' d, Grow ρ F ρ' F' → Sim g bs ρ' F' N S' H' → ExR g c ρ' F' H' d ws → B (.ref (g.cls c)) d σ H'
  | .stuck => False
theorem PostG.grow {o : Out Env} {Q : L2.St → Hp → Prop} (gr : Grow ρ F ρ1 F1) (h : PostG g B bs ρ F N σ Q o) : PostG g B bs ρ1 F1 N σ Q o := by
  cases o with
  | ok e S => exact fun ρ' F' H' s' g1 => h ρ' F' H' s' (gr.trans g1)
  | ex c ws S => exact fun ρ' F' H' d g1 => h ρ' F' H' d (gr.trans g1)
  | stuck => exact h
def rdTg (g : Gx) (B : WX) (t : TM) : TG := fun v σ H Q => ∃ bs ρ F N env S w, Sim g bs ρ F N S H ∧ EnvR g ρ F σ env ∧ Is g.K ρ F v w ∧ PostG g B bs ρ F N σ Q (t w bs env S)
def rdTgs (g : Gx) (B : WX) (t : TMs) : TGs := fun vs σ H Q => ∃ bs ρ F N env S ws, Sim g bs ρ F N S H ∧ EnvR g ρ F σ env ∧ IsAll g.K ρ F vs ws ∧ PostG g B bs ρ F N σ Q (t ws bs env S)
def tName (i : Nat) : TM := fun w _ env S => .ok (env.set i (some w)) S
theorem rg_name {i : Nat} {x : Str} (hN : X.N.Nodup) (hi : X.N[i]? = some x := by rfl) (hx : Loc X.env.scope x := by first | exact Or.inl rfl | exact Or.inr rfl) (hf : X.fn x = true ∨ X.env.scope.names.lookup x = some .local := by first | exact .inl rfl | exact .inr rfl | assumption) : PG X (.Name x pos) (rdTg g B (tName i)) :=
  (pg_name hN hi hx hf).imp fun v σ H Q ⟨bs, ρ, F, N, env, S, w, s, e, r, p⟩ => p ρ F H _ (Grow.refl _ _) s (e.set i r)
def tNil : TMs := fun ws _ env S => match ws with
  | [] => .ok env S
  | _ => .stuck
def tCons (t : TM) (u : TMs) : TMs := fun ws bs env S => match ws with
  | w :: r => (t w bs env S).bind fun env1 S1 => u r bs env1 S1
  | [] => .stuck
/-- targets that never raise -/
def Calm (t : TM) : Prop := ∀ w bs env S c ws S1, t w bs env S ≠ .ex c ws S1
theorem rgs_nil : PGs X [] (rdTgs g B tNil) := ⟨fun pins s σ H vs us Q I rv ⟨bs, ρ, F, N, env, S, ws, s1, e, r, p⟩ => by
  refine pgs_nil.run pins s σ H vs us Q I rv ?_
  cases ws with
  | nil => cases r; exact ⟨rfl, p ρ F H σ (Grow.refl _ _) s1 e⟩
  | cons w ws => exact p.elim⟩
theorem rgs_cons {t : TM} {u : TMs} (h1 : PG X e (rdTg g B t)) (h2 : PGs X es (rdTgs g B u)) (hu : ∀ ws bs env S c us S1, u ws bs env S ≠ .ex c us S1)
    (hs : (assignEach (e :: es) X.env).map (·.2) = assign e X.env :: (assignEach es X.env).map (·.2) := by rfl) : PGs X (e :: es) (rdTgs g B (tCons t u)) := ⟨fun pins s σ H vs us Q I rv ⟨bs, ρ, F, N, env, S, ws, s1, e, r, p⟩ => by
  refine (pgs_cons h1 h2 hs).run pins s σ H vs us Q I rv ?_
  cases ws with
  | nil => exact p.elim
  | cons w ws =>
    cases r with
    | @cons v vs' _ _ ra rb =>
      refine ⟨v, vs', rfl, bs, ρ, F, N, env, S, w, s1, e, ra, ?_⟩
      unfold tCons at p
      cases ht : t w bs env S with
      | ok e1 S1 =>
        simp only [ht, Out.bind_ok] at p
        intro ρ' F' H' σ' gr s' e'
        refine ⟨bs, ρ', F', N, e1, S1, ws, s', e', rb.mono gr, ?_⟩
        cases hq : u ws bs e1 S1 with
        | ok e2 S2 => rw [hq] at p; exact fun ρ2 F2 H2 σ2 g2 => p ρ2 F2 H2 σ2 (gr.trans g2)
        | ex c us S2 => exact absurd hq (hu _ _ _ _ _ _ _)
        | stuck => rw [hq] at p; exact p
      | ex c us S1 => simp only [ht, Out.bind_ex] at p; exact p
      | stuck => simp only [ht, Out.bind_stuck] at p; exact p⟩
/-- a tuple of targets -/
def tTup (n : Nat) (t : TMs) : TM := fun w bs env S => match tupOf w with
  | some ws => if ws.length = n then t ws bs env S else .stuck
  | none => .stuck
theorem rg_tup (hK : g.K = X.K) {k : Nat} {t : TMs} {n : Nat} (hc : X.calm = true) (h : PGs X es (rdTgs g B t)) (hn : (assignEach es X.env).length = n := by rfl) (hst : (assignEach es X.env).findIdx? (·.1) = none := by rfl) :
    PG X (.Tuple es k pos) (rdTg g B (tTup n t)) := (pg_tup hc h hn hst).imp fun v σ H Q ⟨bs, ρ, F, N, env, S, w, s, e, r, p⟩ => by
  unfold tTup at p
  split at p
  · rename_i ws hw
    split at p
    · rename_i hl
      obtain ⟨a, vs, rfl, q, l⟩ := tup_of r hw
      rw [hK] at q
      exact ⟨a, vs, rfl, Same.sqT s.ex q, by rw [l.len]; exact hl, bs, ρ, F, N, env, S, ws, s, e, l, p⟩
    · exact p.elim
  · exact p.elim
/-- target = value -/
def sAsg (m : M W) (t : TM) : MS := fun bs env S => (m bs env S).so env fun w S1 => (t w bs env S1).so env fun env1 S2 => .nx env1 S2
theorem post_asg {o : Out Env} {env : Env} (e : EnvR g ρ F σ env) (h : PostS g B bs ρ F N D (o.so env fun env1 S2 => .nx env1 S2)) : PostG g B bs ρ F N σ D.nx o := by
  cases o with
  | ok e1 S1 => exact h
  | ex c ws S1 => exact fun ρ' F' H' d gr s' r => h ρ' F' H' σ d gr s' (e.mono gr) r
  | stuck => exact h
theorem rd_asg {m : M W} {t : TM} (D : Ends) (σ : L2.St) (H : Hp) (h : rdS g B (sAsg m t) D σ H) : tAsg (rd g B m) (rdTg g B t) D σ H := by
  obtain ⟨bs, ρ, F, N, env, S, s, e, p⟩ := h
  refine ⟨bs, ρ, F, N, env, S, s, e, (PostS.out (R := RW g) e p).imp fun x H1 ⟨ρ1, F1, wx, S1, g1, s1, r1, p1⟩ => ?_⟩
  exact ⟨bs, ρ1, F1, N, env, S1, wx, s1, e.mono g1, r1, post_asg (e.mono g1) p1⟩
theorem rs_asg {tg : Expr} {t : TM} (he : PE X e (rd g B ma)) (hg : PG X tg (rdTg g B t)) (hs : swapsWithSole [tg] e pos.line X.env = pure false := by rfl) (hw : swappedStores [tg] e X.env = pure none := by rfl)
    (h1 : (assignEach [tg] X.env).map (·.2) = [assign tg X.env] := by rfl) : PS X (.Assign [tg] e pos) (rdS g B (sAsg ma t)) := (ps_asg he hg hs hw h1).imp rd_asg
theorem rs_set {i : Nat} {x : Str} {pos' : Pos} (hN : X.N.Nodup) (he : PE X e (rd g B ma)) (hi : X.N[i]? = some x := by rfl) (hx : Loc X.env.scope x := by first | exact Or.inl rfl | exact Or.inr rfl) (hs : swapsWith e (some (.Name x pos')) pos.line X.env = pure false := by rfl)
    (hf : X.fn x = true ∨ X.env.scope.names.lookup x = some .local := by first | exact .inl rfl | exact .inr rfl | assumption) : PS X (.Assign [.Name x pos'] e pos) (rdS g B (sAsg ma (tName i))) :=
  (ps_set hN hi hx he hs hf).imp fun D σ H h => rdG_imp (rd_asg D σ H h) fun v H1 ⟨bs, ρ, F, N, env, S, w, s, e, r, p⟩ => p ρ F H1 _ (Grow.refl _ _) s (e.set i r)
/-- a, b = x, y -/
def sPar (i j : Nat) (ms : M (List W)) : MS := fun bs env S => (ms bs env S).so env fun ws S1 => match ws with
  | [w, u] => .nx ((env.set i (some w)).set j (some u)) S1
  | _ => .stuck
theorem rs_par {i j : Nat} {x y : Str} {px py pt : Pos} {kt k2 pt2} (hc : X.calm = true) (hN : X.N.Nodup) (hi : X.N[i]? = some x) (hj : X.N[j]? = some y) (hij : i ≠ j)
    (hx : X.env.scope.names.lookup x = some .local) (hy : X.env.scope.names.lookup y = some .local) (ha : PA X [a, b] (rdA g B ms))
    (hw : swappedStores [.Tuple [.Name x px, .Name y py] kt pt] (.Tuple [a, b] k2 pt2) X.env = pure (some [x, y]))
    (hs : swapsWithSole [.Tuple [.Name x px, .Name y py] kt pt] (.Tuple [a, b] k2 pt2) pos.line X.env = pure false := by rfl) :
    PS X (.Assign [.Tuple [.Name x px, .Name y py] kt pt] (.Tuple [a, b] k2 pt2) pos) (rdS g B (sPar i j ms)) := (ps_par hc hN hi hj hij hx hy ha hw hs).imp fun D σ H ⟨bs, ρ, F, N, env, S, s, e, p⟩ => by
  refine ⟨bs, ρ, F, N, env, S, s, e, (PostS.out (R := RWs g) e p).imp fun x H1 ⟨ρ1, F1, wx, S1, g1, s1, r1, p1⟩ => ?_⟩
  split at p1
  · obtain ⟨v, u, rfl, r2, r3⟩ := all_two r1
    exact ⟨v, u, rfl, p1 ρ1 F1 H1 _ (Grow.refl _ _) s1 (((e.mono g1).set i r2).set j r3)⟩
  · exact p1.elim
def sPar3 (i j l : Nat) (ms : M (List W)) : MS := fun bs env S => (ms bs env S).so env fun ws S1 => match ws with
  | [w, u, z] => .nx (((env.set i (some w)).set j (some u)).set l (some z)) S1
  | _ => .stuck
/-- name op= e -/
def sAug (i : Nat) (f : Op2) (m : M W) : MS := fun bs env S => match env[i]? with
  | some (some x) => (m bs env S).so env fun y S1 => match f bs x y S1 with
    | some (z, S2) => .nx (env.set i (some z)) S2
    | none => .stuck
  | _ => .stuck
end
end Rf

namespace Rf
open PySem L2

/-! ### what is walked -/
inductive Iter where
  | items (ws : List W)
  | cell (n : Nat)
  | zip (a b : Iter)
  | enm (a : Iter)
def Iter.fuel : Iter → Nat
  | .items ws => ws.length + 1
  | .cell _ => 100000
  | .zip a _ => a.fuel
  | .enm a => a.fuel
/-- the item of a turn: none: it stops; nothing at all: it cannot go on -/
def Iter.next (it : Iter) (i : Nat) (S : Store) : Option (Option W) := match it with
  | .items ws => some ws[i]?
  | .cell n => match S[n]? with
    | some (.lst ws) => some ws[i]?
    | _ => none
  | .zip a b => match a.next i S, b.next i S with
    | some (some x), some (some y) => some (some (mkTup [x, y]))
    | some none, some _ => some none
    | some _, some none => some none
    | _, _ => none
  | .enm a => match a.next i S with
    | some (some x) => some (some (mkTup [.int i, x]))
    | some none => some none
    | none => none
def WalkOk (g : Gx) (J : It) (ρ : List Addr) (F : Hp) (it : Iter) : Prop := ∀ bs ρ' F' N' S' H' i, Grow ρ F ρ' F' → Sim g bs ρ' F' N' S' H' → match it.next i S' with
  | some (some w) => J.go i H' ∧ ∀ x H2, J.yld i H' x H2 → ∃ F2, Grow ρ' F' ρ' F2 ∧ Sim g bs ρ' F2 N' S' H2 ∧ Is g.K ρ' F2 x w
  | some none => J.stop i H'
  | none => True
def PostI (g : Gx) (B : WX) (bs : List Nat) (ρ : List Addr) (F N : Hp) (σ : L2.St) (R : It → Hp → Prop) : Out Iter → Prop
  | .ok it S' => ∀ ρ' F' H' J, Grow ρ F ρ' F' → Sim g bs ρ' F' N S' H' → WalkOk g J ρ' F' it → R J H'
  | .ex c ws S' => ∀ ρ' F' H' d, Grow ρ F ρ' F' → Sim g bs ρ' F' N S' H' → ExR g c ρ' F' H' d ws → B (.ref (g.cls c)) d σ H'
  | .stuck => False
def rdI (g : Gx) (B : WX) (m : M Iter) : TI := fun σ H R => ∃ bs ρ F N env S, Sim g bs ρ F N S H ∧ EnvR g ρ F σ env ∧ PostI g B bs ρ F N σ R (m bs env S)
section
variable {X : Cx} {g : Gx} {B : WX} {bs : List Nat} {ρ ρ1 : List Addr} {F F1 N : Hp} {D : Ends} {σ : L2.St}
theorem Post.iter {α β : Type} {R : List Addr → Hp → β → α → Prop} {Rr : It → Hp → Prop} {o : Out α} {f : α → Store → Out Iter} (h : PostI g B bs ρ F N σ Rr (o.bind f)) :
    Post g B R bs ρ F N σ (fun v H1 => ∃ ρ' F' a S', Grow ρ F ρ' F' ∧ Sim g bs ρ' F' N S' H1 ∧ R ρ' F' v a ∧ PostI g B bs ρ' F' N σ Rr (f a S')) o := by
  cases o with
  | ok a S1 =>
    refine fun ρ' F' H' v gr s' r => ⟨ρ', F', a, S1, gr, s', r, ?_⟩
    simp only [Out.bind_ok] at h
    cases hf : f a S1 with
    | ok it S2 => rw [hf] at h; exact fun ρ2 F2 H2 J g2 => h ρ2 F2 H2 J (gr.trans g2)
    | ex c ws S2 => rw [hf] at h; exact fun ρ2 F2 H2 d g2 => h ρ2 F2 H2 d (gr.trans g2)
    | stuck => rw [hf] at h; exact h
  | ex c ws S1 => exact h
  | stuck => exact h
variable {a b c e tg : Expr} {es : List Expr} {ma mb mc : M W} {ms : M (List W)} {pos : Pos} {st : Stmt} {rest : List Stmt}
/-- a sequence's items: a tuple or frozen list as it is; a cell by its place -/
def iterT (w : W) : Option Iter := (tupOf w).map .items
def iterL (S : Store) (w : W) : Option Iter := match w with
  | .dat (.list ds) => some (.items (ds.map .dat))
  | .lw ws => some (.items ws)
  | .loc n => match S[n]? with
    | some (.lst _) => some (.cell n)
    | _ => none
  | _ => none
theorem walk_tup {a : Addr} {vs : List V} {ws : List W} (q : SqT g.K F a vs) (l : IsAll g.K ρ F vs ws) : WalkOk g (Itt g.K a) ρ F (.items ws) := by
  intro bs ρ' F' N' S' H' i gr s
  have q' : SqT g.K H' a vs := Same.sqT s.ex (Same.sqT gr.ex q)
  show match (some ws[i]? : Option (Option W)) with
    | some (some w) => _
    | some none => _
    | none => True
  cases hw : ws[i]? with
  | some w =>
    obtain ⟨v, hv, r⟩ := l.get hw
    refine ⟨⟨vs, v, q', hv⟩, fun x H2 ⟨e, h⟩ => ?_⟩
    subst e
    have := h vs q'
    rw [hv] at this; cases this
    exact ⟨F', Grow.refl _ _, s, r.mono gr⟩
  | none => exact ⟨vs, q', by rw [l.len]; exact List.getElem?_eq_none_iff.mp hw⟩
theorem walk_lst {a : Addr} {vs : List V} {ws : List W} (q : SqL g.K F a vs) (l : IsAll g.K ρ F vs ws) : WalkOk g (Itl g.K a) ρ F (.items ws) := by
  intro bs ρ' F' N' S' H' i gr s
  have q' : SqL g.K H' a vs := s.ex.seq (gr.ex.seq q)
  show match (some ws[i]? : Option (Option W)) with
    | some (some w) => _
    | some none => _
    | none => True
  cases hw : ws[i]? with
  | some w =>
    obtain ⟨v, hv, r⟩ := l.get hw
    refine ⟨⟨vs, v, q', hv⟩, fun x H2 ⟨e, h⟩ => ?_⟩
    subst e
    have := h vs q'
    rw [hv] at this; cases this
    exact ⟨F', Grow.refl _ _, s, r.mono gr⟩
  | none => exact ⟨vs, q', by rw [l.len]; exact List.getElem?_eq_none_iff.mp hw⟩
theorem walk_cell {a : Addr} {n : Nat} (hn : ρ[n]? = some a) : WalkOk g (Itl g.K a) ρ F (.cell n) := by
  intro bs ρ' F' N' S' H' i gr s
  have hn' := gr.at hn
  show match (match S'[n]? with
    | some (.lst ws) => some ws[i]?
    | _ => none : Option (Option W)) with
    | some (some w) => _
    | some none => _
    | none => True
  cases hc : S'[n]? with
  | none => trivial
  | some c =>
    cases c with
    | lst ws =>
      obtain ⟨vs, e, l⟩ := s.cell n _ _ hc hn'
      have q' : SqL g.K H' a vs := SqL.of e
      cases hw : ws[i]? with
      | some w =>
        obtain ⟨v, hv, r⟩ := l.get hw
        simp only [hw]
        refine ⟨⟨vs, v, q', hv⟩, fun x H2 ⟨e2, h⟩ => ?_⟩
        subst e2
        have := h vs q'
        rw [hv] at this; cases this
        exact ⟨F', Grow.refl _ _, s, r⟩
      | none => simp only [hw]; exact ⟨vs, q', by rw [l.len]; exact List.getElem?_eq_none_iff.mp hw⟩
    | dic _ => trivial
    | ins _ _ => trivial
    | fz _ => trivial
def mItT (m : M W) : M Iter := fun bs env S => (m bs env S).bind fun w S1 => match iterT w with
  | some it => .ok it S1
  | none => .stuck
def mItL (m : M W) : M Iter := fun bs env S => (m bs env S).bind fun w S1 => match iterL S1 w with
  | some it => .ok it S1
  | none => .stuck
/-- range -/
def rangeW (lo hi : Int) : List W := (List.range (hi - lo).toNat).map fun (i : Nat) => W.int (lo + (i : Int))
theorem walk_range {lo : Int} {n : Nat} : WalkOk g (Itr lo n) ρ F (.items ((List.range n).map fun (i : Nat) => W.int (lo + (i : Int)))) := by
  intro bs ρ' F' N' S' H' i gr s
  show match (some ((List.range n).map fun (i : Nat) => W.int (lo + (i : Int)))[i]? : Option (Option W)) with
    | some (some w) => _
    | some none => _
    | none => True
  rw [List.getElem?_map]
  by_cases h : i < n
  · rw [List.getElem?_range h]
    refine ⟨h, fun x H2 ⟨e, q⟩ => ?_⟩
    subst e q
    exact ⟨F', Grow.refl _ _, s, .dat (.int _)⟩
  · rw [List.getElem?_eq_none (by simpa using h)]
    show n ≤ i
    omega
/-- decided, but not by unfolding -/
@[irreducible] def rdec (n : Int) : Decidable (n < 4611686018427387904 ∧ -4611686018427387904 ≤ n) := inferInstance
def mRng1 (ms : M (List W)) : M Iter := fun bs env S => (ms bs env S).bind fun ws S1 => match ws with
  | [.dat (.int n)] => @ite _ (n < 4611686018427387904 ∧ -4611686018427387904 ≤ n) (rdec n) (.ok (.items (rangeW 0 n)) S1) .stuck
  | _ => .stuck
def mRng2 (ms : M (List W)) : M Iter := fun bs env S => (ms bs env S).bind fun ws S1 => match ws with
  | [.dat (.int i), .dat (.int n)] => @ite _ ((n < 4611686018427387904 ∧ -4611686018427387904 ≤ n) ∧ (i < 4611686018427387904 ∧ -4611686018427387904 ≤ i)) (@instDecidableAnd _ _ (rdec n) (rdec i)) (.ok (.items (rangeW i n)) S1) .stuck
  | _ => .stuck
theorem ri_range1 {p : Pos} (hg : Gl X "range") (hm : X.mg "range" = none) (ha : PA X [a] (rdA g B ms)) (hs : starEach [a] X.env = [(false, eval a X.env)] := by rfl) : PI X tg (.Call (.Name "range" p) [a] [] pos) (rdI g B (mRng1 ms)) :=
  (pi_range1 hg hm ha hs).imp fun σ H R ⟨bs, ρ, F, N, env, S, s, e, p⟩ => by
    refine ⟨bs, ρ, F, N, env, S, s, e, (Post.iter (R := RWs g) p).imp fun x H1 ⟨ρ1, F1, wx, S1, g1, s1, r1, p1⟩ => ?_⟩
    split at p1
    · split at p1
      · rename_i n hl
        obtain ⟨v, rfl, r2⟩ := all_one r1
        rw [is_int r2]
        refine ⟨n, rfl, by omega, by omega, p1 ρ1 F1 H1 _ (Grow.refl _ _) s1 ?_⟩
        have e : (n - 0).toNat = n.toNat := by simp
        unfold rangeW; rw [e]; exact walk_range
      · exact p1.elim
    · exact p1.elim
theorem ri_range2 {p : Pos} (hg : Gl X "range") (hm : X.mg "range" = none) (ha : PA X [a, b] (rdA g B ms)) (hs : starEach [a, b] X.env = [(false, eval a X.env), (false, eval b X.env)] := by rfl) (hs2 : starEach [b] X.env = [(false, eval b X.env)] := by rfl) :
    PI X tg (.Call (.Name "range" p) [a, b] [] pos) (rdI g B (mRng2 ms)) :=
  (pi_range2 hg hm ha hs hs2).imp fun σ H R ⟨bs, ρ, F, N, env, S, s, e, p⟩ => by
    refine ⟨bs, ρ, F, N, env, S, s, e, (Post.iter (R := RWs g) p).imp fun x H1 ⟨ρ1, F1, wx, S1, g1, s1, r1, p1⟩ => ?_⟩
    split at p1
    · split at p1
      · rename_i i n hl
        obtain ⟨v, u, rfl, r2, r3⟩ := all_two r1
        rw [is_int r2, is_int r3]
        exact ⟨i, n, rfl, ⟨by omega, by omega, by omega, by omega⟩, p1 ρ1 F1 H1 _ (Grow.refl _ _) s1 walk_range⟩
      · exact p1.elim
    · exact p1.elim

/-! ### for -/
/-- a body's end at a turn -/
def SO.turn (o : SO) (f : Env → Store → SO) : SO := match o with
  | .nx env S => f env S
  | .ct env S => f env S
  | .bk env S => .nx env S
  | o => o
def forG (it : Iter) (bd : W → MS) : Nat → Nat → MS
  | 0, _ => fun _ _ _ => .stuck
  | f + 1, i => fun bs env S => match it.next i S with
    | none => .stuck
    | some none => .nx env S
    | some (some w) => (bd w bs env S).turn fun e S1 => forG it bd f (i + 1) bs e S1
def tBody (t : TM) (m : MS) : W → MS := fun w bs env S => (t w bs env S).so env fun e S1 => m bs e S1
def sFor (mi : M Iter) (t : TM) (m : MS) : MS := fun bs env S => (mi bs env S).so env fun it S1 => forG it (tBody t m) it.fuel 0 bs env S1
theorem rs_for {mi : M Iter} {t : TM} {m : MS} {iter : Expr} {body : List Stmt} (hp : PassesOwn (model X.prog X.w) X.A X.env X.xe) (hc : X.calm = true) (hi : PI X tg iter (rdI g B mi)) (hg : PG X tg (rdTg g B t)) (hb : PSs X body (rdS g B m))
    (hs : ∀ x, foldedSetIterable iter X.env x = pure x := by intro _; rfl) : PS X (.For tg iter body [] pos) (rdS g B (sFor mi t m)) := (ps_for hp hc hi hg hb hs).imp fun D σ H ⟨bs, ρ, F, N, env, S, s, e, p⟩ => by
  refine ⟨bs, ρ, F, N, env, S, s, e, ?_⟩
  unfold sFor at p
  cases hm : mi bs env S with
  | stuck => rw [hm] at p; exact p
  | ex c ws S1 => rw [hm] at p; exact fun ρ' F' H' d gr s' r => p ρ' F' H' σ d gr s' (e.mono gr) r
  | ok it S1 =>
    rw [hm] at p
    intro ρ1 F1 H1 J g1 s1 wk
    have p1 : PostS g B bs ρ1 F1 N D (forG it (tBody t m) it.fuel 0 bs env S1) := PostS.grow g1 p
    refine ⟨fun i m' σ' H' => ∃ ρ' F' env' S', Grow ρ1 F1 ρ' F' ∧ Sim g bs ρ' F' N S' H' ∧ EnvR g ρ' F' σ' env' ∧ PostS g B bs ρ' F' N D (forG it (tBody t m) m' i bs env' S'), ⟨it.fuel, ρ1, F1, env, S1, Grow.refl _ _, s1, e.mono g1, p1⟩, ?_⟩
    rintro i m' σ' H' ⟨ρ', F', env', S', g', s', e', p'⟩
    cases m' with
    | zero => exact p'.elim
    | succ f =>
      unfold forG at p'
      have w := wk bs ρ' F' N S' H' i g' s'
      cases hx : it.next i S' with
      | none => rw [hx] at p'; exact p'.elim
      | some o =>
        cases o with
        | none => rw [hx] at p' w; exact .inl ⟨w, p' ρ' F' H' σ' (Grow.refl _ _) s' e'⟩
        | some x =>
          rw [hx] at p' w
          refine .inr ⟨w.1, fun σ2 H2 => ∃ ρ2 F2 env2 S2, Grow ρ' F' ρ2 F2 ∧ Sim g bs ρ2 F2 N S2 H2 ∧ EnvR g ρ2 F2 σ2 env2 ∧ PostS g B bs ρ2 F2 N D (forG it (tBody t m) f (i + 1) bs env2 S2), fun σ2 H2 ⟨ρ2, F2, env2, S2, g2, s2, e2, p2⟩ => ⟨f, Nat.lt_succ_self f, ρ2, F2, env2, S2, g'.trans g2, s2, e2, p2⟩, fun v H2 y => ?_⟩
          obtain ⟨F2, g2, s2, r2⟩ := w.2 v H2 y
          refine ⟨bs, ρ', F2, N, env', S', x, s2, e'.mono g2, r2, ?_⟩
          have p2 := PostS.grow g2 p'
          unfold tBody at p2
          cases ht : t x bs env' S' with
          | stuck => simp only [ht, Out.so, SO.turn] at p2; exact p2
          | ex c ws S3 => simp only [ht, Out.so, SO.turn] at p2; exact fun ρ3 F3 H3 d g3 s3 r3 => p2 ρ3 F3 H3 σ' d g3 s3 ((e'.mono g2).mono g3) r3
          | ok env3 S3 =>
            simp only [ht, Out.so] at p2
            intro ρ3 F3 H3 σ3 g3 s3 e3
            refine ⟨bs, ρ3, F3, N, env3, S3, s3, e3, ?_⟩
            have p3 := PostS.grow g3 p2
            cases ho : m bs env3 S3 with
            | nx e4 S4 => simp only [ho, SO.turn] at p3; exact fun ρ4 F4 H4 σ4 g4 s4 e4' => ⟨ρ4, F4, e4, S4, g2.trans (g3.trans g4), s4, e4', PostS.grow g4 p3⟩
            | ct e4 S4 => simp only [ho, SO.turn] at p3; exact fun ρ4 F4 H4 σ4 g4 s4 e4' => ⟨ρ4, F4, e4, S4, g2.trans (g3.trans g4), s4, e4', PostS.grow g4 p3⟩
            | bk e4 S4 => simp only [ho, SO.turn] at p3; exact p3
            | rt w4 S4 => simp only [ho, SO.turn] at p3; exact p3
            | ex c ws e4 S4 => simp only [ho, SO.turn] at p3; exact p3
            | stuck => simp only [ho, SO.turn] at p3; exact p3
end
end Rf

namespace Rf
open PySem L2

/-! ### what is hidden while it is made -/
section
variable {g : Gx} {bs : List Nat} {ρ : List Addr} {F N H : Hp} {S : Store} {D : Addr} {o : HO}
theorem Sim.freeN (s : Sim g bs ρ F N S H) (h : H D = none) : F D = none ∧ N D = none ∧ D ∉ ρ :=
  ⟨s.ex.free h, s.hid.free h, fun z => by obtain ⟨o, e⟩ := s.has z; rw [h] at e; cases e⟩
theorem Sim.hide (s : Sim g bs ρ F N S H) (h : H D = none) (hl : Mu (some o) := by exact True.intro) : Sim g bs ρ F (upd N D o) S (upd H D o) := by
  obtain ⟨h1, h2, h3⟩ := s.freeN h
  refine ⟨s.len, s.nd, fun a u e => ?_, s.fr, fun n c a e1 e2 => ?_, fun a u e => ?_, fun a u e => ?_, (fun a u e => by
    by_cases z : a = D
    · subst z; rw [upd_same] at e; cases e; exact hl
    · rw [upd_ne z] at e; exact s.nl a u e), s.bot, tabs_new h s.tab, s.nt⟩
  · rw [upd_ne (ne_of_none e h1)]; exact s.ex a u e
  · exact (s.cell n c a e1 e2).mono (Grow.refl _ _) (by rw [upd_ne (ne_mem (List.mem_of_getElem? e2) h3)])
  · by_cases z : a = D
    · subst z; rw [upd_same] at e ⊢; exact e
    · rw [upd_ne z] at e ⊢; exact s.hid a u e
  · by_cases z : a = D
    · subst z; exact ⟨h1, h3⟩
    · rw [upd_ne z] at e; exact s.nf a u e
theorem Sim.hidNT (s : Sim g bs ρ F (upd N D o) S H) : ∀ u, H D = some u → NT u := fun u e => by
  have h := s.hid D o upd_same
  rw [h] at e; cases e
  exact (s.nl D o upd_same).nt
theorem Sim.rehide {o' : HO} (s : Sim g bs ρ F (upd N D o) S H) (hl : Mu (some o') := by exact True.intro) : Sim g bs ρ F (upd N D o') S (upd H D o') := by
  obtain ⟨h1, h3⟩ := s.nf D o upd_same
  refine ⟨s.len, s.nd, fun a u e => ?_, s.fr, fun n c a e1 e2 => ?_, fun a u e => ?_, fun a u e => ?_, (fun a u e => by
    by_cases z : a = D
    · subst z; rw [upd_same] at e; cases e; exact hl
    · rw [upd_ne z] at e; exact s.nl a u (by rw [upd_ne z]; exact e)), s.bot, tabs_put s.hidNT s.tab, s.nt⟩
  · rw [upd_ne (ne_of_none e h1)]; exact s.ex a u e
  · exact (s.cell n c a e1 e2).mono (Grow.refl _ _) (by rw [upd_ne (ne_mem (List.mem_of_getElem? e2) h3)])
  · by_cases z : a = D
    · subst z; rw [upd_same] at e ⊢; exact e
    · rw [upd_ne z] at e ⊢; exact s.hid a u (by rw [upd_ne z]; exact e)
  · by_cases z : a = D
    · subst z; exact ⟨h1, h3⟩
    · exact s.nf a u (by rw [upd_ne z] at e ⊢; exact e)
theorem Sim.showF (s : Sim g bs ρ F (upd N D o) S H) (hn : N D = none) : Sim g bs ρ (upd F D o) N S H ∧ Grow ρ F ρ (upd F D o) := by
  obtain ⟨h1, h3⟩ := s.nf D o upd_same
  have gr : Grow ρ F ρ (upd F D o) := ⟨⟨[], by simp⟩, same_new h1⟩
  refine ⟨⟨s.len, s.nd, fun a u e => ?_, fun n c a e1 e2 e3 => ?_, fun n c a e1 e2 => (s.cell n c a e1 e2).mono gr rfl, fun a u e => ?_, fun a u e => ?_, (fun a u e => s.nl a u (by rw [upd_ne (ne_of_none e hn)]; exact e)), s.bot, s.tab, nt_upd s.nt (s.nl D o upd_same).nt.1⟩, gr⟩
  · by_cases z : a = D
    · subst z; rw [upd_same] at e; rw [← e]; exact s.hid a o upd_same
    · rw [upd_ne z] at e; exact s.ex a u e
  · rw [upd_ne (ne_mem (List.mem_of_getElem? e2) h3)]; exact s.fr n c a e1 e2 e3
  · exact s.hid a u (by rw [upd_ne (ne_of_none e hn)]; exact e)
  · have z := ne_of_none e hn
    rw [upd_ne z]; exact s.nf a u (by rw [upd_ne z]; exact e)
theorem Sim.showC {c : Cell} (s : Sim g bs ρ F (upd N D o) S H) (hn : N D = none) (hc : CellOk g (ρ ++ [D]) F H D c) : Sim g bs (ρ ++ [D]) F N (S ++ [c]) H ∧ Grow ρ F (ρ ++ [D]) F := by
  obtain ⟨h1, h3⟩ := s.nf D o upd_same
  have gr : Grow ρ F (ρ ++ [D]) F := ⟨⟨[D], rfl⟩, Same.refl F⟩
  refine ⟨⟨by simp [s.len], ?_, s.ex, fun n c' a e1 e2 e3 => ?_, fun n c' a e1 e2 => ?_, fun a u e => ?_, fun a u e => ?_, (fun a u e => s.nl a u (by rw [upd_ne (ne_of_none e hn)]; exact e)), fun b hb => ?_, s.tab, s.nt⟩, gr⟩
  · rw [List.nodup_append]; exact ⟨s.nd, by simp, fun a ha b hb z => by simp at hb; subst hb; subst z; exact h3 ha⟩
  · by_cases hl : n < S.length
    · rw [List.getElem?_append_left hl] at e1
      rw [List.getElem?_append_left (by rw [s.len]; exact hl)] at e2
      exact s.fr n c' a e1 e2 e3
    · have hl2 := (List.getElem?_eq_some_iff.mp e1).1
      have e : n = S.length := by simp at hl2; omega
      subst e
      rw [← s.len] at e2; simp at e2
      subst e2; exact h1
  · by_cases hl : n < S.length
    · rw [List.getElem?_append_left hl] at e1
      rw [List.getElem?_append_left (by rw [s.len]; exact hl)] at e2
      exact (s.cell n c' a e1 e2).mono gr rfl
    · have hl2 := (List.getElem?_eq_some_iff.mp e1).1
      have e : n = S.length := by simp at hl2; omega
      subst e
      simp at e1
      rw [← s.len] at e2; simp at e2
      subst e1; subst e2
      exact hc
  · exact s.hid a u (by rw [upd_ne (ne_of_none e hn)]; exact e)
  · have z := ne_of_none e hn
    have w := s.nf a u (by rw [upd_ne z]; exact e)
    refine ⟨w.1, fun ha => ?_⟩
    rcases List.mem_append.mp ha with ha | ha
    · exact w.2 ha
    · simp at ha; exact z ha
  · obtain ⟨b1, b2⟩ := s.bot b hb
    refine ⟨by simp; omega, fun k c' hk e => b2 k c' hk ?_⟩
    rw [List.getElem?_append_left (by omega)] at e
    exact e
/-- a list that was hidden comes to light -/
theorem show_ok {k : Bool} {vs : List V} {ws : List W} {Q : VK} (s : Sim g bs ρ F (upd N D (.lst vs)) S H) (hn : N D = none) (r : IsAll g.K ρ F vs ws)
    (h : ∀ ρ' F' H' v, Grow ρ F ρ' F' → Sim g bs ρ' F' N (newL k ws S).2 H' → Is g.K ρ' F' v (newL k ws S).1 → Q v H') : Q (.ref D) H := by
  cases k with
  | true =>
    obtain ⟨s', gr⟩ := s.showC (c := .lst ws) hn ⟨vs, s.hid D _ upd_same, r.mono ⟨⟨[D], rfl⟩, Same.refl F⟩⟩
    refine h _ _ _ _ gr s' (.loc ?_)
    show (ρ ++ [D])[S.length]? = some D
    rw [← s.len]; simp
  | false =>
    obtain ⟨s', gr⟩ := s.showF hn
    exact h _ _ _ _ gr s' (is_mkLst upd_same (r.mono gr))
end

/-! ### targets of comprehensions -/
def wipeE (env : Env) : List Nat → Env
  | [] => env
  | v :: vs => (wipeE env vs).set v none
theorem EnvR.clr {g : Gx} {ρ : List Addr} {F : Hp} {σ : L2.St} {env : Env} (e : EnvR g ρ F σ env) (i : Nat) : EnvR g ρ F (σ.set i none) (env.set i none) := by
  refine ⟨by simp [e.len], fun j x hj => ?_, e.more⟩
  by_cases z : i = j
  · subst z
    have hl := (List.getElem?_eq_some_iff.mp hj).1
    simp only [List.length_set] at hl
    rw [List.getElem?_set_self hl] at hj
    cases hj
  · rw [List.getElem?_set_ne z] at hj ⊢
    exact e.at_ j x hj
theorem EnvR.wipe {g : Gx} {ρ : List Addr} {F : Hp} {σ : L2.St} {env : Env} (e : EnvR g ρ F σ env) : ∀ vs : List Nat, EnvR g ρ F (wipe σ vs) (wipeE env vs)
  | [] => e
  | v :: vs => (EnvR.wipe e vs).clr v
theorem set_wipe {σ : L2.St} {i : Nat} {x : Option V} : ∀ {vs : List Nat}, i ∈ vs → wipe (σ.set i x) vs = wipe σ vs
  | v :: vs, h => by
    unfold wipe
    by_cases z : i ∈ vs
    · rw [set_wipe z]
    · have hv : i = v := by
        rcases List.mem_cons.mp h with h | h
        · exact h
        · exact absurd h z
      subst hv
      have : wipe (σ.set i x) vs = (wipe σ vs).set i x := by
        clear h
        induction vs with
        | nil => rfl
        | cons u us ih =>
          unfold wipe
          rw [ih (fun h => z (List.mem_cons_of_mem _ h)), List.set_comm]
          exact fun h => z (by rw [h]; exact List.mem_cons_self ..)
      rw [this, List.set_set]
def rdTc (g : Gx) (B : WX) (vs : List Nat) (t : TM) : TG := fun v σ H Q => ∃ bs ρ F N env S w, Sim g bs ρ F N S H ∧ EnvR g ρ F σ env ∧ Is g.K ρ F v w ∧ PostG g B bs ρ F N σ (fun σ' H' => wipe σ' vs = wipe σ vs → Q σ' H') (t w bs env S)
def rdTcs (g : Gx) (B : WX) (vs : List Nat) (t : TMs) : TGs := fun us σ H Q => ∃ bs ρ F N env S ws, Sim g bs ρ F N S H ∧ EnvR g ρ F σ env ∧ IsAll g.K ρ F us ws ∧ PostG g B bs ρ F N σ (fun σ' H' => wipe σ' vs = wipe σ vs → Q σ' H') (t ws bs env S)
section
variable {X : Cx} {g : Gx} {B : WX} {bs : List Nat} {ρ ρ1 : List Addr} {F F1 N : Hp} {σ : L2.St} {vs : List Nat} {e : Expr} {es : List Expr} {pos : Pos}
theorem rc_name {i : Nat} {x : Str} (hN : X.N.Nodup) (hv : i ∈ vs := by decide) (hi : X.N[i]? = some x := by rfl) (hx : Loc X.env.scope x := by first | exact Or.inl rfl | exact Or.inr rfl) (hf : X.fn x = true ∨ X.env.scope.names.lookup x = some .local := by first | exact .inl rfl | exact .inr rfl | assumption) : PG X (.Name x pos) (rdTc g B vs (tName i)) :=
  (pg_name hN hi hx hf).imp fun v σ H Q ⟨bs, ρ, F, N, env, S, w, s, e, r, p⟩ => p ρ F H _ (Grow.refl _ _) s (e.set i r) (set_wipe hv)
theorem rcs_nil : PGs X [] (rdTcs g B vs tNil) := ⟨fun pins s σ H us zs Q I rv ⟨bs, ρ, F, N, env, S, ws, s1, e, r, p⟩ => by
  refine pgs_nil.run pins s σ H us zs Q I rv ?_
  cases ws with
  | nil => cases r; exact ⟨rfl, p ρ F H σ (Grow.refl _ _) s1 e rfl⟩
  | cons w ws => exact p.elim⟩
theorem rcs_cons {t : TM} {u : TMs} (h1 : PG X e (rdTc g B vs t)) (h2 : PGs X es (rdTcs g B vs u)) (hu : ∀ ws bs env S c us S1, u ws bs env S ≠ .ex c us S1)
    (hs : (assignEach (e :: es) X.env).map (·.2) = assign e X.env :: (assignEach es X.env).map (·.2) := by rfl) : PGs X (e :: es) (rdTcs g B vs (tCons t u)) := ⟨fun pins s σ H us zs Q I rv ⟨bs, ρ, F, N, env, S, ws, s1, e, r, p⟩ => by
  refine (pgs_cons h1 h2 hs).run pins s σ H us zs Q I rv ?_
  cases ws with
  | nil => exact p.elim
  | cons w ws =>
    cases r with
    | @cons v vs' _ _ ra rb =>
      refine ⟨v, vs', rfl, bs, ρ, F, N, env, S, w, s1, e, ra, ?_⟩
      unfold tCons at p
      cases ht : t w bs env S with
      | ok e1 S1 =>
        simp only [ht, Out.bind_ok] at p
        intro ρ' F' H' σ' gr s' e' w1
        refine ⟨bs, ρ', F', N, e1, S1, ws, s', e', rb.mono gr, ?_⟩
        cases hq : u ws bs e1 S1 with
        | ok e2 S2 => rw [hq] at p; exact fun ρ2 F2 H2 σ2 g2 s2 e2' w2 => p ρ2 F2 H2 σ2 (gr.trans g2) s2 e2' (w2.trans w1)
        | ex c us S2 => exact absurd hq (hu _ _ _ _ _ _ _)
        | stuck => rw [hq] at p; exact p
      | ex c us S1 => simp only [ht, Out.bind_ex] at p; exact p
      | stuck => simp only [ht, Out.bind_stuck] at p; exact p⟩
theorem rc_tup (hK : g.K = X.K) {k : Nat} {t : TMs} {n : Nat} (hc : X.calm = true) (h : PGs X es (rdTcs g B vs t)) (hn : (assignEach es X.env).length = n := by rfl) (hst : (assignEach es X.env).findIdx? (·.1) = none := by rfl) :
    PG X (.Tuple es k pos) (rdTc g B vs (tTup n t)) := (pg_tup hc h hn hst).imp fun v σ H Q ⟨bs, ρ, F, N, env, S, w, s, e, r, p⟩ => by
  unfold tTup at p
  split at p
  · rename_i ws hw
    split at p
    · rename_i hl
      obtain ⟨a, vs, rfl, q, l⟩ := tup_of r hw
      rw [hK] at q
      exact ⟨a, vs, rfl, Same.sqT s.ex q, by rw [l.len]; exact hl, bs, ρ, F, N, env, S, ws, s, e, l, p⟩
    · exact p.elim
  · exact p.elim

/-! ### comprehensions -/
def NoB : WX := fun _ _ _ _ => False
def mYes : M Bool := fun _ _ S => .ok true S
theorem rts_nil {B : WX} : PTs X [] (rdT g B mYes) := ⟨fun pins s σ H Q I ⟨bs, ρ, F, N, env, S, s1, e, p⟩ => pts_nil.run pins s σ H Q I (p ρ F H true (Grow.refl _ _) s1 rfl)⟩
theorem rts_one {B : WX} {c : Expr} {m : M Bool} (h : PT X c (rdT g B m)) : PTs X [c] (rdT g B m) := pts_one h
/-- no exception goes out of a comprehension's turns -/
def Out.bindC {α β : Type} : Out α → (α → Store → Out β) → Out β
  | .ok a S, f => f a S
  | _, _ => .stuck
@[simp] theorem Out.bindC_ok {α β : Type} (a : α) (S : Store) (f : α → Store → Out β) : (Out.ok a S).bindC f = f a S := rfl
def compG (it : Iter) (t : TM) (c : M Bool) (e : M W) : Nat → Nat → List W → M (List W)
  | 0, _, _ => fun _ _ _ => .stuck
  | f + 1, i, acc => fun bs env S => match it.next i S with
    | none => .stuck
    | some none => .ok acc S
    | some (some w) => (t w bs env S).bindC fun env1 S1 => (c bs env1 S1).bindC fun b S2 =>
      if b = true then (e bs env1 S2).bindC fun y S3 => if acc.length < 100000 then compG it t c e f (i + 1) (acc ++ [y]) bs env S3 else .stuck
      else compG it t c e f (i + 1) acc bs env S2
def mComp (k : Bool) (mi : M Iter) (vs : List Nat) (t : TM) (c : M Bool) (e : M W) : M W := fun bs env S => (mi bs env S).bind fun it S1 =>
  (compG it t c e it.fuel 0 [] bs (wipeE env vs) S1).bind fun ws S2 => .ok (newL k ws S2).1 (newL k ws S2).2
theorem Post.bindC {α β γ δ ε : Type} {R1 : List Addr → Hp → β → α → Prop} {R2 : List Addr → Hp → δ → γ → Prop} {σ' : L2.St} {Q : δ → Hp → Prop} {o : Out α} {f : α → Store → Out ε} {f2 : ε → Store → Out γ} {N' : Hp}
    (h : Post g B R2 bs ρ F N σ Q ((o.bindC f).bind f2)) :
    Post g NoB R1 bs ρ F N' σ' (fun v H1 => ∃ ρ' F' a S', Grow ρ F ρ' F' ∧ Sim g bs ρ' F' N' S' H1 ∧ R1 ρ' F' v a ∧ Post g B R2 bs ρ' F' N σ Q ((f a S').bind f2)) o := by
  cases o with
  | ok a S1 => exact fun ρ' F' H' v gr s' r => ⟨ρ', F', a, S1, gr, s', r, Post.grow gr h⟩
  | ex c ws S1 => exact h.elim
  | stuck => exact h.elim
end
end Rf

namespace Rf
open PySem L2
section
variable {X : Cx} {g : Gx} {B : WX} {bs : List Nat} {ρ ρ1 : List Addr} {F F1 N N' : Hp} {σ σ' : L2.St} {vs : List Nat} {e : Expr} {es : List Expr} {pos : Pos}
theorem PostG.bindC {γ δ ε : Type} {R2 : List Addr → Hp → δ → γ → Prop} {Q : δ → Hp → Prop} {o : Out Env} {f : Env → Store → Out ε} {f2 : ε → Store → Out γ}
    (h : Post g B R2 bs ρ F N σ Q ((o.bindC f).bind f2)) {Q' : L2.St → Hp → Prop}
    (i : ∀ ρ' F' H' σ2 e2 S', Grow ρ F ρ' F' → Sim g bs ρ' F' N' S' H' → EnvR g ρ' F' σ2 e2 → Post g B R2 bs ρ' F' N σ Q ((f e2 S').bind f2) → Q' σ2 H') : PostG g NoB bs ρ F N' σ' Q' o := by
  cases o with
  | ok a S1 => exact fun ρ' F' H' σ2 gr s' r => i ρ' F' H' σ2 a S1 gr s' r (Post.grow gr h)
  | ex c ws S1 => exact h.elim
  | stuck => exact h.elim
theorem wipe_wipe {ws : List Nat} : ∀ {vs : List Nat}, (∀ i ∈ vs, i ∈ ws) → wipe (wipe σ vs) ws = wipe σ ws
  | [], _ => rfl
  | v :: vs, h => by
    show wipe ((wipe σ vs).set v none) ws = _
    rw [set_wipe (h v (List.mem_cons_self ..)), wipe_wipe fun i hi => h i (List.mem_cons_of_mem _ hi)]
def finL (k : Bool) : List W → Store → Out W := fun ws S2 => .ok (newL k ws S2).1 (newL k ws S2).2
theorem IsAll.snoc {K : PySem.W.Frag} {v : V} {w : W} : ∀ {ws : List W} {us : List V}, IsAll K ρ F us ws → Is K ρ F v w → IsAll K ρ F (us ++ [v]) (ws ++ [w])
  | [], _, h, r => by cases h; exact .cons r .nil
  | _ :: _, _, h, r => by
    cases h with
    | cons a b => exact .cons a (IsAll.snoc b r)
/-- a turn's end: the item is put behind -/
theorem comp_put {D : Addr} {accv : List V} {acc : List W} {S : Store} {H : Hp} {yv : V} {y : W} (s : Sim g bs ρ F (upd N D (.lst accv)) S H) (l : IsAll g.K ρ F accv acc) (r : Is g.K ρ F yv y) (hl : acc.length < 100000) :
    ∃ a, H D = some (.lst a) ∧ a.length < sizeLine ∧ Sim g bs ρ F (upd N D (.lst (a ++ [yv]))) S (upd H D (.lst (a ++ [yv]))) ∧ IsAll g.K ρ F (a ++ [yv]) (acc ++ [y]) :=
  ⟨accv, s.hid D _ upd_same, by rw [l.len]; exact Nat.lt_of_lt_of_le hl (by decide), s.rehide, l.snoc r⟩
theorem rd_lc {k : Bool} {mi : M Iter} {t : TM} {mc : M Bool} {me : M W} {vs : List Nat} (σ : L2.St) (H : Hp) (Q : VK) (h : rd g B (mComp k mi vs t mc me) σ H Q) : tLc (rdI g B mi) (rdTc g NoB vs t) (rdT g NoB mc) (rd g NoB me) vs σ H Q := by
  obtain ⟨bs, ρ, F, N, env, S, s, e, p⟩ := h
  refine ⟨bs, ρ, F, N, env, S, s, e, ?_⟩
  unfold mComp at p
  cases hm : mi bs env S with
  | stuck => rw [hm] at p; exact p
  | ex c ws S1 => rw [hm] at p; exact p
  | ok it S1 =>
    rw [hm] at p
    intro ρ1 F1 H1 J g1 s1 wk D hD
    obtain ⟨fD, nD, rD⟩ := s1.freeN hD
    have p1 : Post g B (RW g) bs ρ1 F1 N σ Q ((compG it t mc me it.fuel 0 [] bs (wipeE env vs) S1).bind (finL k)) := Post.grow g1 p
    have ev := (e.mono g1).wipe vs
    refine ⟨fun i m H' => ∃ ρ' F' accv acc S', Grow ρ1 F1 ρ' F' ∧ Sim g bs ρ' F' (upd N D (.lst accv)) S' H' ∧ IsAll g.K ρ' F' accv acc ∧ Post g B (RW g) bs ρ' F' N σ Q ((compG it t mc me m i acc bs (wipeE env vs) S').bind (finL k)), ⟨it.fuel, ρ1, F1, [], [], S1, Grow.refl _ _, s1.hide hD, .nil, p1⟩, ?_⟩
    rintro i m H' ⟨ρ', F', accv, acc, S', g', s', l', p'⟩
    cases m with
    | zero => exact p'.elim
    | succ f =>
      unfold compG at p'
      have w := wk bs ρ' F' _ S' H' i g' s'
      cases hx : it.next i S' with
      | none => rw [hx] at p'; exact p'.elim
      | some o =>
        cases o with
        | none => simp only [hx] at p' w; exact .inl ⟨w, show_ok s' nD l' p'⟩
        | some x =>
          simp only [hx] at p' w
          refine .inr ⟨w.1, fun H2 => ∃ ρ2 F2 accv acc S2, Grow ρ' F' ρ2 F2 ∧ Sim g bs ρ2 F2 (upd N D (.lst accv)) S2 H2 ∧ IsAll g.K ρ2 F2 accv acc ∧ Post g B (RW g) bs ρ2 F2 N σ Q ((compG it t mc me f (i + 1) acc bs (wipeE env vs) S2).bind (finL k)), fun H2 ⟨ρ2, F2, accv, acc, S2, g2, s2, l2, p2⟩ => ⟨f, Nat.lt_succ_self f, ρ2, F2, accv, acc, S2, g'.trans g2, s2, l2, p2⟩, fun v H2 y => ?_⟩
          obtain ⟨F2, g2, s2, r2⟩ := w.2 v H2 y
          have p2 := Post.grow g2 p'
          refine ⟨bs, ρ', F2, _, _, S', x, s2, (ev.mono g').mono g2, r2, PostG.bindC p2 fun ρ3 F3 H3 σ3 e3 S3 g3 s3 ev3 p3 w3 => ⟨w3.trans (wipe_wipe fun _ h => h), ?_⟩⟩
          refine ⟨bs, ρ3, F3, _, e3, S3, s3, ev3, (Post.bindC (R1 := RB) p3).imp fun b H4 ⟨ρ4, F4, b', S4, g4, s4, r4, p4⟩ => ?_⟩
          cases r4
          cases b with
          | false => exact ⟨ρ4, F4, accv, acc, S4, (g2.trans g3).trans g4, s4, ((l'.mono g2).mono g3).mono g4, p4⟩
          | true =>
            simp only [if_true] at p4 ⊢
            refine ⟨bs, ρ4, F4, _, e3, S4, s4, ev3.mono g4, (Post.bindC (R1 := RW g) p4).imp fun yv H5 ⟨ρ5, F5, y', S5, g5, s5, r5, p5⟩ => ?_⟩
            split at p5
            · rename_i hl
              obtain ⟨a, e1, e2, e3, e4⟩ := comp_put s5 ((((l'.mono g2).mono g3).mono g4).mono g5) r5 hl
              exact ⟨a, e1, e2, ρ5, F5, _, _, S5, ((g2.trans g3).trans g4).trans g5, e3, e4, p5⟩
            · exact p5.elim
theorem re_lc {k : Bool} {elt tg iter : Expr} {ifs : List Expr} {scope : Scope} {own : List (Str × Nat)} {mi : M Iter} {t : TM} {mc : M Bool} {me : M W} (hc : X.calm = true) (hN : X.N.Nodup) (ok : BlkOk X.N X.env.scope scope own) (hi : PI X tg iter (rdI g B mi))
    (hg : ∀ (s : Shared) (H : Hp) (C : Addr) (cl : List (Str × Addr)) (fp : List Addr), PG (X.blk s H scope (compEnvC scope cl C X.env) fp) tg (rdTc g NoB (own.map (·.2)) t)) (ht : ∀ (s : Shared) (H : Hp) (C : Addr) (cl : List (Str × Addr)) (fp : List Addr), PTs (X.blk s H scope (compEnvC scope cl C X.env) fp) ifs (rdT g NoB mc))
    (he : ∀ (s : Shared) (H : Hp) (C : Addr) (cl : List (Str × Addr)) (fp : List Addr), PE (X.blk s H scope (compEnvC scope cl C X.env) fp) elt (rd g NoB me)) (hs : ∀ x, foldedSetIterable iter X.env x = pure x := by intro _; rfl) :
    PE X (.ListComp elt [⟨tg, iter, ifs, 0⟩] scope pos) (rd g B (mComp k mi (own.map (·.2)) t mc me)) := (pe_lc hc hN hi ok hg ht he hs).imp rd_lc
theorem rs_setLc {k : Bool} {i : Nat} {y : Str} {py spos : Pos} {elt tg iter : Expr} {ifs : List Expr} {scope : Scope} {own : List (Str × Nat)} {mi : M Iter} {t : TM} {mc : M Bool} {me : M W} (hc : X.calm = true) (hN : X.N.Nodup) (hy : X.N[i]? = some y) (hyl : X.env.scope.names.lookup y = some .local)
    (hsw : swapsWith (.ListComp elt [⟨tg, iter, ifs, 0⟩] scope pos) (some (.Name y py)) spos.line X.env = pure true) (ok : BlkOk X.N X.env.scope scope own) (hi : PI X tg iter (rdI g B mi))
    (hg : ∀ (s : Shared) (H : Hp) (C : Addr) (cl : List (Str × Addr)) (fp : List Addr), PG (X.blk s H scope (compEnvC scope cl C X.env) fp) tg (rdTc g NoB (own.map (·.2)) t)) (ht : ∀ (s : Shared) (H : Hp) (C : Addr) (cl : List (Str × Addr)) (fp : List Addr), PTs (X.blk s H scope (compEnvC scope cl C X.env) fp) ifs (rdT g NoB mc))
    (he : ∀ (s : Shared) (H : Hp) (C : Addr) (cl : List (Str × Addr)) (fp : List Addr), PE (X.blk s H scope (compEnvC scope cl C X.env) fp) elt (rd g NoB me)) (hs : ∀ x, foldedSetIterable iter X.env x = pure x := by intro _; rfl) :
    PS X (.Assign [.Name y py] (.ListComp elt [⟨tg, iter, ifs, 0⟩] scope pos) spos) (rdS g B (sAsg (mComp k mi (own.map (·.2)) t mc me) (tName i))) := (ps_setLc hc hN hy hyl hsw hi ok hg ht he hs).imp fun D σ H h =>
  rd_lc σ H _ (rdG_imp (rd_asg D σ H h) fun v H1 ⟨bs, ρ, F, N, env, S, w, s, e, r, p⟩ => p ρ F H1 _ (Grow.refl _ _) s (e.set i r))

/-! ### while -/
def whileG (c : M Bool) (b : MS) : Nat → MS
  | 0 => fun _ _ _ => .stuck
  | f + 1 => fun bs env S => (c bs env S).so env fun t S1 => if t = true then (b bs env S1).turn fun e S2 => whileG c b f bs e S2 else .nx env S1
end
end Rf

namespace Rf
open PySem L2
section
variable {X : Cx} {g : Gx} {B : WX} {bs : List Nat} {ρ ρ1 : List Addr} {F F1 N N' : Hp} {σ σ' : L2.St} {vs : List Nat} {e : Expr} {es : List Expr} {pos : Pos}
theorem Out.bindC_bind {α β γ : Type} (o : Out α) (f : α → Store → Out β) (h : β → Store → Out γ) : (o.bindC f).bind h = o.bindC fun a S => (f a S).bind h := by cases o <;> rfl
theorem PostI.bindC {γ δ ε : Type} {R2 : List Addr → Hp → δ → γ → Prop} {Q : δ → Hp → Prop} {o : Out Iter} {f : Iter → Store → Out ε} {f2 : ε → Store → Out γ}
    (h : Post g B R2 bs ρ F N σ Q ((o.bindC f).bind f2)) {R : It → Hp → Prop}
    (i : ∀ ρ' F' H' J it S', Grow ρ F ρ' F' → Sim g bs ρ' F' N' S' H' → WalkOk g J ρ' F' it → Post g B R2 bs ρ' F' N σ Q ((f it S').bind f2) → R J H') : PostI g NoB bs ρ F N' σ' R o := by
  cases o with
  | ok a S1 => exact fun ρ' F' H' J gr s' wk => i ρ' F' H' J a S1 gr s' wk (Post.grow gr h)
  | ex c ws S1 => exact h.elim
  | stuck => exact h.elim
theorem PostG.bindCC {γ δ ε : Type} {R2 : List Addr → Hp → δ → γ → Prop} {Q : δ → Hp → Prop} {o : Out Env} {f : Env → Store → Out ε} {f2 : ε → Store → Out γ}
    (h : Post g B R2 bs ρ F N σ Q ((o.bindC f).bindC f2)) {Q' : L2.St → Hp → Prop}
    (i : ∀ ρ' F' H' σ2 e2 S', Grow ρ F ρ' F' → Sim g bs ρ' F' N' S' H' → EnvR g ρ' F' σ2 e2 → Post g B R2 bs ρ' F' N σ Q ((f e2 S').bindC f2) → Q' σ2 H') : PostG g NoB bs ρ F N' σ' Q' o := by
  cases o with
  | ok a S1 => exact fun ρ' F' H' σ2 gr s' r => i ρ' F' H' σ2 a S1 gr s' r (Post.grow gr h)
  | ex c ws S1 => exact h.elim
  | stuck => exact h.elim
theorem Post.bindCC {α β γ δ ε : Type} {R1 : List Addr → Hp → β → α → Prop} {R2 : List Addr → Hp → δ → γ → Prop} {σ' : L2.St} {Q : δ → Hp → Prop} {o : Out α} {f : α → Store → Out ε} {f2 : ε → Store → Out γ} {N' : Hp}
    (h : Post g B R2 bs ρ F N σ Q ((o.bindC f).bindC f2)) :
    Post g NoB R1 bs ρ F N' σ' (fun v H1 => ∃ ρ' F' a S', Grow ρ F ρ' F' ∧ Sim g bs ρ' F' N' S' H1 ∧ R1 ρ' F' v a ∧ Post g B R2 bs ρ' F' N σ Q ((f a S').bindC f2)) o := by
  cases o with
  | ok a S1 => exact fun ρ' F' H' v gr s' r => ⟨ρ', F', a, S1, gr, s', r, Post.grow gr h⟩
  | ex c ws S1 => exact h.elim
  | stuck => exact h.elim
def compG2 (it : Iter) (t : TM) (c : M Bool) (mi1 : M Iter) (vs1 : List Nat) (t1 : TM) (c1 : M Bool) (e : M W) : Nat → Nat → List W → M (List W)
  | 0, _, _ => fun _ _ _ => .stuck
  | f + 1, i, acc => fun bs env S => match it.next i S with
    | none => .stuck
    | some none => .ok acc S
    | some (some w) => (t w bs env S).bindC fun env1 S1 => (c bs env1 S1).bindC fun b S2 =>
      if b = true then (mi1 bs env1 S2).bindC fun it1 S3 => (compG it1 t1 c1 e it1.fuel 0 acc bs (wipeE env1 vs1) S3).bindC fun acc' S4 => compG2 it t c mi1 vs1 t1 c1 e f (i + 1) acc' bs env S4
      else compG2 it t c mi1 vs1 t1 c1 e f (i + 1) acc bs env S2
def mComp2 (k : Bool) (mi : M Iter) (vs : List Nat) (t : TM) (c : M Bool) (mi1 : M Iter) (vs1 : List Nat) (t1 : TM) (c1 : M Bool) (e : M W) : M W := fun bs env S => (mi bs env S).bind fun it S1 =>
  (compG2 it t c mi1 vs1 t1 c1 e it.fuel 0 [] bs (wipeE env vs) S1).bind fun ws S2 => .ok (newL k ws S2).1 (newL k ws S2).2
theorem rd_lc2 {k : Bool} {mi mi1 : M Iter} {t t1 : TM} {mc mc1 : M Bool} {me : M W} {vs vs1 : List Nat} (σ : L2.St) (H : Hp) (Q : VK) (h : rd g B (mComp2 k mi vs t mc mi1 vs1 t1 mc1 me) σ H Q) :
    tLc2 (rdI g B mi) (rdTc g NoB vs t) (rdT g NoB mc) (rdI g NoB mi1) (rdTc g NoB vs1 t1) (rdT g NoB mc1) (rd g NoB me) vs vs1 σ H Q := by
  obtain ⟨bs, ρ, F, N, env, S, s, e, p⟩ := h
  refine ⟨bs, ρ, F, N, env, S, s, e, ?_⟩
  unfold mComp2 at p
  cases hm : mi bs env S with
  | stuck => rw [hm] at p; exact p
  | ex c ws S1 => rw [hm] at p; exact p
  | ok it S1 =>
    rw [hm] at p
    intro ρ1 F1 H1 J g1 s1 wk D hD
    obtain ⟨fD, nD, rD⟩ := s1.freeN hD
    have p1 : Post g B (RW g) bs ρ1 F1 N σ Q ((compG2 it t mc mi1 vs1 t1 mc1 me it.fuel 0 [] bs (wipeE env vs) S1).bind (finL k)) := Post.grow g1 p
    have ev := (e.mono g1).wipe vs
    refine ⟨fun i m H' => ∃ ρ' F' accv acc S', Grow ρ1 F1 ρ' F' ∧ Sim g bs ρ' F' (upd N D (.lst accv)) S' H' ∧ IsAll g.K ρ' F' accv acc ∧ Post g B (RW g) bs ρ' F' N σ Q ((compG2 it t mc mi1 vs1 t1 mc1 me m i acc bs (wipeE env vs) S').bind (finL k)), ⟨it.fuel, ρ1, F1, [], [], S1, Grow.refl _ _, s1.hide hD, .nil, p1⟩, ?_⟩
    rintro i m H' ⟨ρ', F', accv, acc, S', g', s', l', p'⟩
    cases m with
    | zero => exact p'.elim
    | succ f =>
      unfold compG2 at p'
      have w := wk bs ρ' F' _ S' H' i g' s'
      cases hx : it.next i S' with
      | none => rw [hx] at p'; exact p'.elim
      | some o =>
        cases o with
        | none => simp only [hx] at p' w; exact .inl ⟨w, show_ok s' nD l' p'⟩
        | some x =>
          simp only [hx] at p' w
          refine .inr ⟨w.1, fun H2 => ∃ ρ2 F2 accv acc S2, Grow ρ' F' ρ2 F2 ∧ Sim g bs ρ2 F2 (upd N D (.lst accv)) S2 H2 ∧ IsAll g.K ρ2 F2 accv acc ∧ Post g B (RW g) bs ρ2 F2 N σ Q ((compG2 it t mc mi1 vs1 t1 mc1 me f (i + 1) acc bs (wipeE env vs) S2).bind (finL k)), fun H2 ⟨ρ2, F2, accv, acc, S2, g2, s2, l2, p2⟩ => ⟨f, Nat.lt_succ_self f, ρ2, F2, accv, acc, S2, g'.trans g2, s2, l2, p2⟩, fun v H2 y => ?_⟩
          obtain ⟨F2, g2, s2, r2⟩ := w.2 v H2 y
          have p2 := Post.grow g2 p'
          refine ⟨bs, ρ', F2, _, _, S', x, s2, (ev.mono g').mono g2, r2, PostG.bindC p2 fun ρ3 F3 H3 σ3 e3 S3 g3 s3 ev3 p3 w3 => ⟨w3.trans (wipe_wipe fun _ h => h), ?_⟩⟩
          refine ⟨bs, ρ3, F3, _, e3, S3, s3, ev3, (Post.bindC (R1 := RB) p3).imp fun b H4 ⟨ρ4, F4, b', S4, g4, s4, r4, p4⟩ => ?_⟩
          cases r4
          have l4 := ((l'.mono g2).mono g3).mono g4
          have G4 := (g2.trans g3).trans g4
          cases b with
          | false => exact ⟨ρ4, F4, accv, acc, S4, G4, s4, l4, p4⟩
          | true =>
            simp only [if_true] at p4 ⊢
            refine ⟨bs, ρ4, F4, _, e3, S4, s4, ev3.mono g4, PostI.bindC p4 fun ρ5 F5 H5 J1 it1 S5 g5 s5 wk1 p5 => ?_⟩
            have ev5 := ((ev3.mono g4).mono g5).wipe vs1
            rw [Out.bindC_bind] at p5
            refine ⟨fun j k' H6 => ∃ ρ6 F6 accv acc S6, Grow ρ5 F5 ρ6 F6 ∧ Sim g bs ρ6 F6 (upd N D (.lst accv)) S6 H6 ∧ IsAll g.K ρ6 F6 accv acc ∧ Post g B (RW g) bs ρ6 F6 N σ Q ((compG it1 t1 mc1 me k' j acc bs (wipeE e3 vs1) S6).bindC fun acc' S4 => (compG2 it t mc mi1 vs1 t1 mc1 me f (i + 1) acc' bs (wipeE env vs) S4).bind (finL k)), ⟨it1.fuel, ρ5, F5, accv, acc, S5, Grow.refl _ _, s5, l4.mono g5, p5⟩, ?_⟩
            rintro j k' H6 ⟨ρ6, F6, accv6, acc6, S6, g6, s6, l6, p6⟩
            cases k' with
            | zero => exact p6.elim
            | succ f1 =>
              unfold compG at p6
              have w6 := wk1 bs ρ6 F6 _ S6 H6 j g6 s6
              cases hx6 : it1.next j S6 with
              | none => rw [hx6] at p6; exact p6.elim
              | some o6 =>
                cases o6 with
                | none =>
                  simp only [hx6, Out.bindC_ok] at p6 w6
                  exact .inl ⟨w6, ρ6, F6, accv6, acc6, S6, (G4.trans g5).trans g6, s6, l6, p6⟩
                | some x6 =>
                  simp only [hx6] at p6 w6
                  refine .inr ⟨w6.1, fun H7 => ∃ ρ7 F7 accv acc S7, Grow ρ6 F6 ρ7 F7 ∧ Sim g bs ρ7 F7 (upd N D (.lst accv)) S7 H7 ∧ IsAll g.K ρ7 F7 accv acc ∧ Post g B (RW g) bs ρ7 F7 N σ Q ((compG it1 t1 mc1 me f1 (j + 1) acc bs (wipeE e3 vs1) S7).bindC fun acc' S4 => (compG2 it t mc mi1 vs1 t1 mc1 me f (i + 1) acc' bs (wipeE env vs) S4).bind (finL k)), fun H7 ⟨ρ7, F7, accv, acc, S7, g7, s7, l7, p7⟩ => ⟨f1, Nat.lt_succ_self f1, ρ7, F7, accv, acc, S7, g6.trans g7, s7, l7, p7⟩, fun v7 H7 y7 => ?_⟩
                  obtain ⟨F7, g7, s7, r7⟩ := w6.2 v7 H7 y7
                  have p7 := Post.grow g7 p6
                  refine ⟨bs, ρ6, F7, _, _, S6, x6, s7, (ev5.mono g6).mono g7, r7, PostG.bindCC p7 fun ρ8 F8 H8 σ8 e8 S8 g8 s8 ev8 p8 w8 => ⟨w8.trans (wipe_wipe fun _ h => h), ?_⟩⟩
                  refine ⟨bs, ρ8, F8, _, e8, S8, s8, ev8, (Post.bindCC (R1 := RB) p8).imp fun b H9 ⟨ρ9, F9, b', S9, g9, s9, r9, p9⟩ => ?_⟩
                  cases r9
                  have l9 := ((l6.mono g7).mono g8).mono g9
                  have G9 := (g7.trans g8).trans g9
                  cases b with
                  | false => exact ⟨ρ9, F9, accv6, acc6, S9, G9, s9, l9, p9⟩
                  | true =>
                    simp only [if_true] at p9 ⊢
                    refine ⟨bs, ρ9, F9, _, e8, S9, s9, ev8.mono g9, (Post.bindCC (R1 := RW g) p9).imp fun yv HA ⟨ρA, FA, yA, SA, gA, sA, rA, pA⟩ => ?_⟩
                    split at pA
                    · rename_i hl
                      obtain ⟨a, e1, e2, e3, e4⟩ := comp_put sA (l9.mono gA) rA hl
                      exact ⟨a, e1, e2, ρA, FA, _, _, SA, G9.trans gA, e3, e4, pA⟩
                    · exact pA.elim
end
end Rf

namespace Rf
open PySem L2

/-! ### slices -/
abbrev OpSl := W → Option Int → Option Int → Store → Option (W × Store)
def rdO (g : Gx) (B : WX) (m : M (Option Int)) : TO := rdG g B (fun _ _ a b => a = b) m
def mNoPart : M (Option Int) := fun _ _ S => .ok none S
def mPart (m : M W) : M (Option Int) := fun bs env S => (m bs env S).bind fun w S1 => match w with
  | .dat (.int i) => .ok (some i) S1
  | _ => .stuck
def cutW {α : Type} (xs : List α) (lo hi : Option Int) : List α := (xs.drop (HT.sIx xs.length 0 lo)).take (HT.sIx xs.length xs.length hi - HT.sIx xs.length 0 lo)
def slF (k : Bool) : OpSl := fun w lo hi S => match tupOf w with
  | some ws => if HT.sIx ws.length 0 lo = 0 ∧ HT.sIx ws.length ws.length hi = ws.length then some (w, S) else some (mkTup (cutW ws lo hi), S)
  | none => match lstOf S w with
    | some ws => some (newL k (cutW ws lo hi) S)
    | none => match w with
      | .dat (.str z) => if z.length ≤ 100000 then some (.str (cutS z lo hi), S) else none
      | _ => none
def mSl (f : OpSl) (ma : M W) (ml mh : M (Option Int)) : M W := fun bs env S => (ma bs env S).bind fun w S1 => (ml bs env S1).bind fun l S2 => (mh bs env S2).bind fun h S3 => match f w l h S3 with
  | some (r, S4) => .ok r S4
  | none => .stuck
section
variable {X : Cx} {g : Gx} {B : WX} {bs : List Nat} {ρ ρ1 : List Addr} {F F1 N : Hp} {σ : L2.St} {a b c e : Expr} {es : List Expr} {ma mb mc : M W} {ms : M (List W)} {pos p2 : Pos} {lo hi : Option Expr} {ml mh : M (Option Int)}
theorem ro_noPart : PO X none (rdO g B mNoPart) := ⟨fun pins s σ H Q I ⟨bs, ρ, F, N, env, S, s1, e, p⟩ => po_none.run pins s σ H Q I (p ρ F H none (Grow.refl _ _) s1 rfl)⟩
theorem ro_part (h : PE X e (rd g B ma)) : PO X (some e) (rdO g B (mPart ma)) := ⟨fun pins s σ H Q I ⟨bs, ρ, F, N, env, S, s1, e, p⟩ => (po_some h).run pins s σ H Q I ⟨bs, ρ, F, N, env, S, s1, e, (Post.bind (R1 := RW g) p).imp fun x H1 ⟨ρ1, F1, wx, S1, g1, s1, r1, p1⟩ => by
  split at p1
  · rw [is_int r1]; exact ⟨_, rfl, p1 ρ1 F1 H1 _ (Grow.refl _ _) s1 rfl⟩
  · exact p1.elim⟩⟩
theorem IsAll.cut {K : PySem.W.Frag} {ws : List W} {vs : List V} (h : IsAll K ρ F vs ws) (lo hi : Option Int) : IsAll K ρ F (cutV vs lo hi) (cutW ws lo hi) := by
  unfold cutV cutW
  rw [h.len]
  exact (h.drop _).take _
def rdSl (g : Gx) (f : OpSl) : V → Option Int → Option Int → Hp → VK → Prop := fun x lo hi H Q => ∃ bs ρ F N S wx, Sim g bs ρ F N S H ∧ Is g.K ρ F x wx ∧ PostV g bs ρ F N Q (f wx lo hi S)
theorem slr (hK : g.K = X.K) {k : Bool} : SlR X (rdSl g (slF k)) := by
  intro pins s σ H x v vl vu lo hi sl Q I rx hs pl pu ⟨bs, ρ, F, N, S, wx, s1, r, p⟩
  unfold slF at p
  split at p
  · rename_i ws hw
    obtain ⟨a, vs, rfl, q, l⟩ := tup_of r hw
    rw [hK] at q
    refine sl_tupA pins s σ H _ v vl vu lo hi sl Q I rx hs pl pu ⟨a, vs, rfl, Same.sqT s1.ex q, ?_⟩
    rw [l.len]
    split at p
    · rename_i hz
      exact ⟨fun _ => p ρ F H _ (Grow.refl _ _) s1 r, fun z => absurd hz z⟩
    · rename_i hz
      exact ⟨fun z => absurd z hz, fun _ q hq => newT_ok s1 hq (l.cut lo hi) p⟩
  · split at p
    · rename_i ws hw
      obtain ⟨a, vs, rfl, q, l⟩ := lst_of s1 r hw
      rw [hK] at q
      exact sl_list pins s σ H _ v vl vu lo hi sl Q I rx hs pl pu ⟨a, vs, rfl, q, fun q hq => new_ok s1 hq (l.cut lo hi) p⟩
    · split at p
      · rename_i z _ _
        split at p
        · rename_i hz
          cases r with
          | dat r => cases r; exact sl_str pins s σ H _ v vl vu lo hi sl Q I rx hs pl pu ⟨z, rfl, line5 hz, p ρ F H _ (Grow.refl _ _) s1 (.dat (.str _))⟩
        · exact p.elim
      · exact p.elim
theorem re_sl {f : OpSl} (hr : SlR X (rdSl g f)) (he : PE X e (rd g B ma)) (hl : PO X lo (rdO g B ml)) (hu : PO X hi (rdO g B mh)) : PE X (.Subscript e (.Slice lo hi none p2) pos) (rd g B (mSl f ma ml mh)) :=
  (pe_slice hr he hl hu).imp fun σ H Q ⟨bs, ρ, F, N, env, S, s, e, p⟩ => by
    refine ⟨bs, ρ, F, N, env, S, s, e, (Post.bind (R1 := RW g) p).imp fun x H1 ⟨ρ1, F1, wx, S1, g1, s1, r1, p1⟩ => ?_⟩
    refine ⟨bs, ρ1, F1, N, env, S1, s1, e.mono g1, (Post.bind (R1 := fun _ _ a b => a = b) p1).imp fun l H2 ⟨ρ2, F2, l', S2, g2, s2, r2, p2⟩ => ?_⟩
    cases r2
    refine ⟨bs, ρ2, F2, N, env, S2, s2, (e.mono g1).mono g2, (Post.bind (R1 := fun _ _ a b => a = b) p2).imp fun u H3 ⟨ρ3, F3, u', S3, g3, s3, r3, p3⟩ => ?_⟩
    cases r3
    exact ⟨bs, ρ3, F3, N, S3, wx, s3, (r1.mono g2).mono g3, post_op p3⟩

/-! ### o[i] = .. -/
abbrev OpSet := List Nat → W → W → W → Store → Option Store
def PostU (g : Gx) (bs : List Nat) (ρ : List Addr) (F N : Hp) (Q : Hp → Prop) : Option Store → Prop
  | some S' => ∀ ρ' F' H', Grow ρ F ρ' F' → Sim g bs ρ' F' N S' H' → Q H'
  | none => False
def rdSet (g : Gx) (f : OpSet) : TSet := fun o i v H Q => ∃ bs ρ F N S wo wi wv, Sim g bs ρ F N S H ∧ Is g.K ρ F o wo ∧ Is g.K ρ F i wi ∧ Is g.K ρ F v wv ∧ PostU g bs ρ F N Q (f bs wo wi wv S)
/-- a write keeps what lies below popping frames -/
def mayW (bs : List Nat) (n : Nat) (w : W) : Bool := bs.all fun b => decide (b ≤ n) || w.und b
def setF : OpSet := fun bs o i v S => match o with
  | .loc n => match S[n]? with
    | some (.lst ws) => match i with
      | .dat (.int k) => match ixN ws.length k with
        | some j => if mayW bs n v then some (S.set n (.lst (ws.set j v))) else none
        | none => none
      | _ => none
    | some (.dic ws) => match i with
      | .dat d => match dkey d with
        | some k => if mayW bs n v ∧ ws.length < 100000 ∧ (ws.all fun p => (dkey p.1).any fun k' => kindK k' == kindK k) then some (S.set n (.dic (putW ws k v))) else none
        | none => none
      | _ => none
    | _ => none
  | _ => none
theorem undAll_iff {b : Nat} : ∀ {ws : List W}, W.undAll b ws = true ↔ ∀ w ∈ ws, w.und b = true
  | [] => by simp [W.undAll]
  | w :: ws => by simp [W.undAll, undAll_iff (ws := ws)]

theorem IsKV.len {K : PySem.W.Frag} : ∀ {ws : List (PyData × W)} {vs : List (PyData × V)}, IsKV K ρ F vs ws → vs.length = ws.length
  | _, _, .nil => rfl
  | _, _, .cons _ b => by simp [IsKV.len b]
theorem IsKV.any {K : PySem.W.Frag} (f : PyData → Bool) : ∀ {ws : List (PyData × W)} {vs : List (PyData × V)}, IsKV K ρ F vs ws → (vs.any fun p => f p.1) = ws.any fun p => f p.1
  | _, _, .nil => rfl
  | _, _, .cons _ b => by simp [IsKV.any f b]
theorem IsKV.put {K : PySem.W.Frag} (f : PyData → Prop) [DecidablePred f] {v : V} {w : W} (r : Is K ρ F v w) : ∀ {ws : List (PyData × W)} {vs : List (PyData × V)}, IsKV K ρ F vs ws → IsKV K ρ F (vs.map fun p => if f p.1 then (p.1, v) else p) (ws.map fun p => if f p.1 then (p.1, w) else p)
  | _, _, .nil => .nil
  | (k, _) :: _, _, .cons a b => by
    rw [List.map_cons, List.map_cons]
    by_cases h : f k
    · simp only [h, if_true]; exact .cons r (IsKV.put f r b)
    · simp only [h, if_false]; exact .cons a (IsKV.put f r b)
theorem IsKV.snoc {K : PySem.W.Frag} {k : PyData} {v : V} {w : W} (r : Is K ρ F v w) : ∀ {ws : List (PyData × W)} {vs : List (PyData × V)}, IsKV K ρ F vs ws → IsKV K ρ F (vs ++ [(k, v)]) (ws ++ [(k, w)])
  | _, _, .nil => .cons r .nil
  | _, _, .cons a b => .cons a (IsKV.snoc r b)
theorem put_kv {K : PySem.W.Frag} {κ : Type} [DecidableEq κ] (φ : κ → PyData) (ψ : κ → DKey) (h1 : ∀ k, dkey (φ k) = some (ψ k)) (h2 : ∀ k, (ψ k).d = φ k) (hi : ∀ a b, ψ a = ψ b → a = b) {kvs : List (κ × V)} {ws : List (PyData × W)} {k : κ} {v : V} {w : W}
    (h : IsKV K ρ F (kvs.map fun p => (φ p.1, p.2)) ws) (r : Is K ρ F v w) : IsKV K ρ F ((putK kvs k v).map fun p => (φ p.1, p.2)) (putW ws (ψ k) w) := by
  have e : ∀ x : κ, decide (dkey (φ x) = some (ψ k)) = decide (x = k) := fun x => by
    rw [h1]
    by_cases z : x = k
    · simp [z]
    · simp [z]; exact fun q => z (hi _ _ q)
  have ea := h.any fun d => decide (dkey d = some (ψ k))
  rw [List.any_map] at ea
  have ea' : (kvs.any fun kv => decide (kv.1 = k)) = ws.any fun p => decide (dkey p.1 = some (ψ k)) := by
    rw [← ea]
    congr 1
    funext p
    exact (e p.1).symm
  unfold putK putW
  rw [ea']
  split
  · have := h.put (fun d => dkey d = some (ψ k)) r
    rw [List.map_map] at this ⊢
    refine cast (congrArg (fun l => IsKV K ρ F l _) ?_) this
    congr 1
    funext p
    have e1 := e p.1
    by_cases z : p.1 = k
    · simp only [z, decide_true, decide_eq_true_eq] at e1
      simp [z, e1]
    · simp only [z, decide_false, decide_eq_false_iff_not] at e1
      simp [z, e1]
  · rw [List.map_append, h2]
    exact h.snoc r
theorem mayW_le {n : Nat} {w : W} (h : mayW bs n w = true) {b : Nat} (hb : b ∈ bs) (hn : n < b) : w.und b = true := by
  have := List.all_eq_true.mp h b hb
  simp only [Bool.or_eq_true, decide_eq_true_eq] at this
  rcases this with z | z
  · omega
  · exact z
theorem undAll_set {b : Nat} {ws : List W} {j : Nat} {w : W} (h : W.undAll b ws = true) (r : w.und b = true) : W.undAll b (ws.set j w) = true := by
  rw [undAll_iff] at h ⊢
  intro x hx
  rcases List.mem_or_eq_of_mem_set hx with z | z
  · exact h x z
  · rw [z]; exact r
theorem und_put {b : Nat} {ws : List (PyData × W)} {k : DKey} {w : W} (h : (ws.all fun p => p.2.und b) = true) (r : w.und b = true) : ((putW ws k w).all fun p => p.2.und b) = true := by
  rw [List.all_eq_true] at h ⊢
  unfold putW
  split
  · intro x hx
    obtain ⟨p, hp, rfl⟩ := List.mem_map.mp hx
    split
    · exact r
    · exact h p hp
  · intro x hx
    rcases List.mem_append.mp hx with z | z
    · exact h x z
    · simp at z; subst z; exact r
/-- a dict that is a cell -/
inductive DicE (H : Hp) (a : Addr) : Nat → List (PyData × V) → Prop
  | k {kvs : List (Key × V)} : H a = some (.dK kvs) → DicE H a 0 (kvs.map fun p => (kD p.1, p.2))
  | t {kvs : List (List Key × V)} : H a = some (.dT kvs) → DicE H a 1 (kvs.map fun p => (.tuple (p.1.map kD), p.2))
theorem DicE.h {H : Hp} {a : Addr} {n : Nat} {vs : List (PyData × V)} (d : DicE H a n vs) : DicH H a n vs := by
  cases d with
  | k e => exact .k (.inl e)
  | t e => exact .t (.inl e)
/-- a dict cell in the heap, of the kind of a key -/
theorem dic_kind {pins : List (Addr × Obj)} {sh : Shared} {H : Hp} {S : Store} {n : Nat} {a : Addr} {ws : List (PyData × W)} {k : DKey} (I : Inv X pins σ H sh) (s : Sim g bs ρ F N S H) (hn : ρ[n]? = some a) (hS : S[n]? = some (.dic ws)) (hk : (ws.all fun p => (dkey p.1).any fun k' => kindK k' == kindK k) = true) :
    ∃ H', Inv X pins σ H' sh ∧ Sim g bs ρ F N S H' ∧ ∃ vs, DicE H' a (kindK k) vs ∧ IsKV g.K ρ F vs ws := by
  have ub : ∀ b ∈ bs, n < b → (Cell.dic ws).und b = true := fun b hb hlt => (s.bot b hb).2 n _ hlt hS
  have hset : S.set n (.dic ws) = S := by
    have hl := (List.getElem?_eq_some_iff.mp hS)
    apply List.ext_getElem? ; intro i
    by_cases z : n = i
    · subst z; rw [List.getElem?_set_self hl.1, hS]
    · rw [List.getElem?_set_ne z]
  rcases s.cell n _ _ hS hn with ⟨kvs, e, q⟩ | ⟨kvs, e, q⟩
  · cases k with
    | one k => exact ⟨H, I, s, _, .k e, q⟩
    | tup ks =>
      cases ws with
      | nil =>
        have e0 : kvs = [] := by
          have := q.len; simp at this; exact this
        subst e0
        refine ⟨_, inv_kind I e, ?_, [], DicE.t (kvs := []) upd_same, .nil⟩
        have := s.write (o := .dT []) (c := .dic []) hS rfl hn (.inr ⟨[], upd_same, .nil⟩) ub
        rwa [hset] at this
      | cons p ws =>
        exfalso
        obtain ⟨y, kvs', rfl⟩ : ∃ y l, kvs = y :: l := by
          cases kvs with
          | nil => cases q
          | cons y l => exact ⟨y, l, rfl⟩
        cases q
        rw [List.all_cons, Bool.and_eq_true] at hk
        have z : dkey (kD y.1) = some (.one y.1) := dkey_d (.one y.1)
        have := hk.1
        simp only [z, Option.any_some, kindK] at this
        simp at this
  · cases k with
    | tup k => exact ⟨H, I, s, _, .t e, q⟩
    | one ks =>
      cases ws with
      | nil =>
        have e0 : kvs = [] := by
          have := q.len; simp at this; exact this
        subst e0
        refine ⟨_, inv_kind' I e, ?_, [], DicE.k (kvs := []) upd_same, .nil⟩
        have := s.write (o := .dK []) (c := .dic []) hS rfl hn (.inl ⟨[], upd_same, .nil⟩) ub
        rwa [hset] at this
      | cons p ws =>
        exfalso
        obtain ⟨y, kvs', rfl⟩ : ∃ y l, kvs = y :: l := by
          cases kvs with
          | nil => cases q
          | cons y l => exact ⟨y, l, rfl⟩
        cases q
        rw [List.all_cons, Bool.and_eq_true] at hk
        have z : dkey (.tuple (y.1.map kD)) = some (.tup y.1) := dkey_d (.tup y.1)
        have := hk.1
        simp only [z, Option.any_some, kindK] at this
        simp at this
theorem set_ok (hu : X.A.units + 1 < cLine) : PSet X (rdSet g setF) := by
  intro pins sh σ H o i v ov iv u Q I ro ri rv ⟨bs, ρ, F, N, S, wo, wi, wv, s, qo, qi, qv, p⟩
  unfold setF at p
  split at p
  · rename_i n
    cases qo with
    | loc hn =>
      rename_i a
      split at p
      · rename_i ws hS
        split at p
        · rename_i k
          rw [is_int qi] at ri
          split at p
          · rename_i j hj
            split at p
            · rename_i hm
              obtain ⟨vs, e, l⟩ := s.cell n _ _ hS hn
              refine set_list pins sh σ H _ _ v ov iv u Q I ro ri rv ⟨a, vs, k, j, rfl, rfl, e, by rw [l.len]; exact hj, ?_⟩
              refine p ρ F _ (Grow.refl _ _) (s.write hS rfl hn ⟨_, upd_same, IsAll.set qv _ l⟩ fun b hb hlt => undAll_set ((s.bot b hb).2 n _ hlt hS) (mayW_le hm hb hlt))
            · exact p.elim
          · exact p.elim
        · exact p.elim
      · rename_i ws hS
        split at p
        · rename_i d
          split at p
          · rename_i k hk
            split at p
            · rename_i hm
              obtain ⟨hm, hz, hall⟩ := hm
              have hd := dkey_eq hk
              subst hd
              obtain ⟨H1, I1, s1, vs, hd, l⟩ := dic_kind I s hn hS hall
              have hz' : ∀ n : Nat, n = ws.length → n < sizeLine := fun n e => by rw [e]; exact Nat.lt_of_lt_of_le hz (by decide)
              have hl := l.len
              have ub : ∀ b ∈ bs, n < b → (Cell.dic (putW ws k wv)).und b = true := fun b hb hlt => und_put ((s1.bot b hb).2 n _ hlt hS) (mayW_le hm hb hlt)
              have r : Rp g.K F i k.d := by
                cases qi with
                | dat r => exact r
              cases k with
              | one k =>
                cases hd with
                | @k kvs e =>
                  have ei := key_one r
                  subst ei
                  exact set_dict hu pins sh σ H1 _ _ v ov iv u Q I1 ro ri rv ⟨a, _, rfl, DPut.k e (hz' _ (by simpa using hl)), p ρ F _ (Grow.refl _ _) (s1.write hS rfl hn (.inl ⟨_, upd_same, put_kv kD .one (fun k => dkey_d (.one k)) (fun _ => rfl) (fun a b h => by injection h) l qv⟩) ub)⟩
              | tup ks =>
                cases hd with
                | @t kvs e =>
                  obtain ⟨b, rfl, hb⟩ := key_tup s1.ex r
                  exact set_dict hu pins sh σ H1 _ _ v ov iv u Q I1 ro ri rv ⟨a, _, rfl, DPut.t e hb (hz' _ (by simpa using hl)), p ρ F _ (Grow.refl _ _) (s1.write hS rfl hn (.inr ⟨_, upd_same, put_kv (fun k : List Key => .tuple (k.map kD)) .tup (fun k => dkey_d (.tup k)) (fun _ => rfl) (fun a b h => by injection h) l qv⟩) ub)⟩
            · exact p.elim
          · exact p.elim
        · exact p.elim
      · exact p.elim
  · exact p.elim
/-- as a target -/
def tSub (mo mi : M W) (f : OpSet) : TM := fun w bs env S => (mo bs env S).bind fun o S1 => (mi bs env S1).bind fun i S2 => match f bs o i w S2 with
  | some S3 => .ok env S3
  | none => .stuck
theorem PostG.bind {α β : Type} {R : List Addr → Hp → β → α → Prop} {o : Out α} {f : α → Store → Out Env} {Q : L2.St → Hp → Prop} (h : PostG g B bs ρ F N σ Q (o.bind f)) :
    Post g B R bs ρ F N σ (fun v H1 => ∃ ρ' F' a S', Grow ρ F ρ' F' ∧ Sim g bs ρ' F' N S' H1 ∧ R ρ' F' v a ∧ PostG g B bs ρ' F' N σ Q (f a S')) o := by
  cases o with
  | ok a S1 => exact fun ρ' F' H' v gr s' r => ⟨ρ', F', a, S1, gr, s', r, PostG.grow gr h⟩
  | ex c ws S1 => exact h
  | stuck => exact h
theorem rg_sub {f : OpSet} (ho : PE X a (rd g B ma)) (hi : PE X b (rd g B mb)) (hs : PSet X (rdSet g f))
    (hA : ∀ v, assign (.Subscript a b pos) X.env v = (do
      let ov ← holding [v] (eval a X.env)
      let iv ← holding [v, ov] (eval b X.env)
      standAt pos
      holding [v, ov, iv] (setItem ov iv v)
      release [v, ov, iv] []) := by intro _; rfl) : PG X (.Subscript a b pos) (rdTg g B (tSub ma mb f)) := (pg_sub ho hi hs hA).imp fun v σ H Q ⟨bs, ρ, F, N, env, S, w, s, e, r, p⟩ => by
  refine ⟨bs, ρ, F, N, env, S, s, e, (PostG.bind (R := RW g) p).imp fun x H1 ⟨ρ1, F1, wx, S1, g1, s1, r1, p1⟩ => ?_⟩
  refine ⟨bs, ρ1, F1, N, env, S1, s1, e.mono g1, (PostG.bind (R := RW g) p1).imp fun y H2 ⟨ρ2, F2, wy, S2, g2, s2, r2, p2⟩ => ?_⟩
  refine ⟨bs, ρ2, F2, N, S2, wx, wy, w, s2, r1.mono g2, r2, (r.mono g1).mono g2, ?_⟩
  cases hq : f bs wx wy w S2 with
  | none => rw [hq] at p2; exact p2
  | some S3 => rw [hq] at p2; exact fun ρ' F' H' gr s' => p2 ρ' F' H' σ gr s' (((e.mono g1).mono g2).mono gr)
end
end Rf

namespace Rf
open PySem L2

/-! ### methods -/
inductive MTy where
  | lst
  | dic
  | str
def MTy.s : MTy → String
  | .lst => "list"
  | .dic => "dict"
  | .str => "str"
def wTy (T : MTy) (w : W) (S : Store) : Bool := match T with
  | .lst => (lstOf S w).isSome
  | .dic => (dicOf S w).isSome
  | .str => match w with
    | .dat (.str _) => true
    | _ => false
abbrev OpM := List Nat → W → List W → Store → Option (W × Store)
def mMt (T : MTy) (f : OpM) (mo : M W) (ms : M (List W)) : M W := fun bs env S => (mo bs env S).bind fun w S1 => if wTy T w S1 = true then (ms bs env S1).bind fun ws S2 => match f bs w ws S2 with
  | some (r, S3) => .ok r S3
  | none => .stuck
  else .stuck
def rdMt (g : Gx) (f : OpM) : V → List V → Hp → VK → Prop := fun x xs H Q => ∃ bs ρ F N S wx ws, Sim g bs ρ F N S H ∧ Is g.K ρ F x wx ∧ IsAll g.K ρ F xs ws ∧ PostV g bs ρ F N Q (f bs wx ws S)
section
variable {X : Cx} {g : Gx} {B : WX} {bs : List Nat} {ρ ρ1 : List Addr} {F F1 N : Hp} {S : Store} {σ : L2.St} {a b c e o : Expr} {es : List Expr} {ma mb mc mo : M W} {ms : M (List W)} {pos apos cpos : Pos} {name : Str} {id : String} {f : OpM}
/-- a receiver's type; a dict may be locked -/
def tyD (K : PySem.W.Frag) (T : String) (x : V) (H : Hp) : Prop := tyV K T x H ∨ (T = "dict" ∧ ∃ p, x = .ref p ∧ ((∃ kvs, Rd H p (.dK kvs)) ∨ ∃ kvs, Rd H p (.dT kvs)))
theorem tyD_is {pins : List (Addr × Obj)} {H : Hp} {s : Shared} {T : String} {x : V} {v : Value} (I : Inv X pins σ H s) (r : RelV x v) (ty : tyD X.K T x H) :
    s.TypeIs v T ∧ ∀ a, v = .ref a → ∃ ob, s.heap.get? a = some ob ∧ ob.dict = none := by
  rcases ty with ty | ⟨rfl, p, rfl, ty⟩
  · exact tyV_is I r ty
  · cases r
    have z : ∃ o, s.heap.get? p = some o ∧ o.ExactDict := by
      rcases ty with ⟨kvs, hk⟩ | ⟨kvs, hk⟩
      · obtain ⟨_, _, _, _, o, _, _, e, ex, _⟩ := (show ObjOk X.prog X.w H s.heap p (.dK kvs) from hk.ok I.hok)
        exact ⟨o, e, ex⟩
      · obtain ⟨_, _, _, _, o, _, _, e, ex, _⟩ := (show ObjOk X.prog X.w H s.heap p (.dT kvs) from hk.ok I.hok)
        exact ⟨o, e, ex⟩
    obtain ⟨o, e, ex⟩ := z
    refine ⟨⟨o, e, ex.1⟩, fun a e2 => ?_⟩
    cases e2
    exact ⟨o, e, ex.2.1⟩
def tBD (K : PySem.W.Frag) (T : String) (r : V → List V → Hp → VK → Prop) (to : TE) (t : TA) : TE := fun σ H Q => to σ H fun x H1 => tyD K T x H1 ∧ t σ H1 fun xs H2 => r x xs H2 Q
def tBD0 (K : PySem.W.Frag) (T : String) (r : V → List V → Hp → VK → Prop) (to : TE) : TE := fun σ H Q => to σ H fun x H1 => tyD K T x H1 ∧ r x [] H1 Q
theorem pe_bmD {T : String} {to : TE} {t : TA} {r : V → List V → Hp → VK → Prop} (pa : PlainAttrs T) (slot : Slot T name id) (hty : typeOf (.builtin id) = pure (.type "method_descriptor")) (hm : MtR X id r) (ho : PE X o to) (ha : PA X (e :: es) t)
    (hbase : attributeBase o name X.env (eval o X.env) = eval o X.env := by rfl)
    (hfew : ((backTo cpos (starEach (e :: es) X.env)).all (fun x => !x.1) && (backToKw cpos (keywordEach [] X.env)).all (fun x => x.1.isSome)
      && decide ((e :: es).length + ([] : List Keyword).length + (if ([] : List Keyword).isEmpty then 0 else 1) < 30)) = true := by rfl)
    (hline : (apos.endLine == cpos.line) = true := by rfl) (hs : starEach (e :: es) X.env = (false, eval e X.env) :: starEach es X.env := by rfl) (hplain : (backTo cpos (starEach es X.env)).any (·.1) = false := by rfl) :
    PE X (.Call (.Attribute o name apos) (e :: es) [] cpos) (tBD X.K T r to t) := by
  refine ⟨fun pins s σ H Q I h => ?_⟩
  refine wpAny_Call_method_late hbase hfew hline rfl (thn (ho.run pins s σ H _ I h) fun v s1 ⟨x, H1, I1, r1, ty, q1⟩ => ?_)
  obtain ⟨h1, h2⟩ := tyD_is I1 r1 ty
  refine ⟨T, id, pa, slot, hty, h1, h2, ?_⟩
  have hA := ha.run cpos pins s1 σ H1 _ I1 q1
  rw [hs] at hA ⊢
  refine Calls.callWith_builtin (by show (false || (backTo cpos (starEach es X.env)).any (·.1)) = false; rw [hplain] <;> rfl) (Calls.evalArgs_plain ?_)
  exact thn hA fun us s2 ⟨vs, H2, I2, r2, q2⟩ => hm pins s2 σ H2 x vs v us Q I2 r1 r2 q2
theorem ty_ok {T : MTy} {w : W} {v : V} {H : Hp} (s : Sim g bs ρ F N S H) (r : Is g.K ρ F v w) (h : wTy T w S = true) : tyD g.K T.s v H := by
  cases T with
  | lst =>
    simp only [wTy, Option.isSome_iff_exists] at h
    obtain ⟨ws, h⟩ := h
    obtain ⟨a, vs, rfl, q, _⟩ := lst_of s r h
    exact .inl (.inl ⟨rfl, vs, q⟩)
  | dic =>
    simp only [wTy, Option.isSome_iff_exists] at h
    obtain ⟨ws, h⟩ := h
    obtain ⟨a, n, vs, rfl, q, _⟩ := dic_of s r h
    cases q with
    | k e => exact .inr ⟨rfl, _, rfl, .inl ⟨_, e⟩⟩
    | t e => exact .inr ⟨rfl, _, rfl, .inr ⟨_, e⟩⟩
  | str =>
    simp only [wTy] at h
    split at h
    · cases r with
      | dat r => cases r; exact .inl rfl
    · cases h
theorem re_mt (hK : g.K = X.K) {T : MTy} (pa : PlainAttrs T.s) (slot : Slot T.s name id) (hty : typeOf (.builtin id) = pure (.type "method_descriptor")) (hm : MtR X id (rdMt g f)) (ho : PE X o (rd g B mo)) (ha : PA X (e :: es) (rdA g B ms))
    (hbase : attributeBase o name X.env (eval o X.env) = eval o X.env := by rfl)
    (hfew : ((backTo cpos (starEach (e :: es) X.env)).all (fun x => !x.1) && (backToKw cpos (keywordEach [] X.env)).all (fun x => x.1.isSome)
      && decide ((e :: es).length + ([] : List Keyword).length + (if ([] : List Keyword).isEmpty then 0 else 1) < 30)) = true := by rfl)
    (hline : (apos.endLine == cpos.line) = true := by rfl) (hs : starEach (e :: es) X.env = (false, eval e X.env) :: starEach es X.env := by rfl) (hplain : (backTo cpos (starEach es X.env)).any (·.1) = false := by rfl) :
    PE X (.Call (.Attribute o name apos) (e :: es) [] cpos) (rd g B (mMt T f mo ms)) := (pe_bmD pa slot hty hm ho ha hbase hfew hline hs hplain).imp fun σ H Q ⟨bs, ρ, F, N, env, S, s, e, p⟩ => by
  refine ⟨bs, ρ, F, N, env, S, s, e, (Post.bind (R1 := RW g) p).imp fun x H1 ⟨ρ1, F1, wx, S1, g1, s1, r1, p1⟩ => ?_⟩
  split at p1
  · rename_i hw
    refine ⟨hK ▸ ty_ok s1 r1 hw, bs, ρ1, F1, N, env, S1, s1, e.mono g1, (Post.bind (R1 := RWs g) p1).imp fun xs H2 ⟨ρ2, F2, ws, S2, g2, s2, r2, p2⟩ => ?_⟩
    exact ⟨bs, ρ2, F2, N, S2, wx, ws, s2, r1.mono g2, r2, post_op p2⟩
  · exact p1.elim
/-- xs.append(w), xs.extend(ys), xs.pop(), xs.pop(i) -/
def appF : OpM := fun bs x ws S => match x, ws with
  | .loc n, [w] => match S[n]? with
    | some (.lst us) => if us.length < 100000 ∧ mayW bs n w = true then some (.non, S.set n (.lst (us ++ [w]))) else none
    | _ => none
  | _, _ => none
def extOf (S : Store) : W → Option (List W)
  | .dat (.list ds) => some (ds.map .dat)
  | .loc n => match S[n]? with
    | some (.lst ws) => some ws
    | _ => none
  | _ => none
def extF : OpM := fun bs x ws S => match x, ws with
  | .loc n, [y] => match S[n]?, extOf S y with
    | some (.lst us), some zs => if us.length + zs.length ≤ 100000 ∧ zs.all (mayW bs n) = true then some (.non, S.set n (.lst (us ++ zs))) else none
    | _, _ => none
  | _, _ => none
def popF : OpM := fun bs x ws S => match x, ws with
  | .loc n, [] => match S[n]? with
    | some (.lst us) => match us[us.length - 1]? with
      | some w => some (w, S.set n (.lst us.dropLast))
      | none => none
    | _ => none
  | .loc n, [.dat (.int i)] => match S[n]? with
    | some (.lst us) => if -(2 ^ 63) ≤ i ∧ i < 2 ^ 63 then match seqIndex? i us.length with
      | some k => match us[k]? with
        | some w => some (w, S.set n (.lst (us.eraseIdx k)))
        | none => none
      | none => none
      else none
    | _ => none
  | _, _ => none
theorem undAll_app {b : Nat} {xs ys : List W} (h : W.undAll b xs = true) (k : W.undAll b ys = true) : W.undAll b (xs ++ ys) = true := by
  rw [undAll_iff] at h k ⊢
  intro x hx
  rcases List.mem_append.mp hx with z | z
  · exact h x z
  · exact k x z
theorem IsAll.app {K : PySem.W.Frag} {ws' : List W} {vs' : List V} (k : IsAll K ρ F vs' ws') : ∀ {ws : List W} {vs : List V}, IsAll K ρ F vs ws → IsAll K ρ F (vs ++ vs') (ws ++ ws')
  | _, _, .nil => k
  | _, _, .cons a b => .cons a (IsAll.app k b)
theorem mt_app : MtR X "list.append" (rdMt g appF) := by
  intro pins sh σ H x xs v us Q I rx rv ⟨bs, ρ, F, N, S, wx, ws, s, r, l, p⟩
  unfold appF at p
  split at p
  · rename_i n w
    cases r with
    | loc hn =>
      rename_i a
      obtain ⟨y, rfl, ry⟩ := all_one l
      split at p
      · rename_i us' hS
        split at p
        · rename_i hm
          obtain ⟨vs, e, q⟩ := s.cell n _ _ hS hn
          refine mt_append pins sh σ H _ _ v us Q I rx rv ⟨a, vs, y, rfl, rfl, e, by rw [q.len]; exact Nat.lt_of_lt_of_le hm.1 (by decide), ?_⟩
          exact p ρ F _ _ (Grow.refl _ _) (s.write hS rfl hn ⟨_, upd_same, q.snoc ry⟩ fun b hb hlt => undAll_app ((s.bot b hb).2 n _ hlt hS) (by rw [undAll_iff]; intro z hz; simp at hz; rw [hz]; exact mayW_le hm.2 hb hlt)) (.dat .non)
        · exact p.elim
      · exact p.elim
  · exact p.elim
theorem ext_of {H : Hp} {zs : List W} {w : W} {v : V} (s : Sim g bs ρ F N S H) (r : Is g.K ρ F v w) (h : extOf S w = some zs) : ∃ b vs, v = .ref b ∧ H b = some (.lst vs) ∧ IsAll g.K ρ F vs zs := by
  unfold extOf at h
  split at h
  · cases h
    cases r with
    | dat r => cases r with
      | lst e l => exact ⟨_, _, rfl, s.ex _ _ e, l.isAll⟩
  · rename_i n
    cases r with
    | loc hn =>
      split at h
      · rename_i ws hS
        cases h
        obtain ⟨vs, e, q⟩ := s.cell n _ _ hS hn
        exact ⟨_, vs, rfl, e, q⟩
      · cases h
  · cases h
theorem mt_ext : MtR X "list.extend" (rdMt g extF) := by
  intro pins sh σ H x xs v us Q I rx rv ⟨bs, ρ, F, N, S, wx, ws, s, r, l, p⟩
  unfold extF at p
  split at p
  · rename_i n w
    cases r with
    | loc hn =>
      rename_i a
      obtain ⟨y, rfl, ry⟩ := all_one l
      split at p
      · rename_i us' zs hS hz
        split at p
        · rename_i hm
          obtain ⟨vs, e, q⟩ := s.cell n _ _ hS hn
          obtain ⟨b, vz, rfl, e2, q2⟩ := ext_of s ry hz
          refine mt_extend pins sh σ H _ _ v us Q I rx rv ⟨a, b, vs, vz, rfl, rfl, e, e2, by rw [q.len, q2.len]; exact Nat.le_trans hm.1 (by decide), ?_⟩
          exact p ρ F _ _ (Grow.refl _ _) (s.write hS rfl hn ⟨_, upd_same, q2.app q⟩ fun b hb hlt => undAll_app ((s.bot b hb).2 n _ hlt hS) (by rw [undAll_iff]; intro z hz; exact mayW_le (List.all_eq_true.mp hm.2 z hz) hb hlt)) (.dat .non)
        · exact p.elim
      · exact p.elim
  · exact p.elim
/-- a dict that is a cell, and not locked -/
def isDicC (S : Store) : W → Bool
  | .loc n => match S[n]? with
    | some (.dic _) => true
    | _ => false
  | _ => false
/-- a dict whose kind is that of the key -/
def dicRdy (S : Store) (x : W) (kvs : List (PyData × W)) (k : DKey) : Bool := (kvs.all fun p => (dkey p.1).any fun k' => kindK k' == kindK k) && (isDicC S x || !kvs.isEmpty)
/-- d.get(k), d.get(k, x) -/
def getF : OpM := fun _ x ws S => match dicOf S x, ws with
  | some kvs, [.dat d] => match dkey d with
    | some k => if dicRdy S x kvs k = true then some ((lookW kvs k).getD .non, S) else none
    | none => none
  | some kvs, [.dat d, y] => match dkey d with
    | some k => if dicRdy S x kvs k = true then some ((lookW kvs k).getD y, S) else none
    | none => none
  | _, _ => none
theorem kind_of {H : Hp} {a : Addr} {n : Nat} {vs : List (PyData × V)} {ws : List (PyData × W)} {K : PySem.W.Frag} {k : DKey} (d : DicH H a n vs) (q : IsKV K ρ F vs ws) (hk : (ws.all fun p => (dkey p.1).any fun k' => kindK k' == kindK k) = true) (hne : ws.isEmpty = false) : kindK k = n := by
  cases q with
  | nil => simp at hne
  | @cons k0 v0 vs0 w0 ws0 a0 b0 =>
    rw [List.all_cons, Bool.and_eq_true] at hk
    have h1 := hk.1
    generalize hv : (k0, v0) :: vs0 = vs at d
    cases d with
    | @k kvs e =>
      cases kvs with
      | nil => cases hv
      | cons y l =>
        simp only [List.map_cons, List.cons.injEq, Prod.mk.injEq] at hv
        have z : dkey (kD y.1) = some (.one y.1) := dkey_d (.one y.1)
        rw [hv.1.1, z] at h1
        simp only [Option.any_some, beq_iff_eq] at h1
        exact h1.symm
    | @t kvs e =>
      cases kvs with
      | nil => cases hv
      | cons y l =>
        simp only [List.map_cons, List.cons.injEq, Prod.mk.injEq] at hv
        have z : dkey (.tuple (y.1.map kD)) = some (.tup y.1) := dkey_d (.tup y.1)
        rw [hv.1.1, z] at h1
        simp only [Option.any_some, beq_iff_eq] at h1
        exact h1.symm
/-- the dict at hand, of the kind of a key -/
theorem dic_ready {pins : List (Addr × Obj)} {sh : Shared} {H : Hp} {w : W} {v : V} {ws : List (PyData × W)} {k : DKey} (I : Inv X pins σ H sh) (s : Sim g bs ρ F N S H) (r : Is g.K ρ F v w) (h : dicOf S w = some ws)
    (hk : dicRdy S w ws k = true) :
    ∃ H', Inv X pins σ H' sh ∧ Sim g bs ρ F N S H' ∧ ∃ a vs, v = .ref a ∧ DicH H' a (kindK k) vs ∧ IsKV g.K ρ F vs ws := by
  unfold dicRdy at hk
  rw [Bool.and_eq_true] at hk
  obtain ⟨h1, h2⟩ := hk
  cases w with
  | loc n =>
    unfold dicOf at h
    cases r with
    | loc hn =>
      simp only at h
      split at h
      · rename_i us hS
        cases h
        obtain ⟨H', I', s', vs, d, q⟩ := dic_kind I s hn hS h1
        exact ⟨H', I', s', _, vs, rfl, d.h, q⟩
      · rename_i us hS
        cases h
        obtain ⟨a, n', vs, e, d, q⟩ := dic_of (w := .loc n) s (.loc hn) (by simp only [dicOf, hS]; rfl)
        have := kind_of d q h1 (by simpa [isDicC, hS] using h2)
        subst this
        exact ⟨H, I, s, a, vs, e, d, q⟩
      · cases h
  | dat d =>
    obtain ⟨a, n, vs, e, d, q⟩ := dic_of s r h
    have := kind_of d q h1 (by simpa [isDicC] using h2)
    subst this
    exact ⟨H, I, s, a, vs, e, d, q⟩
  | tw us => simp [dicOf] at h
  | lw us => simp [dicOf] at h
  | kt us => simp [dicOf] at h
  | fn us => simp [dicOf] at h
  | rg x y z => simp [dicOf] at h
end
end Rf

namespace Rf
open PySem L2 PyProof.Rows

/-! ### frames that pop -/
section
variable {g : Gx} {K : PySem.W.Frag} {bs : List Nat} {ρ : List Addr} {F N H : Hp} {S : Store}
mutual
theorem Is.und : ∀ {w : W} {v : V}, Is K ρ F v w → w.und ρ.length = true
  | .dat _, _, _ => rfl
  | .loc n, _, h => by
    cases h with
    | loc r => simp [W.und]; exact (List.getElem?_eq_some_iff.mp r).1
  | .tw ws, _, h => by
    cases h with
    | tw _ r => exact IsAll.und r
  | .lw ws, _, h => by
    cases h with
    | lw _ r => exact IsAll.und r
  | .kt _, _, _ => rfl
  | .fn _, _, _ => rfl
  | .rg _ _ _, _, _ => rfl
theorem IsAll.und : ∀ {ws : List W} {vs : List V}, IsAll K ρ F vs ws → W.undAll ρ.length ws = true
  | [], _, _ => rfl
  | w :: ws, _, h => by
    cases h with
    | cons a b => simp [W.undAll, Is.und a, IsAll.und b]
end
mutual
theorem Is.pop {b : Nat} : ∀ {w : W} {v : V}, Is K ρ F v w → w.und b = true → Is K (ρ.take b) F v w
  | .dat _, _, h, _ => by
    cases h with
    | dat r => exact .dat r
  | .loc n, _, h, u => by
    cases h with
    | loc r =>
      simp [W.und] at u
      exact .loc (by rw [List.getElem?_take_of_lt u]; exact r)
  | .tw ws, _, h, u => by
    cases h with
    | tw s r => exact .tw s (IsAll.pop r (by simpa [W.und] using u))
  | .lw ws, _, h, u => by
    cases h with
    | lw s r => exact .lw s (IsAll.pop r (by simpa [W.und] using u))
  | .kt ds, _, h, u => by
    cases h with
    | kt s c d r => exact .kt s c d r
  | .fn x, _, h, u => by
    cases h with
    | fn s => exact .fn s
  | .rg x y z, _, h, u => by
    cases h with
    | rg s => exact .rg s
theorem IsAll.pop {b : Nat} : ∀ {ws : List W} {vs : List V}, IsAll K ρ F vs ws → W.undAll b ws = true → IsAll K (ρ.take b) F vs ws
  | [], _, h, _ => by cases h; exact .nil
  | w :: ws, _, h, u => by
    cases h with
    | cons x y =>
      simp [W.undAll] at u
      exact .cons (Is.pop x u.1) (IsAll.pop y u.2)
end
theorem IsKV.und : ∀ {ws : List (PyData × W)} {vs : List (PyData × V)}, IsKV K ρ F vs ws → (ws.all fun p => p.2.und ρ.length) = true
  | _, _, .nil => rfl
  | _, _, .cons a b => by simp [List.all_cons, a.und]; simpa using IsKV.und b
theorem IsFs.und : ∀ {ws : List (Str × W)} {vs : List (Str × V)}, IsFs K ρ F vs ws → (ws.all fun p => p.2.und ρ.length) = true
  | _, _, .nil => rfl
  | _, _, .cons a b => by simp [List.all_cons, a.und]; simpa using IsFs.und b
theorem IsKV.pop {b : Nat} : ∀ {ws : List (PyData × W)} {vs : List (PyData × V)}, IsKV K ρ F vs ws → (ws.all fun p => p.2.und b) = true → IsKV K (ρ.take b) F vs ws
  | _, _, .nil, _ => .nil
  | _, _, .cons a c, u => by
    rw [List.all_cons, Bool.and_eq_true] at u
    exact .cons (a.pop u.1) (IsKV.pop c u.2)
theorem IsFs.pop {b : Nat} : ∀ {ws : List (Str × W)} {vs : List (Str × V)}, IsFs K ρ F vs ws → (ws.all fun p => p.2.und b) = true → IsFs K (ρ.take b) F vs ws
  | _, _, .nil, _ => .nil
  | _, _, .cons a c, u => by
    rw [List.all_cons, Bool.and_eq_true] at u
    exact .cons (a.pop u.1) (IsFs.pop c u.2)
theorem CellOk.und {a : Addr} {c : Cell} (h : CellOk g ρ F H a c) : c.und ρ.length = true := by
  cases c with
  | lst ws => obtain ⟨vs, _, l⟩ := h; exact l.und
  | dic ws => rcases h with ⟨_, _, l⟩ | ⟨_, _, l⟩ <;> exact l.und
  | ins c fs => obtain ⟨_, _, _, l⟩ := h; exact l.und
  | fz ws => rcases h with ⟨_, _, _, _, l⟩ | ⟨_, _, _, _, l⟩ <;> exact l.und
theorem CellOk.pop {a : Addr} {c : Cell} {b : Nat} (h : CellOk g ρ F H a c) (u : c.und b = true) : CellOk g (ρ.take b) F H a c := by
  cases c with
  | lst ws => obtain ⟨vs, e, l⟩ := h; exact ⟨vs, e, l.pop u⟩
  | dic ws =>
    rcases h with ⟨k, e, l⟩ | ⟨k, e, l⟩
    · exact .inl ⟨k, e, l.pop u⟩
    · exact .inr ⟨k, e, l.pop u⟩
  | ins c fs => obtain ⟨d, k, e, l⟩ := h; exact ⟨d, k, e, l.pop u⟩
  | fz ws =>
    rcases h with ⟨o, k, e, f, l⟩ | ⟨o, k, e, f, l⟩
    · exact .inl ⟨o, k, e, f, l.pop u⟩
    · exact .inr ⟨o, k, e, f, l.pop u⟩
theorem Sim.pushB (s : Sim g bs ρ F N S H) : Sim g (S.length :: bs) ρ F N S H :=
  ⟨s.len, s.nd, s.ex, s.fr, s.cell, s.hid, s.nf, s.nl, (fun b hb => by
    rcases List.mem_cons.mp hb with h | h
    · subst h
      refine ⟨Nat.le_refl _, fun k c hk e => ?_⟩
      have hk' : k < ρ.length := by rw [s.len]; exact hk
      have := (s.cell k c ρ[k] e (List.getElem?_eq_getElem hk')).und
      rwa [s.len] at this
    · exact s.bot b h), s.tab, s.nt⟩
theorem Sim.dropB {b : Nat} (s : Sim g (b :: bs) ρ F N S H) : Sim g bs ρ F N S H := ⟨s.len, s.nd, s.ex, s.fr, s.cell, s.hid, s.nf, s.nl, fun b hb => s.bot b (List.mem_cons_of_mem _ hb), s.tab, s.nt⟩
theorem Sim.pop {b : Nat} (s : Sim g (b :: bs) ρ F N S H) (hb : ∀ c ∈ bs, c ≤ b) : Sim g bs (ρ.take b) F N (S.take b) H := by
  obtain ⟨b1, b2⟩ := s.bot b (List.mem_cons_self ..)
  have hsub : ∀ a ∈ ρ.take b, a ∈ ρ := fun a ha => List.mem_of_mem_take ha
  refine ⟨by simp [s.len], s.nd.sublist (List.take_sublist ..), s.ex, fun n c a e1 e2 e3 => (by
    have hn : n < b := by
      have := (List.getElem?_eq_some_iff.mp e1).1
      simp at this; omega
    rw [List.getElem?_take_of_lt hn] at e1 e2
    exact s.fr n c a e1 e2 e3), fun n c a e1 e2 => ?_, s.hid, fun a o e => ⟨(s.nf a o e).1, fun h => (s.nf a o e).2 (hsub a h)⟩, s.nl, fun c hc => ?_, s.tab, s.nt⟩
  · have hn : n < b := by
      have := (List.getElem?_eq_some_iff.mp e1).1
      simp at this; omega
    rw [List.getElem?_take_of_lt hn] at e1 e2
    exact (s.cell n c a e1 e2).pop (b2 n c hn e1)
  · obtain ⟨c1, c2⟩ := s.bot c (List.mem_cons_of_mem _ hc)
    have := hb c hc
    refine ⟨by simp; omega, fun k x hk e => c2 k x hk ?_⟩
    rw [List.getElem?_take_of_lt (by omega)] at e
    exact e
end
abbrev FnT := List Nat → List W → Store → Out W
def popR (b : Nat) : Out W → Out W
  | .ok w S => if w.und b = true then .ok w (S.take b) else .ok w S
  | .ex c ws S => if W.undAll b ws = true then .ex c ws (S.take b) else .ex c ws S
  | .stuck => .stuck
def SO.out : SO → Out W
  | .nx _ S => .ok .non S
  | .rt w S => .ok w S
  | .ex c ws _ S => .ex c ws S
  | _ => .stuck
def startE (n : Nat) (ws : List W) : Env := ws.map some ++ List.replicate (n - ws.length) none
/-- a def of n names, the first p of them parameters -/
def fnM (n p : Nat) (m : MS) : FnT := fun bs ws S => if ws.length = p then popR S.length (m (S.length :: bs) (startE n ws) S).out else .stuck
def spF (g : Gx) (f : FnT) : Sp := fun vs H Q E => ∃ bs ρ F N S ws, Sim g bs ρ F N S H ∧ IsAll g.K ρ F vs ws ∧ g.more ρ F ∧ Post g (fun c d _ H => E c d H) (RW g) bs ρ F N [] Q (f bs ws S)
section
variable {g : Gx} {B : WX} {bs : List Nat} {ρ : List Addr} {F N H : Hp} {S : Store} {σ : L2.St}
theorem EnvR.start {n : Nat} {N' : List Str} (hn : N'.length = n) {vs : List V} {ws : List W} (h : IsAll g.K ρ F vs ws) (hm : g.more ρ F) : EnvR g ρ F (start N' vs) (startE n ws) := by
  subst hn
  have hl := h.len
  refine ⟨by simp [L2.start, startE, hl], fun i w hi => ?_, hm⟩
  unfold startE at hi
  by_cases hk : i < ws.length
  · rw [List.getElem?_append_left (by simpa using hk), List.getElem?_map] at hi
    cases hw : ws[i]? with
    | none => rw [hw] at hi; cases hi
    | some w' =>
      rw [hw] at hi
      cases hi
      obtain ⟨v, hv, r⟩ := h.get hw
      refine ⟨v, ?_, r⟩
      unfold L2.start
      rw [List.getElem?_append_left (by simp [hl]; exact hk), List.getElem?_map, hv]; rfl
  · rw [List.getElem?_append_right (by simpa using Nat.le_of_not_lt hk)] at hi
    rw [List.getElem?_replicate] at hi
    split at hi
    · cases hi
    · cases hi
theorem grow_take {b : Nat} {ρ' : List Addr} {F' : Hp} (gr : Grow ρ F ρ' F') (hb : ρ.length = b) : Grow ρ F (ρ'.take b) F' := by
  obtain ⟨⟨t, e⟩, x⟩ := gr
  subst e hb
  exact ⟨⟨[], by simp⟩, x⟩
/-- a body's end, its frame popped -/
theorem post_pop {Q : VK} {E : XK} {o : SO} (hS : ρ.length = S.length) (hb : ∀ c ∈ bs, c ≤ S.length) (h : Post g (fun c d _ H => E c d H) (RW g) bs ρ F N [] Q (popR S.length o.out)) :
    PostS g (fun c d _ H => E c d H) (S.length :: bs) ρ F N { nx := fun _ H' => Q .non H', rt := Q } o := by
  cases o with
  | nx e S1 =>
    intro ρ' F' H' σ' gr s _
    have h' : Post g (fun c d _ H => E c d H) (RW g) bs ρ F N [] Q (.ok .non (S1.take S.length)) := h
    exact h' (ρ'.take S.length) F' H' .non (grow_take gr hS) (s.pop hb) (.dat .non)
  | rt w S1 =>
    intro ρ' F' H' v gr s r
    have h' : Post g (fun c d _ H => E c d H) (RW g) bs ρ F N [] Q (if w.und S.length = true then .ok w (S1.take S.length) else .ok w S1) := h
    by_cases hw : w.und S.length = true
    · rw [if_pos hw] at h'
      exact h' (ρ'.take S.length) F' H' v (grow_take gr hS) (s.pop hb) (r.pop hw)
    · rw [if_neg hw] at h'
      exact h' ρ' F' H' v gr s.dropB r
  | bk e S1 => exact h.elim
  | ct e S1 => exact h.elim
  | ex c ws e S1 =>
    intro ρ' F' H' σ' d gr s _ r
    have h' : Post g (fun c d _ H => E c d H) (RW g) bs ρ F N [] Q (if W.undAll S.length ws = true then .ex c ws (S1.take S.length) else .ex c ws S1) := h
    by_cases hw : W.undAll S.length ws = true
    · rw [if_pos hw] at h'
      refine h' (ρ'.take S.length) F' H' d (grow_take gr hS) (s.pop hb) ?_
      cases ws with
      | nil => exact r
      | cons w ws =>
        obtain ⟨a, v, e1, e2, e3⟩ := r
        simp [W.undAll] at hw
        exact ⟨a, v, e1, e2, e3.pop hw.1⟩
    · rw [if_neg hw] at h'
      exact h' ρ' F' H' d gr s.dropB r
  | stuck => exact h.elim
/-- room, and nothing is being printed -/
structure RoomG (k : Nat) (A : Around) : Prop where
  rm : Room k A
  gd : A.guards = some []
theorem RoomG.mono {j k : Nat} {A : Around} (r : RoomG k A) (h : j ≤ k) : RoomG j A := ⟨r.rm.mono h, r.gd⟩
theorem RoomG.deeper {k : Nat} {A : Around} (r : RoomG (k + 1) A) (env : PySem.Env) : RoomG k (A.deeper env) := ⟨r.rm.deeper env, r.gd⟩
variable {P : Program} {w : World} {K : PySem.W.Frag} {mg : Str → Option Value} {base : Heap}
/-- what a def does, called where nothing is being printed -/
structure FnG (P : Program) (w : World) (K : PySem.W.Frag) (mg : Str → Option Value) (base : Heap) (k : Nat) (f : Addr) (fd : FuncData) (ps : List Str) (sp : Sp) : Prop where
  cnt : ∀ vs H Q E, sp vs H Q E → vs.length = ps.length
  go : ∀ (A : Around) (st : List PySem.Env) (s : Shared) (H : Hp) (as : Args) (us : List Value) (vs : List V) (Q : VK) (E : XK), RoomG k A → Env0 P w K mg base A st s H → BindsTo s fd as (ps.zip us) → Vals vs us → sp vs H Q E →
    codeAny (model P w) A (.call (.ref f) as) (CR (L2.CX P w) st P w H s Q E) s
theorem fn_ok {x qual : Str} {st : Stmt} {f : Addr} {fd : FuncData} {N ps : List Str} {k n p : Nat} {m : MS} (Fu : Fun K x qual st f fd) (S : FnScope N ps (defScope st))
    (hbody : ∀ (cdv : Value) (A : Around) (outer : List PySem.Env) (s : Shared) (H : Hp) (E : XK), RoomG k (A.deeper (envOfC qual (defScope st) s.heap.objs.size f cdv)) → fd.code = cdv →
      PSs (cxOf (L2.CX P w) P w K mg base N qual (defScope st) f cdv A outer s H E) (defBody st) (rdS g (fun c d _ H => E c d H) m)) (hn : N.length = n := by rfl) (hp : ps.length = p := by rfl) : FnG P w K mg base (k + 1) f fd ps (spF g (fnM n p m)) := by
  have cnt : ∀ vs H Q E, spF g (fnM n p m) vs H Q E → vs.length = ps.length := fun vs H Q E h => by
    obtain ⟨bs, ρ, F, N', S, ws, s, l, _, q⟩ := h
    unfold fnM at q
    split at q
    · rename_i hl; rw [l.len, hp]; exact hl
    · exact q.elim
  obtain ⟨oc, od, kV, doc, pm, an, cdv, ct, osl, rfl, lk, hcd⟩ := Fu.ex
  refine ⟨cnt, fun A st1 s H as us vs Q E room e0 bind vals h => ?_⟩
  have hin : K.In s.heap := e0.mod.kin.keeps fun b o z => (e0.bs b o z).1
  have lim : s.heap.NoLimit := e0.mod.nolimit.keeps fun b o z => (e0.bs b o z).1
  have kinds : ∀ y ∈ ps.zip us, (defScope st).names.lookup y.1 = some .local ∨ ((defScope st).names.lookup y.1 = some .cell ∧ ((cellsFrom (s.heap.objs.size + 1) (defScope st).names []).lookup y.1).isSome = true) := fun y hy => by
    obtain ⟨y1, y2⟩ := y
    rcases S.par y1 (List.of_mem_zip hy).1 with z | z
    · exact .inl z
    · exact .inr ⟨z, PySem.W.cellsFrom_some _ _ _ (.inl z)⟩
  refine codeAny_call_function room.rm.depth (hin _ _ lk) rfl S.co S.gen rfl (PySem.W.codeRec_of hin hcd) (bind _ _ _ _ ?_)
  refine wpAny_newFunctionEnv_cells S.kind kinds fun env1 henv s1 new => ?_
  subst henv
  refine ⟨lim.keeps new.toInCall.keep, codeAny_func ?_⟩
  have len := cnt _ _ _ _ h
  obtain ⟨bs, ρ, F, N', S', ws, sim, l, mo, q⟩ := h
  have run := hbody cdv A st1 s H E (room.deeper _) rfl
  have inv : Inv (cxOf (L2.CX P w) P w K mg base N qual (defScope st) f cdv A st1 s H E) [] (start N vs) H s1 := inv_start S room.rm.hd e0 len vals new
  unfold fnM at q
  split at q
  · have hq : rdS g (fun c d _ H => E c d H) m { nx := fun _ H' => Q .non H', rt := Q } (start N vs) H :=
      ⟨S'.length :: bs, ρ, F, N', startE n ws, S', sim.pushB, EnvR.start hn l mo, post_pop sim.len (fun c hc => (sim.bot c hc).1) q⟩
    refine wpAny_mono (run.run [] s1 (start N vs) H _ inv hq) (fun fl s' done => ?_) fun _ _ z => z
    cases fl with
    | ret u =>
      obtain ⟨v, σ', H', J, rel, z⟩ := done
      exact ⟨v, H', J.os, J.bare, J.base, J.hok, rel, z⟩
    | next =>
      obtain ⟨σ', H', J, z⟩ := done
      exact ⟨V.non, H', J.os, J.bare, J.base, J.hok, rfl, z⟩
    | brk => exact done.choose_spec.choose_spec.2.elim
    | cont => exact done.choose_spec.choose_spec.2.elim
  · exact q.elim
end
section
variable {X : Cx} {g : Gx} {B : WX} {k : Nat} {f : Addr} {fd : FuncData} {ps : List Str} {x : Str} {p pos : Pos} {e : Expr} {es : List Expr} {ms : M (List W)} {ff : FnT}
def mCall (f : FnT) (ms : M (List W)) : M W := fun bs env S => (ms bs env S).bind fun ws S1 => f bs ws S1
theorem post_at {bs : List Nat} {ρ : List Addr} {F N : Hp} {σ : L2.St} {Q : VK} {o : Out W} (h : Post g B (RW g) bs ρ F N σ Q o) : Post g (fun c d _ H => WE B σ c d H) (RW g) bs ρ F N [] Q o := by
  cases o with
  | ok w S => exact h
  | ex c ws S => exact h
  | stuck => exact h
/-- a call of such a def -/
theorem pe_callG {sp : Sp} {E : L2.St → XK} {t : TA} (Fo : FnG X.prog X.w X.K X.mg X.base k f fd ps sp) (room : RoomG k X.A) (hg : Gl X x) (hm : X.mg x = some (.ref f)) (hk : PySem.W.keepIn X.K (.ref f) = true) (bind : Binds X.K fd ps []) (out : ∀ σ, PassesAt (L2.CX X.prog X.w) X σ (E σ))
    (args : PA X (e :: es) t) (hdb : (x == ("__debug__" : Str)) = false) (he : starEach (e :: es) X.env = (false, eval e X.env) :: starEach es X.env) (hpl : (backTo pos (starEach es X.env)).any (·.1) = false) :
    PE X (.Call (.Name x p) (e :: es) [] pos) (fun σ H Q => t σ H fun vs H1 => sp vs H1 Q (E σ)) := by
  refine ⟨fun pins s σ H Q inv h => ?_⟩
  refine wpAny_Call_Name_kw (ld_glob inv hg hm ?_ hdb)
  refine PySem.W.callWith_K (h₀ := X.base) inv.ok.mod.kin hk (thn (args.run pos pins s σ H _ inv h) fun us s1 told => ?_) he hpl
  obtain ⟨vs, H1, inv1, rel, q⟩ := told
  refine ⟨inv1.kIn, wpAny_call ?_⟩
  have len : us.length = ps.length := rel.length.symm.trans (Fo.cnt _ _ _ _ q)
  have b := bind s1 us inv1.kIn (by simpa using len)
  rw [List.append_nil] at b
  refine codeAny_mono (Fo.go X.A X.stack s1 H1 ⟨us, []⟩ us vs Q (E σ) room inv1.env0 b rel q) fun r s' done => ?_
  cases r with
  | error ex => exact out σ pins H1 s1 ex s' inv1 done
  | ok fl =>
    cases fl with
    | ret u => exact inv1.after done
    | next => exact done.elim
    | brk => exact done.elim
    | cont => exact done.elim
theorem re_call (tk : Takes X B) (Fo : FnG X.prog X.w X.K X.mg X.base k f fd ps (spF g ff)) (hr : RoomG k X.A) (hg : Gl X x) (hm : X.mg x = some (.ref f)) (hk : PySem.W.keepIn X.K (.ref f) = true) (hb : Binds X.K fd ps [])
    (ha : PA X (e :: es) (rdA g B ms)) (hdb : (x == ("__debug__" : Str)) = false := by decide) (he : starEach (e :: es) X.env = (false, eval e X.env) :: starEach es X.env := by rfl) (hpl : (backTo pos (starEach es X.env)).any (·.1) = false := by rfl) :
    PE X (.Call (.Name x p) (e :: es) [] pos) (rd g B (mCall ff ms)) := (pe_callG Fo hr hg hm hk hb (passAt tk) ha hdb he hpl).imp fun σ H Q ⟨bs, ρ, F, N, env, S, s, e, p⟩ => by
  refine ⟨bs, ρ, F, N, env, S, s, e, (Post.bind (R1 := RWs g) p).imp fun vs H1 ⟨ρ1, F1, ws, S1, g1, s1, r1, p1⟩ => ?_⟩
  exact ⟨bs, ρ1, F1, N, S1, ws, s1, r1, (e.mono g1).more, post_at p1⟩
end
end Rf

namespace Rf
open PySem L2 PyProof.Rows

/-! ### what is walked, by the value -/
def ItR (X : Cx) (tg : Expr) (r : V → Hp → (It → Hp → Prop) → Prop) : Prop :=
  ∀ (pins : List (Addr × Obj)) (s : Shared) (σ : L2.St) (H : Hp) (x : V) (v : Value) (R : It → Hp → Prop), Inv X pins σ H s → RelV x v → r x H R → wpAny (model X.prog X.w) X.A (pyIter v) (PIE X pins σ tg R) X.xe s
theorem ItR.or {X : Cx} {tg : Expr} {r r' : V → Hp → (It → Hp → Prop) → Prop} (h : ItR X tg r) (h' : ItR X tg r') : ItR X tg (fun x H R => r x H R ∨ r' x H R) := by
  intro pins s σ H x v R I rx q
  rcases q with q | q
  · exact h pins s σ H x v R I rx q
  · exact h' pins s σ H x v R I rx q
theorem pi_it {X : Cx} {tg l : Expr} {tl : TE} {r : V → Hp → (It → Hp → Prop) → Prop} (hr : ItR X tg r) (hl : PE X l tl) : PI X tg l (fun σ H R => tl σ H fun x H1 => r x H1 R) := by
  refine ⟨fun pins s σ H R I h => ?_⟩
  exact thn (hl.run pins s σ H _ I h) fun v s1 ⟨x, H1, I1, r1, q1⟩ => hr pins s1 σ H1 x v R I1 r1 q1
section
variable {X : Cx} {tg : Expr}
theorem it_list : ItR X tg (fun x H R => ∃ a, x = .ref a ∧ (∃ xs, SqL X.K H a xs) ∧ R (Itl X.K a) H) := by
  intro pins s σ H x v R I rx q
  obtain ⟨a, rfl, ⟨xs, hq⟩, q⟩ := q
  cases rx
  obtain ⟨its, rv, p, hz⟩ := I.list hq
  exact wpAny_pyIter_list p.isList ⟨s.heap.objs.size, [s.heap.objs.size], _, _, H, rfl, I.kept (t' := s.toks) fun _ _ z => Heap.get?_push_of_some _ z, turn_list a _, ⟨_, Heap.get?_push_size _ rfl, rfl, rfl⟩, fun c hc => by
    have z : c = s.heap.objs.size := by simpa using hc
    rw [z]; exact I.fpOk (Nat.le_refl _) (I.hok.fresh (Nat.le_refl _)), q⟩
theorem it_tup : ItR X tg (fun x H R => ∃ a, x = .ref a ∧ (∃ xs, SqT X.K H a xs) ∧ R (Itt X.K a) H) := by
  intro pins s σ H x v R I rx q
  obtain ⟨a, rfl, ⟨xs, hq⟩, q⟩ := q
  cases rx
  obtain ⟨its, rv, p, hz⟩ := I.tuple hq
  exact wpAny_pyIter_tuple (show s.heap.IsTuple a its.toArray from p) ⟨s.heap.objs.size, [s.heap.objs.size], _, _, H, rfl, I.kept (t' := s.toks) fun _ _ z => Heap.get?_push_of_some _ z, turn_tuple a _, ⟨_, Heap.get?_push_size _ rfl, rfl, rfl⟩, fun c hc => by
    have z : c = s.heap.objs.size := by simpa using hc
    rw [z]; exact I.fpOk (Nat.le_refl _) (I.hok.fresh (Nat.le_refl _)), q⟩
variable {g : Gx} {B : WX} {a : Expr} {ma : M W}
def iterA (S : Store) (w : W) : Option Iter := match iterT w with
  | some it => some it
  | none => iterL S w
def mIt (m : M W) : M Iter := fun bs env S => (m bs env S).bind fun w S1 => match iterA S1 w with
  | some it => .ok it S1
  | none => .stuck
/-- a global of the module -/
theorem re_globE {x : Str} {d : PyData} {v : V} {pos : Pos} (hg : Gl X x) (hm : ∃ u, X.mg x = some u ∧ RelV v u) (hr : ∀ F, Rp g.K F v d) (hd : (x == ("__debug__" : Str)) = false := by decide) : PE X (.Name x pos) (rd g B (mCon d)) := by
  obtain ⟨u, h1, h2⟩ := hm
  exact re_glob hg h1 h2 hr hd
theorem un100 {A : Around} {k : Nat} (h : RoomG k A) : A.units + 100 < cLine := Nat.lt_of_le_of_lt (by omega) h.rm.un
theorem un1 {A : Around} {k : Nat} (h : RoomG k A) : A.units + 1 < cLine := Nat.lt_of_le_of_lt (by omega) h.rm.un
end
end Rf

namespace Rf
open PySem L2 PyProof.Rows
/-! ### targets that never raise -/
theorem calm_nil (ws : List W) (bs : List Nat) (env : Env) (S : Store) (c : Nat) (us : List W) (S1 : Store) : tNil ws bs env S ≠ .ex c us S1 := by
  cases ws <;> simp [tNil]
theorem calm_name {i : Nat} (w : W) (bs : List Nat) (env : Env) (S : Store) (c : Nat) (us : List W) (S1 : Store) : tName i w bs env S ≠ .ex c us S1 := by simp [tName]
theorem calm_cons {t : TM} {u : TMs} (h : ∀ w bs env S c us S1, t w bs env S ≠ .ex c us S1) (k : ∀ ws bs env S c us S1, u ws bs env S ≠ .ex c us S1) (ws : List W) (bs : List Nat) (env : Env) (S : Store) (c : Nat) (us : List W) (S1 : Store) : tCons t u ws bs env S ≠ .ex c us S1 := by
  cases ws with
  | nil => simp [tCons]
  | cons w r =>
    unfold tCons
    intro e
    cases ht : t w bs env S with
    | ok e1 S2 => simp only [ht, Out.bind_ok] at e; exact k _ _ _ _ _ _ _ e
    | ex c' us' S2 => exact h _ _ _ _ _ _ _ ht
    | stuck => simp [ht] at e
end Rf

namespace Rf
open PySem L2 PyProof.Rows RZ

/-! ### zip, enumerate -/
/-- what an iterator over a sequence stands for; L: a list -/
def RepQ (L : Bool) (g : Gx) (ρ : List Addr) (F : Hp) (it : Iter) (a : Addr) : Prop := ∀ bs ρ' F' N' S' H', Grow ρ F ρ' F' → Sim g bs ρ' F' N' S' H' →
  (∃ vs ws, (if L then SqL g.K H' a vs else SqT g.K H' a vs) ∧ IsAll g.K ρ' F' vs ws ∧ ∀ i, it.next i S' = some ws[i]?) ∨ ∀ i, it.next i S' = none
section
variable {X : Cx} {tg : Expr} {g : Gx} {B : WX} {bs : List Nat} {ρ : List Addr} {F N H : Hp} {S : Store} {a b e : Expr} {ma mb : M W} {ms : M (List W)} {p pos tpos : Pos} {elts : List Expr} {kk : Nat}
theorem rep_tup {w : W} {v : V} {it : Iter} (s : Sim g bs ρ F N S H) (r : Is g.K ρ F v w) (h : iterT w = some it) : ∃ x, v = .ref x ∧ (∃ vs, SqT g.K H x vs) ∧ RepQ false g ρ F it x := by
  unfold iterT at h
  simp only [Option.map_eq_some_iff] at h
  obtain ⟨ws, hw, rfl⟩ := h
  obtain ⟨x, vs, rfl, q, l⟩ := tup_of r hw
  exact ⟨x, rfl, ⟨vs, Same.sqT s.ex q⟩, fun bs ρ' F' N' S' H' gr s' => .inl ⟨vs, ws, Same.sqT s'.ex (Same.sqT gr.ex q), l.mono gr, fun i => rfl⟩⟩
theorem rep_lst {w : W} {v : V} {it : Iter} (s : Sim g bs ρ F N S H) (r : Is g.K ρ F v w) (h : iterL S w = some it) : ∃ x, v = .ref x ∧ (∃ vs, SqL g.K H x vs) ∧ RepQ true g ρ F it x := by
  unfold iterL at h
  cases w with
  | dat d =>
    cases d <;> try cases h
    cases r with
    | dat r => cases r with
      | @lst x vs ds q r => exact ⟨_, rfl, ⟨_, SqL.of (s.ex _ _ q)⟩, fun bs ρ' F' N' S' H' gr s' => .inl ⟨vs, _, SqL.of (s'.ex _ _ (gr.ex _ _ q)), (r.isAll).mono gr, fun i => rfl⟩⟩
  | lw ws =>
    cases h
    cases r with
    | lw q r => exact ⟨_, rfl, ⟨_, s.ex.seq q⟩, fun bs ρ' F' N' S' H' gr s' => .inl ⟨_, ws, s'.ex.seq (gr.ex.seq q), r.mono gr, fun i => rfl⟩⟩
  | tw ws => cases h
  | kt ws => cases h
  | fn ws => cases h
  | rg x y z => cases h
  | loc n =>
    simp only at h
    split at h
    · rename_i us hS
      cases h
      cases r with
      | loc hn =>
        obtain ⟨vs, e, l⟩ := s.cell n _ _ hS hn
        refine ⟨_, rfl, ⟨vs, SqL.of e⟩, fun bs ρ' F' N' S' H' gr s' => ?_⟩
        have hn' := gr.at hn
        cases hc : S'[n]? with
        | none => exact .inr fun i => by show (match S'[n]? with | some (.lst ws) => some ws[i]? | _ => none : Option (Option W)) = none; rw [hc]
        | some c =>
          cases c with
          | lst ws =>
            obtain ⟨vs, e, l⟩ := s'.cell n _ _ hc hn'
            exact .inl ⟨vs, ws, SqL.of e, l, fun i => by show (match S'[n]? with | some (.lst ws) => some ws[i]? | _ => none : Option (Option W)) = _; rw [hc]⟩
          | dic _ => exact .inr fun i => by show (match S'[n]? with | some (.lst ws) => some ws[i]? | _ => none : Option (Option W)) = none; rw [hc]
          | ins _ _ => exact .inr fun i => by show (match S'[n]? with | some (.lst ws) => some ws[i]? | _ => none : Option (Option W)) = none; rw [hc]
          | fz _ => exact .inr fun i => by show (match S'[n]? with | some (.lst ws) => some ws[i]? | _ => none : Option (Option W)) = none; rw [hc]
    · cases h
theorem walk_zip {L : Bool} {x y : Addr} {i1 i2 : Iter} (r1 : RepQ L g ρ F i1 x) (r2 : RepQ L g ρ F i2 y) : WalkOk g (if L then Itz g.K x y else ItzT g.K x y) ρ F (.zip i1 i2) := by
  intro bs ρ' F' N' S' H' i gr s
  show match (match i1.next i S', i2.next i S' with
    | some (some x), some (some y) => some (some (mkTup [x, y]))
    | some none, some _ => some none
    | some _, some none => some none
    | _, _ => none : Option (Option W)) with
    | some (some w) => _
    | some none => _
    | none => True
  rcases r1 bs ρ' F' N' S' H' gr s with ⟨vs, ws, q1, l1, e1⟩ | e1
  · rcases r2 bs ρ' F' N' S' H' gr s with ⟨us, zs, q2, l2, e2⟩ | e2
    · rw [e1 i, e2 i]
      cases hw : ws[i]? with
      | none =>
        have hl : vs.length ≤ i := by rw [l1.len]; exact List.getElem?_eq_none_iff.mp hw
        cases hz : zs[i]? <;> (cases L <;> exact ⟨vs, us, q1, q2, .inl hl⟩)
      | some w =>
        cases hz : zs[i]? with
        | none =>
          have hl : us.length ≤ i := by rw [l2.len]; exact List.getElem?_eq_none_iff.mp hz
          cases L <;> exact ⟨vs, us, q1, q2, .inr hl⟩
        | some z =>
          obtain ⟨v, hv, rv⟩ := l1.get hw
          obtain ⟨u, hu, ru⟩ := l2.get hz
          refine ⟨by cases L <;> exact ⟨vs, us, v, u, q1, q2, hv, hu⟩, fun xv H2 h => ?_⟩
          obtain ⟨T, v', u', rfl, hT, rfl, h1, h2⟩ : ∃ T v' u', xv = .ref T ∧ H' T = none ∧ H2 = upd H' T (.tup [v', u']) ∧ vs[i]? = some v' ∧ us[i]? = some u' := by
            cases L
            · obtain ⟨T, v', u', e1, e2, e3, e4, e5⟩ := h; exact ⟨T, v', u', e1, e2, e3, e4 vs q1, e5 us q2⟩
            · obtain ⟨T, v', u', e1, e2, e3, e4, e5⟩ := h; exact ⟨T, v', u', e1, e2, e3, e4 vs q1, e5 us q2⟩
          rw [hv] at h1; cases h1
          rw [hu] at h2; cases h2
          obtain ⟨s', g'⟩ := s.frozen (o := .tup [v, u]) hT
          exact ⟨_, g', s', is_mkTup upd_same (.cons (rv.mono g') (.cons (ru.mono g') .nil))⟩
    · rw [e1 i, e2 i]; cases ws[i]? <;> trivial
  · rw [e1 i]; trivial
def zipO (S : Store) (x y : W) : Option Iter := match iterT x, iterT y with
  | some i, some j => some (.zip i j)
  | none, none => match iterL S x, iterL S y with
    | some i, some j => some (.zip i j)
    | _, _ => none
  | _, _ => none
def mZip (ms : M (List W)) : M Iter := fun bs env S => (ms bs env S).bind fun ws S1 => match ws with
  | [x, y] => match zipO S1 x y with
    | some it => .ok it S1
    | none => .stuck
  | _ => .stuck
theorem ri_zip (hK : g.K = X.K) (hg : Gl X "zip") (hm : X.mg "zip" = none) (ha : PA X [a, b] (rdA g B ms)) (hs : starEach [a, b] X.env = (false, eval a X.env) :: starEach [b] X.env := by rfl) (hpl : (backTo pos (starEach [b] X.env)).any (·.1) = false := by rfl) :
    PI X (.Tuple elts kk tpos) (.Call (.Name "zip" p) [a, b] [] pos) (rdI g B (mZip ms)) := (pi_zipA hg hm ha hs hpl).imp fun σ H R ⟨bs, ρ, F, N, env, S, s, e, p⟩ => by
  refine ⟨bs, ρ, F, N, env, S, s, e, (Post.iter (R := RWs g) p).imp fun x H1 ⟨ρ1, F1, wx, S1, g1, s1, r1, p1⟩ => ?_⟩
  rw [← hK]
  split at p1
  · rename_i w u
    obtain ⟨v, z, rfl, rv, rz⟩ := all_two r1
    split at p1
    · rename_i it hit
      unfold zipO at hit
      split at hit
      · rename_i i j hi hj
        cases hit
        obtain ⟨x, rfl, ⟨vs, q1⟩, w1⟩ := rep_tup s1 rv hi
        obtain ⟨y, rfl, ⟨us, q2⟩, w2⟩ := rep_tup s1 rz hj
        exact ⟨x, y, vs, us, rfl, .inr ⟨q1, q2, p1 ρ1 F1 H1 _ (Grow.refl _ _) s1 (walk_zip (L := false) w1 w2)⟩⟩
      · split at hit
        · rename_i i j hi hj
          cases hit
          obtain ⟨x, rfl, ⟨vs, q1⟩, w1⟩ := rep_lst s1 rv hi
          obtain ⟨y, rfl, ⟨us, q2⟩, w2⟩ := rep_lst s1 rz hj
          exact ⟨x, y, vs, us, rfl, .inl ⟨q1, q2, p1 ρ1 F1 H1 _ (Grow.refl _ _) s1 (walk_zip (L := true) w1 w2)⟩⟩
        · cases hit
      · cases hit
    · exact p1.elim
  · exact p1.elim

/-! ### locking what a rule has laid -/
theorem upd_upd2 (H : Hp) (a : Addr) (o o' : HO) : upd (upd H a o) a o' = upd H a o' := by
  funext b
  by_cases h : b = a
  · subst h; rw [upd_same, upd_same]
  · rw [upd_ne h, upd_ne h, upd_ne h]
def tLockR (t : TE) : TE := fun σ H Q => t σ H fun v H1 => ∃ d u, v = .ref d ∧ H1 d = some u ∧ Mut (some u) ∧ ∀ od, Q v (upd H1 d (.frz od u))
theorem pe_lockR {t : TE} (h : PE X e t) : PE X e (tLockR t) := ⟨fun pins s σ H Q I hw => thn (h.run pins s σ H _ I hw) fun v s1 ⟨x, H1, I1, r, d, u, ex, hd, mu, q⟩ => by
  obtain ⟨od, I2⟩ := I1.lock hd mu
  exact ⟨x, _, I2, r, q od⟩⟩
def rLockR (r : List V → Hp → VK → Prop) : List V → Hp → VK → Prop := fun xs H Q => r xs H fun v H1 => ∃ d u, v = .ref d ∧ H1 d = some u ∧ Mut (some u) ∧ ∀ od, Q v (upd H1 d (.frz od u))
/-! ### {} -/
def mDic0 (k : Bool) : M W := fun _ _ S => if k then .ok (.loc S.length) (S ++ [.dic []]) else .ok (.dat (.dict [])) S
theorem re_dic0 {k : Bool} : PE X (.Dict [] [] pos) (rd g B (mDic0 k)) := by
  cases k with
  | true =>
    refine pe_dnewK.imp fun σ H Q ⟨bs, ρ, F, N, env, S, s, e, p⟩ q hq => ?_
    obtain ⟨s', gr⟩ := s.newCell (c := .dic []) (o := .dK []) hq (.inl ⟨[], upd_same, .nil⟩)
    refine p _ _ _ _ gr s' (.loc ?_)
    rw [← s.len]; simp
  | false =>
    refine (pe_lockR pe_dnewK).imp fun σ H Q ⟨bs, ρ, F, N, env, S, s, e, p⟩ q hq => ⟨q, _, rfl, upd_same, True.intro, fun od => ?_⟩
    rw [upd_upd2]
    obtain ⟨s', gr⟩ := s.frozen (o := .frz od (.dK [])) hq
    exact p _ _ _ _ gr s' (.dat (.dicK (kvs := []) upd_same .nil))
end
end Rf

namespace Rf
open PySem L2 PyProof.Rows

/-! ### sorted(d) of a dict whose keys are tuples of ints -/
def keyI (p : List Key × V) : Option (List Int) := p.1.mapM fun k => match k with
  | .inl i => some i
  | .inr _ => none
section
variable {X : Cx}
/-- the keys with the places where they stand -/
abbrev KP := Addr × List Int
def encP (p : KP) : PyData := .tuple (p.2.map .int)
theorem sortable_KP {bs : List KP} (h : ∀ p ∈ bs, p.2 ≠ []) : PySem.W.Sortable (bs.map encP) := .inl fun d hd => by
  obtain ⟨p, hp, rfl⟩ := List.mem_map.mp hd
  cases e : p.2 with
  | nil => exact absurd e (h p hp)
  | cons x r => exact ⟨.int x, r.map .int, by simp [encP, e]⟩
theorem alike_KP {bs : List KP} : PySem.W.AllAlike (bs.map encP) := PySem.W.AllAlike.of fun b b' => by
  show PySem.W.alikeAll (b.2.map .int) (b'.2.map .int) = true
  exact PySem.W.alike_ints _ _
def rSortDT (X : Cx) : List V → Hp → VK → Prop := fun xs H Q => ∃ (d : Addr) (kvs : List (List Key × V)) (ns : List (List Int)), xs = [V.ref d] ∧ Rd H d (.dT kvs) ∧ kvs.map (·.1) = ns.map (fun n => n.map Sum.inl) ∧ (∀ n ∈ ns, n ≠ []) ∧ ns.length ≤ 100000 ∧
  ∀ (bs : List KP) (p : Addr), bs.map (·.2) = ns.mergeSort (fun a b => !PySem.W.dataLt (.tuple (b.map .int)) (.tuple (a.map .int))) → (∀ q ∈ bs, H q.1 = some (.tup (q.2.map V.int))) → H p = none → Q (.ref p) (upd H p (.lst (bs.map fun q => V.ref q.1)))
end
end Rf

namespace Rf
open PySem L2 PyProof.Rows

/-! ### tuples of the heap that come to be known -/
section
variable {X : Cx} {g : Gx} {B : WX} {bs : List Nat} {ρ : List Addr} {F N H : Hp} {S : Store}
/-- the keys as rows of ints, none of them empty -/
def keyRow : PyData → Option (List Int)
  | .tuple ds => match intsD ds with
    | some ns => if ns.isEmpty then none else some ns
    | none => none
  | _ => none
def keyRows : List (PyData × W) → Option (List (List Int))
  | [] => some []
  | p :: ps => match keyRow p.1, keyRows ps with
    | some n, some ns => some (n :: ns)
    | _, _ => none
def rowLe (a b : List Int) : Bool := !PySem.W.dataLt (.tuple (b.map .int)) (.tuple (a.map .int))
/-- sorted(d) -/
def sortDW (k : Bool) (w : W) (S : Store) : Option (W × Store) := match dicOf S w with
  | some ws => match keyRows ws with
    | some ns => if ns.length ≤ 100000 ∧ (isDicC S w || !ws.isEmpty) = true then some (newL k ((ns.mergeSort rowLe).map fun n => .dat (.tuple (n.map .int))) S) else none
    | none => none
  | none => none
theorem keyRow_eq {d : PyData} {ns : List Int} (h : keyRow d = some ns) : d = .tuple (ns.map .int) ∧ ns ≠ [] := by
  unfold keyRow at h
  split at h
  · split at h
    · rename_i ds ns' hi
      split at h
      · cases h
      · rename_i he
        cases h
        exact ⟨by rw [intsD_eq hi], fun z => he (by rw [z]; rfl)⟩
    · cases h
  · cases h
def sortDF (k : Bool) : OpN := fun _ ws S => match ws with
  | [w] => sortDW k w S
  | _ => none
end
end Rf

namespace Rf
open PySem L2 PyProof.Rows

/-! ### xs[::-1] -/
section
variable {prog : Program} {w : World} {A : Around} {E : Value → Shared → Prop} {s : Shared}
end
section
variable {X : Cx} {g : Gx} {B : WX} {e : Expr} {te : TE} {ma : M W} {i : Nat} {p1 p2 p3 pos : Pos}
def mBack (k : Bool) (m : M W) : M W := fun bs env S => (m bs env S).bind fun w S1 => match tupOf w with
  | some ws => .ok (mkTup ws.reverse) S1
  | none => match lstOf S1 w with
    | some ws => .ok (newL k ws.reverse S1).1 (newL k ws.reverse S1).2
    | none => .stuck
end
end Rf

namespace Rf
open PySem PySem.Spec L2 PyProof.Rows

/-! ### tuples of which all is known -/
section
variable {X : Cx} {g : Gx} {B : WX}
def tupleKF : OpN := fun _ ws S => match ws with
  | [w] => match lstOf S w with
    | some xs => (allDat xs).map fun ds => (.kt ds, S)
    | none => none
  | _ => none
def tyKT (x : V) (H : Hp) : Prop := ∃ a o vs, x = .ref a ∧ H a = some (.frz o (.tup vs)) ∧ o.cls = .type "tuple" ∧ o.dict = none
def idxF : OpM := fun _ x ws S => match x, ws with
  | .kt ds, [w] => match viewD S w with
    | some d => if d.plain = true ∧ PyData.plainAll ds = true ∧ SeqAt.shaped (.tuple ds) = true ∧ SeqAt.shaped d = true then (ds.findIdx? fun z => PyData.eqv z d).map fun j => (.int (j : Nat), S) else none
    | none => none
  | _, _ => none
def isKt : W → Bool
  | .kt _ => true
  | _ => false
def mMtK (f : OpM) (mo : M W) (ms : M (List W)) : M W := fun bs env S => (mo bs env S).bind fun w S1 => if isKt w = true then (ms bs env S1).bind fun ws S2 => match f bs w ws S2 with
  | some (r, S3) => .ok r S3
  | none => .stuck
  else .stuck
end
end Rf

namespace Rf
open PySem PySem.Spec L2 PyProof.Rows

/-! ### dict(t), t a tuple of pairs of which all is known -/
def PrOf (K : PySem.W.Frag) (H : Hp) : List V → List (List Key × V) → Prop := Paired fun v kv => ∃ b p, v = .ref p ∧ SqT K H p [.ref b, kv.2] ∧ H b = some (.tup (kv.1.map kV))
section
variable {X : Cx} {g : Gx} {B : WX}
/-- a pair of a key that is a tuple, and a datum -/
def pairKD : PyData → Option (List Key × PyData)
  | .tuple [.tuple ks, v] => (keysD ks).map fun k => (k, v)
  | _ => none
def pairsKD : List PyData → Option (List (List Key × PyData))
  | [] => some []
  | d :: ds => match pairKD d, pairsKD ds with
    | some p, some ps => some (p :: ps)
    | _, _ => none
def dictKF : OpN := fun _ ws S => match ws with
  | [.kt ds] => match pairsKD ds with
    | some kvs => if (kvs.map (·.1)).Nodup then some (.dat (.dict (kvs.map fun p => (.tuple (p.1.map kD), p.2))), S) else none
    | none => none
  | _ => none

/-! ### repr -/
def reprD : PyData → Option Str
  | .none => some "None"
  | .bool b => some (if b then "True" else "False")
  | .int i => if i.natAbs.log2 < 1920 then some (toString i) else none
  | .str x => if (reprText x).length ≤ 100000 then some (reprText x) else none
  | .list ds => if PyData.plain (.list ds) = true ∧ PyData.showable (.list ds) = true ∧ PyData.hasDict (.list ds) = false ∧ PyData.depth (.list ds) ≤ 64 ∧ (PyData.shown (.list ds)).length ≤ 100000 then some (PyData.shown (.list ds)) else none
  | .tuple ds => if PyData.plain (.tuple ds) = true ∧ PyData.showable (.tuple ds) = true ∧ PyData.hasDict (.tuple ds) = false ∧ PyData.depth (.tuple ds) ≤ 64 ∧ (PyData.shown (.tuple ds)).length ≤ 100000 then some (PyData.shown (.tuple ds)) else none
  | _ => none
def reprF : OpN := fun _ ws S => match ws with
  | [w] => match viewD S w with
    | some d => (reprD d).map fun t => (.str t, S)
    | none => none
  | _ => none
end
end Rf

namespace Rf
open PySem PySem.Spec L2 PyProof.Rows

/-! ### the end: the law's def, called at the script -/
theorem room_top (k : Nat) (h : Room k callerA) : RoomG k callerA := ⟨h, rfl⟩
section
variable {P : Program} {w : World} {K : PySem.W.Frag} {mg mb : Str → Option Value} {k : Nat} {fa a : Addr} {fd : FuncData} {x : Str} {sp : Sp} {top : Shared} {vs : List Value} {ns : List Int}
abbrev Held (top : Shared) : Result → Shared → Prop := fun r t => r = .ok (.ret (.bool true)) ∧ OldK top.heap t.heap ∧ t.os = top.os ∧ AllBare t.gens
end
end Rf

namespace Rf
open PySem L2 PyProof.Rows

/-! ### texts: index, join -/
def sindF : OpM := fun _ x ws S => match x, ws with
  | .dat (.str a), [.dat (.str b)] => match Builtin.Str.occurrences a b 0 a.length 1 with
    | i :: _ => some (.int (i : Nat), S)
    | [] => none
  | _, _ => none
def strsW : List W → Option (List Str)
  | [] => some []
  | .dat (.str b) :: ws => (strsW ws).map (b :: ·)
  | _ :: _ => none
theorem strs_is {K : PySem.W.Frag} {ρ : List Addr} {F : Hp} : ∀ {ws : List W} {vs : List V} {xs : List Str}, IsAll K ρ F vs ws → strsW ws = some xs → vs = xs.map V.str
  | [], _, _, h, e => by cases h; simp [strsW] at e; subst e; rfl
  | w :: ws, _, _, .cons a b, e => by
    unfold strsW at e
    split at e
    · rename_i h; cases h
    · rename_i b' ws' h
      cases h
      simp only [Option.map_eq_some_iff] at e
      obtain ⟨ys, e, rfl⟩ := e
      rw [strs_is b e]
      cases a with
      | dat r => cases r; rfl
    · cases e
def joinF : OpM := fun _ x ws S => match x, ws with
  | .dat (.str a), [w] => match (seqOf S w).bind strsW with
    | some ys => if (ys.map (·.length)).sum + ys.length * a.length ≤ 16777216 then some (.str (Txt.join a ys), S) else none
    | none => none
  | _, _ => none
/-- xs.insert(i, y) -/
def insF : OpM := fun bs x ws S => match x, ws with
  | .loc n, [.dat (.int i), w] => match S[n]? with
    | some (.lst us) => if us.length < 100000 ∧ mayW bs n w = true ∧ 0 ≤ i ∧ i < 100000 then some (.non, S.set n (.lst (us.take i.toNat ++ [w] ++ us.drop i.toNat))) else none
    | _ => none
  | _, _ => none
/-- max(xs), min(xs) of a list of ints -/
def maxLF : Store → W → Option W := fun S w => match (lstOf S w).bind intsW with
  | some ns => (ns.max?).map .int
  | none => none
def minLF : Store → W → Option W := fun S w => match (lstOf S w).bind intsW with
  | some ns => (ns.min?).map .int
  | none => none
section
variable {X : Cx} {g : Gx} {bs : List Nat} {ρ : List Addr} {F N H : Hp} {S : Store}
end
/-! ### enumerate of a list -/
section
variable {X : Cx} {tg : Expr} {g : Gx} {B : WX} {bs : List Nat} {ρ : List Addr} {F N H : Hp} {S : Store} {a b e : Expr} {ms : M (List W)} {p pos tpos : Pos} {elts : List Expr} {kk : Nat}
theorem walk_enm {x : Addr} {i1 : Iter} (r1 : RepQ true g ρ F i1 x) : WalkOk g (Ite g.K x) ρ F (.enm i1) := by
  intro bs ρ' F' N' S' H' i gr s
  show match (match i1.next i S' with
    | some (some x) => some (some (mkTup [.int i, x]))
    | some none => some none
    | none => none : Option (Option W)) with
    | some (some w) => _
    | some none => _
    | none => True
  rcases r1 bs ρ' F' N' S' H' gr s with ⟨vs, ws, q1, l1, e1⟩ | e1
  · rw [e1 i]
    cases hw : ws[i]? with
    | none => exact ⟨vs, q1, by rw [l1.len]; exact List.getElem?_eq_none_iff.mp hw⟩
    | some w =>
      obtain ⟨v, hv, rv⟩ := l1.get hw
      refine ⟨⟨vs, v, q1, hv⟩, fun xv H2 h => ?_⟩
      obtain ⟨T, v', e1, hT, e3, h1⟩ := h
      subst e1 e3
      have h1 := h1 vs q1
      rw [hv] at h1; cases h1
      obtain ⟨s', g'⟩ := s.frozen (o := .tup [.int (i : Nat), v]) hT
      exact ⟨_, g', s', is_mkTup upd_same (.cons (.dat (.int _)) (.cons (rv.mono g') .nil))⟩
  · rw [e1 i]; trivial
def mEnm (ms : M (List W)) : M Iter := fun bs env S => (ms bs env S).bind fun ws S1 => match ws with
  | [x] => match iterL S1 x with
    | some it => .ok (.enm it) S1
    | none => .stuck
  | _ => .stuck
end
end Rf

namespace Rf
open PySem L2 PyProof.Rows

/-! ### a dict that is a cell is locked for good -/
section
variable {X : Cx} {g : Gx} {B : WX} {bs : List Nat} {ρ : List Addr} {F N H : Hp} {S : Store} {σ : L2.St}

/-! ### a locked dict, its entries one by one -/
inductive FzD (H : Hp) (d : Addr) (o : Obj) : List (PyData × V) → Prop
  | k {kvs : List (Key × V)} : H d = some (.frz o (.dK kvs)) → FzD H d o (kvs.map fun p => (kD p.1, p.2))
  | t {kvs : List (List Key × V)} : H d = some (.frz o (.dT kvs)) → FzD H d o (kvs.map fun p => (.tuple (p.1.map kD), p.2))
/-- a key as it stands in the heap -/
def KeyV (H : Hp) (kd : PyData) (x : V) : Prop := (∃ k : Key, kd = kD k ∧ x = kV k) ∨ ∃ (ks : List Key) (q : Addr), kd = .tuple (ks.map kD) ∧ x = .ref q ∧ H q = some (.tup (ks.map kV))
/-- its pairs, each a new tuple -/
def ItZ (d : Addr) (o : Obj) (vs : List (PyData × V)) : It :=
  ⟨fun i H => FzD H d o vs ∧ i < vs.length, fun i H x H' => ∃ T kd kx v, vs[i]? = some (kd, v) ∧ KeyV H kd kx ∧ x = .ref T ∧ H T = none ∧ H' = upd H T (.tup [kx, v]), fun i H => FzD H d o vs ∧ vs.length ≤ i⟩
/-! ### walks of a dict -/
def lockW (S : Store) (w : W) : Store := match w with
  | .loc n => match S[n]? with
    | some (.dic ws) => S.set n (.fz ws)
    | _ => S
  | _ => S
def mPairs (m : M W) : M Iter := fun bs env S => (m bs env S).bind fun w S1 => match dicOf S1 w with
  | some ws => .ok (.items (ws.map fun p => mkTup [.dat p.1, p.2])) (lockW S1 w)
  | none => .stuck
/-- for k in d -/
def mKeysD (m : M W) : M Iter := fun bs env S => (m bs env S).bind fun w S1 => match dicOf S1 w with
  | some ws => .ok (.items (ws.map fun p => .dat p.1)) (lockW S1 w)
  | none => .stuck
/-- d.values(), no key a tuple -/
def mValsD (m : M W) : M Iter := fun bs env S => (m bs env S).bind fun w S1 => match dicOf S1 w with
  | some ws => if dicRdy S1 w ws (.one (.inl 0)) = true ∧ ws.isEmpty = false then .ok (.items (ws.map fun p => p.2)) (lockW S1 w) else .stuck
  | none => .stuck
end
end Rf

namespace Rf
open PySem L2 PyProof.Rows

/-! ### a key in a dict; a copy of a dict -/
def inDF (neg : Bool) : Op2 := fun _ x y S => match x, dicOf S y with
  | .dat d, some ws => match dkey d with
    | some k => if dicRdy S y ws k = true then some (.bl ((lookW ws k).isSome != neg), S) else none
    | none => none
  | _, _ => none
/-- values that are all data -/
def allDatKV : List (PyData × W) → Option (List (PyData × PyData))
  | [] => some []
  | (k, .dat d) :: ws => (allDatKV ws).map ((k, d) :: ·)
  | _ :: _ => none
def newD (k : Bool) (ws : List (PyData × W)) (S : Store) : Option (W × Store) := if k then some (.loc S.length, S ++ [.dic ws]) else (allDatKV ws).map fun kvs => (.dat (.dict kvs), S)
/-- dict(d), no key a tuple -/
def copyF (k : Bool) : OpN := fun _ ws S => match ws with
  | [w] => match dicOf S w with
    | some us => if dicRdy S w us (.one (.inl 0)) = true then newD k us S else none
    | none => none
  | _ => none
section
variable {X : Cx} {g : Gx} {B : WX} {bs : List Nat} {ρ : List Addr} {F N H : Hp} {S : Store} {σ : L2.St}
theorem in_dic {neg : Bool} {pins : List (Addr × Obj)} {sh : Shared} {x y : V} {v u : Value} {Q : VK} (hu : X.A.units + 100 < cLine) (I : Inv X pins σ H sh) (rx : RelV x v) (ry : RelV y u) (told : rd2 g (inDF neg) x y H Q) :
    ∃ (a : Addr) (o : Option V) (H' : Hp), y = .ref a ∧ Inv X pins σ H' sh ∧ DGet H' a x o ∧ Q (.bl (o.isSome != neg)) H' := by
  obtain ⟨bs, ρ, F, N, S, wx, wy, s, r1, r2, p⟩ := told
  unfold inDF at p
  split at p
  · rename_i d ws hd
    split at p
    · rename_i k hk
      split at p
      · rename_i ok
        have e := dkey_eq hk
        subst e
        obtain ⟨H', I', s', a, vs, rfl, dh, q⟩ := dic_ready I s r2 hd ok
        have rk : Rp g.K F x k.d := by
          cases r1 with
          | dat r => exact r
        have z := isKV_val q k
        refine ⟨a, _, H', rfl, I', dic_get dh s'.ex rk rfl, ?_⟩
        cases hl : lookW ws k with
        | none => rw [hl] at z p; rw [z]; exact p ρ F H' _ (Grow.refl _ _) s' (.dat (.bl _))
        | some w => rw [hl] at z p; obtain ⟨v, h1, h2⟩ := z; rw [h1]; exact p ρ F H' _ (Grow.refl _ _) s' (.dat (.bl _))
      · exact p.elim
    · exact p.elim
  · exact p.elim
theorem ro_inD (hu : X.A.units + 100 < cLine) : OpR X (compareOp .In) (rd2 g (inDF false)) := by
  intro pins sh σ H x y v u Q I rx ry told
  obtain ⟨a, o, H', rfl, I', dg, q⟩ := in_dic hu I rx ry told
  cases ry
  exact d_in (by omega) I' dg rx fun s3 I3 => ⟨.bl o.isSome, H', I3, rfl, by simpa using q⟩
theorem ro_notInD (hu : X.A.units + 100 < cLine) : OpR X (compareOp .NotIn) (rd2 g (inDF true)) := by
  intro pins sh σ H x y v u Q I rx ry told
  obtain ⟨a, o, H', rfl, I', dg, q⟩ := in_dic hu I rx ry told
  cases ry
  exact d_notIn (by omega) I' dg rx fun s3 I3 => ⟨.bl (!o.isSome), H', I3, rfl, by simpa using q⟩
/-- a sign in a text -/
def inSF (neg : Bool) : Op2 := fun _ x y S => match x, y with
  | .dat (.str c), .dat (.str z) => match c.cps.toList with
    | [c0] => some (.bl (decide (c0 ∈ z.cps.toList) != neg), S)
    | _ => none
  | _, _ => none
theorem sign_of {c : Str} {c0 : Nat} (h : c.cps.toList = [c0]) : c = ⟨#[c0]⟩ := by
  cases c with
  | mk a =>
    cases a with
    | mk l => simp at h; subst h; rfl
theorem ro_inS : OpR X (compareOp .In) (rd2 g (inSF false)) := by
  intro pins sh σ H x y v u Q I rx ry ⟨bs, ρ, F, N, S, wx, wy, s, r1, r2, p⟩
  unfold inSF at p
  split at p
  · rename_i c z
    split at p
    · rename_i c0 hc
      have e := sign_of hc
      subst e
      rw [is_str r1] at rx; rw [is_str r2] at ry
      exact op_in_sign pins sh σ H _ _ v u Q I rx ry ⟨c0, z, rfl, rfl, by simpa using p ρ F H (.bl _) (Grow.refl _ _) s (.dat (.bl _))⟩
    · exact p.elim
  · exact p.elim
theorem ro_notInS : OpR X (compareOp .NotIn) (rd2 g (inSF true)) := by
  intro pins sh σ H x y v u Q I rx ry ⟨bs, ρ, F, N, S, wx, wy, s, r1, r2, p⟩
  unfold inSF at p
  split at p
  · rename_i c z
    split at p
    · rename_i c0 hc
      have e := sign_of hc
      subst e
      rw [is_str r1] at rx; rw [is_str r2] at ry
      exact op_notIn_sign pins sh σ H _ _ v u Q I rx ry ⟨c0, z, rfl, rfl, by simpa using p ρ F H (.bl _) (Grow.refl _ _) s (.dat (.bl _))⟩
    · exact p.elim
  · exact p.elim
/-- in a list or tuple, a text, a dict -/
def inAF (neg : Bool) : Op2 := fun bs x y S => match inF neg bs x y S with
  | some r => some r
  | none => match inSF neg bs x y S with
    | some r => some r
    | none => inDF neg bs x y S
theorem op_orElse {op : Value → Value → Sem Value} {f f' : Op2} (h : OpR X op (rd2 g f)) (h' : OpR X op (rd2 g f')) : OpR X op (rd2 g fun bs x y S => match f bs x y S with
    | some r => some r
    | none => f' bs x y S) := by
  intro pins sh σ H x y v u Q I rx ry ⟨bs, ρ, F, N, S, wx, wy, s, r1, r2, p⟩
  simp only at p
  cases hf : f bs wx wy S with
  | some r => rw [hf] at p; exact h pins sh σ H x y v u Q I rx ry ⟨bs, ρ, F, N, S, wx, wy, s, r1, r2, by rw [hf]; exact p⟩
  | none => rw [hf] at p; exact h' pins sh σ H x y v u Q I rx ry ⟨bs, ρ, F, N, S, wx, wy, s, r1, r2, p⟩
theorem ro_inA (hK : g.K = X.K) (hu : X.A.units + 100 < cLine) : OpR X (compareOp .In) (rd2 g (inAF false)) := op_orElse (ro_in hK hu) (op_orElse ro_inS (ro_inD hu))
theorem ro_notInA (hK : g.K = X.K) (hu : X.A.units + 100 < cLine) : OpR X (compareOp .NotIn) (rd2 g (inAF true)) := op_orElse (ro_notIn hK hu) (op_orElse ro_notInS (ro_notInD hu))
end
end Rf

namespace Rf
open PySem L2 PyProof.Rows

/-! ### dict comprehensions, no key a tuple -/
def dcG (it : Iter) (t : TM) (c : M Bool) (ek ev : M W) : Nat → Nat → List (PyData × W) → M (List (PyData × W))
  | 0, _, _ => fun _ _ _ => .stuck
  | f + 1, i, acc => fun bs env S => match it.next i S with
    | none => .stuck
    | some none => .ok acc S
    | some (some w) => (t w bs env S).bindC fun env1 S1 => (c bs env1 S1).bindC fun b S2 =>
      if b = true then (ek bs env1 S2).bindC fun y S3 => (ev bs env1 S3).bindC fun z S4 => match y with
        | .dat d => match keyD d with
          | some k => if acc.length < 100000 then dcG it t c ek ev f (i + 1) (putW acc (.one k) z) bs env S4 else .stuck
          | none => .stuck
        | _ => .stuck
      else dcG it t c ek ev f (i + 1) acc bs env S2
def finD (k : Bool) (ws : List (PyData × W)) (S : Store) : Out W := match newD k ws S with
  | some (w, S') => .ok w S'
  | none => .stuck
def mDComp (k : Bool) (mi : M Iter) (vs : List Nat) (t : TM) (c : M Bool) (ek ev : M W) : M W := fun bs env S => (mi bs env S).bind fun it S1 =>
  (dcG it t c ek ev it.fuel 0 [] bs (wipeE env vs) S1).bind (finD k)
section
variable {X : Cx} {g : Gx} {B : WX} {bs : List Nat} {ρ : List Addr} {F N H : Hp} {S : Store} {σ : L2.St} {D : Addr}
end
end Rf

namespace Rf
open PySem L2 PyProof.Rows

/-! ### displays of dicts, no key a tuple -/
inductive IsPs (K : PySem.W.Frag) (ρ : List Addr) (F : Hp) : List (V × V) → List (W × W) → Prop
  | nil : IsPs K ρ F [] []
  | cons {x y : V} {a b : W} {xs : List (V × V)} {l : List (W × W)} : Is K ρ F x a → Is K ρ F y b → IsPs K ρ F xs l → IsPs K ρ F ((x, y) :: xs) ((a, b) :: l)
def mPs : List (M W × M W) → M (List (W × W))
  | [] => fun _ _ S => .ok [] S
  | p :: r => fun bs env S => (p.1 bs env S).bind fun x S1 => (p.2 bs env S1).bind fun y S2 => (mPs r bs env S2).bind fun l S3 => .ok ((x, y) :: l) S3
def keyedW : List (W × W) → Option (List (Key × W))
  | [] => some []
  | (.dat d, w) :: r => match keyD d, keyedW r with
    | some k, some l => some ((k, w) :: l)
    | _, _ => none
  | _ :: _ => none
def mergeW (acc : List (PyData × W)) (l : List (Key × W)) : List (PyData × W) := l.foldl (fun acc p => putW acc (.one p.1) p.2) acc
def finP (k : Bool) (l : List (W × W)) (S : Store) : Out W := match keyedW l with
  | some kws => if l.length ≤ 15 then finD k (mergeW [] kws) S else .stuck
  | none => .stuck
def mDisp (k : Bool) (ps : List (M W × M W)) : M W := fun bs env S => (mPs ps bs env S).bind (finP k)
section
variable {X : Cx} {g : Gx} {B : WX} {bs : List Nat} {ρ : List Addr} {F N H : Hp} {S : Store} {σ : L2.St} {D : Addr}
end
end Rf

namespace Rf
open PySem L2 PyProof.Rows

/-! ### range with a step -/
def stepW (i c : Int) (n : Nat) : List W := (List.range n).map fun (k : Nat) => W.int (i + (k : Int) * c)
instance (i j c : Int) (n : Nat) : Decidable (RgC i j c n) := by unfold RgC; infer_instance
section
variable {X : Cx} {tg : Expr} {g : Gx} {B : WX} {bs : List Nat} {ρ : List Addr} {F N H : Hp} {S : Store} {a b c e : Expr} {ms : M (List W)} {pos : Pos}
def mRng3 (ms : M (List W)) : M Iter := fun bs env S => (ms bs env S).bind fun ws S1 => match ws with
  | [.dat (.int i), .dat (.int j), .dat (.int d)] => if RgC i j d (Builtin.Range.rangeSize i j d).toNat then .ok (.items (stepW i d (Builtin.Range.rangeSize i j d).toNat)) S1 else .stuck
  | _ => .stuck
/-- xs.index(x) of texts -/
def lidxF : OpM := fun _ x ws S => match (lstOf S x).bind strsW, ws with
  | some ys, [.dat (.str z)] => (ys.findIdx? fun y => y == z).map fun j => (.int (j : Nat), S)
  | _, _ => none
end
end Rf

namespace Rf
open PySem PySem.Spec L2 PyProof.Rows

/-! ### classes: fields, methods, instances -/
theorem guards_make {A : Around} {C : Addr} {us : List Value} {kw : List (Str × Value)} : (A.under (.builtin "type.__call__" ⟨.ref C :: us, kw⟩)).guards = A.guards := by
  show pushGuards (Code.guards (.builtin "type.__call__" ⟨.ref C :: us, kw⟩)) A.guards = A.guards
  cases A.guards <;> rfl
theorem RoomG.make {k : Nat} {A : Around} (r : RoomG (k + 1) A) (C : Addr) (us : List Value) (kw : List (Str × Value)) : RoomG k (A.under (.builtin "type.__call__" ⟨.ref C :: us, kw⟩)) := ⟨r.rm.make C us kw, guards_make.trans r.gd⟩
section
variable {X : Cx} {k : Nat} {f C : Addr} {fd : FuncData} {ps : List Str} {sp : Sp} {E : L2.St → XK} {x m : Str} {p pos apos : Pos} {e o : Expr} {es : List Expr} {ta : TE} {t : TA}
theorem run_fnG {pins : List (Addr × Obj)} {σ : L2.St} {H : Hp} {s : Shared} {Q : VK} {us : List Value} {vs : List V} (Fo : FnG X.prog X.w X.K X.mg X.base k f fd ps sp) (room : RoomG k X.A) (bind : Binds X.K fd ps []) (out : PassesAt (L2.CX X.prog X.w) X σ (E σ))
    (I : Inv X pins σ H s) (r : Vals vs us) (h : sp vs H Q (E σ)) : wpAny (model X.prog X.w) X.A (call (.ref f) us) (EP X pins σ Q) X.xe s := by
  have len : us.length = ps.length := r.length.symm.trans (Fo.cnt _ _ _ _ h)
  have b := bind s us I.kIn (by simpa using len)
  rw [List.append_nil] at b
  refine wpAny_call (codeAny_mono (Fo.go X.A X.stack s H ⟨us, []⟩ us vs Q (E σ) room I.env0 b r h) fun r s' done => ?_)
  cases r with
  | error ex => exact out pins H s ex s' I done
  | ok fl =>
    cases fl with
    | ret u => exact I.after done
    | next => exact done.elim
    | brk => exact done.elim
    | cont => exact done.elim
def tMethG (C : Addr) (m : Str) (sp : Sp) (E : L2.St → XK) (ta : TE) (t : TA) : TE := fun σ H Q => ta σ H fun x H1 => ∃ a dx fs, x = .ref a ∧ H1 a = some (.ins C dx fs) ∧ fs.lookup m = none ∧ t σ H1 fun vs H2 => sp (x :: vs) H2 Q (E σ)
theorem pe_methG {pl : Sem Bool} (he : PE X o ta) (c : Cls X.K C) (hm : Meth X.K C m f) (Fo : FnG X.prog X.w X.K X.mg X.base k f fd ps sp) (room : RoomG k X.A) (bind : Binds X.K fd ps []) (out : ∀ σ, PassesAt (L2.CX X.prog X.w) X σ (E σ)) (ha : PA X (e :: es) t)
    (hst : starEach (e :: es) X.env = (false, eval e X.env) :: starEach es X.env := by rfl) (hpl : (backTo pos (starEach es X.env)).any (·.1) = false := by rfl)
    (ht : eval (.Call (.Attribute o m apos) (e :: es) [] pos) X.env = (do
      let ov ← eval o X.env
      standAt apos.atName
      let (f, first) ← holding [ov] (getMethod ov m pl)
      callWith pos f first (backTo pos (starEach (e :: es) X.env)) (backToKw pos (keywordEach [] X.env))) := by rfl) :
    PE X (.Call (.Attribute o m apos) (e :: es) [] pos) (tMethG C m sp E ta t) := by
  refine ⟨fun pins s σ H Q I h => ?_⟩
  refine PySem.W.methodCall_KW (pl := pl) (thn (he.run pins s σ H _ I h) fun u s1 ⟨x, H1, I1, rx, a, dx, fs, ex, ea, l, q⟩ => ?_) ht
  subst ex
  obtain rfl : u = Value.ref a := rx
  refine getmeth_ok I1 ea c hm l ?_
  refine PySem.W.callWith_K (first := [.ref a]) (h₀ := X.base) I.ok.mod.kin hm.kp (thn (ha.run pos pins s1 σ H1 _ I1 q) fun us s2 ⟨vs, H2, I2, r, q2⟩ => ⟨I2.kIn, ?_⟩) hst hpl
  exact run_fnG (us := .ref a :: us) (vs := .ref a :: vs) Fo room bind (out σ) I2 (.cons rfl r) q2
def tMakeG (C : Addr) (sp : Sp) (E : L2.St → XK) (t : TA) : TE := fun σ H Q => t σ H fun vs H1 => ∀ x dx, H1 x = none → H1 dx = none → dx ≠ x → sp (.ref x :: vs) (upd (upd H1 dx (.own x)) x (.ins C dx [])) (fun v H2 => v = .non ∧ Q (.ref x) H2) (E σ)
theorem run_makeG {pins : List (Addr × Obj)} {σ : L2.St} {H : Hp} {s : Shared} {Q : VK} {us : List Value} {vs : List V} (M : Mk X.K C f) (Fo : FnG X.prog X.w X.K X.mg X.base k f fd ps sp) (room : RoomG (k + 1) X.A) (bind : Binds X.K fd ps []) (out : PassesAt (L2.CX X.prog X.w) X σ (E σ))
    (I : Inv X pins σ H s) (r : Vals vs us) (h : ∀ x dx, H x = none → H dx = none → dx ≠ x → sp (.ref x :: vs) (upd (upd H dx (.own x)) x (.ins C dx [])) (fun v H2 => v = .non ∧ Q (.ref x) H2) (E σ)) :
    wpAny (model X.prog X.w) X.A (call (.ref C) us) (EP X pins σ Q) X.xe s := by
  have hq := h (s.heap.objs.size + 1) s.heap.objs.size (I.hok.fresh (Nat.le_succ _)) (I.hok.fresh (Nat.le_refl _)) (Nat.ne_of_lt (Nat.lt_succ_self _))
  have I2 := Inv.made (C := C) I
  have r2 : Vals (V.ref (s.heap.objs.size + 1) :: vs) (Value.ref (s.heap.objs.size + 1) :: us) := .cons rfl r
  have len : (Value.ref (s.heap.objs.size + 1) :: us).length = ps.length := r2.length.symm.trans (Fo.cnt _ _ _ _ hq)
  have b := bind _ (Value.ref (s.heap.objs.size + 1) :: us) I2.kIn (by simpa using len)
  rw [List.append_nil] at b
  refine wpAny_call (make_map (f := f) I.kIn M.makes M.init (beq_iff_eq.mp M.fn) (codeAny_mono (Fo.go _ X.stack _ _ ⟨Value.ref (s.heap.objs.size + 1) :: us, []⟩ (Value.ref (s.heap.objs.size + 1) :: us) _ _ (E σ) (room.make C us [])
    (I2.env0.make C us []) b r2 hq) fun r s' hq' => ?_))
  cases r with
  | error e => exact out pins _ _ e s' I2 hq'
  | ok fl =>
    cases fl with
    | ret u =>
      obtain ⟨v, H', I3, rv, ev, q3⟩ := I2.after hq'
      subst ev
      exact ⟨rv, ⟨V.ref (s.heap.objs.size + 1), H', I3, rfl, q3⟩⟩
    | next => exact False.elim hq'
    | brk => exact False.elim hq'
    | cont => exact False.elim hq'
theorem pe_makeG (M : Mk X.K C f) (Fo : FnG X.prog X.w X.K X.mg X.base k f fd ps sp) (room : RoomG (k + 1) X.A) (hg : Gl X x) (hm : X.mg x = some (.ref C)) (bind : Binds X.K fd ps []) (out : ∀ σ, PassesAt (L2.CX X.prog X.w) X σ (E σ))
    (ha : PA X (e :: es) t) (hdb : (x == ("__debug__" : Str)) = false) (he : starEach (e :: es) X.env = (false, eval e X.env) :: starEach es X.env) (hpl : (backTo pos (starEach es X.env)).any (·.1) = false) :
    PE X (.Call (.Name x p) (e :: es) [] pos) (tMakeG C sp E t) := by
  refine ⟨fun pins s σ H Q I h => ?_⟩
  refine wpAny_Call_Name_kw (ld_glob I hg hm ?_ hdb)
  refine PySem.W.callWith_K (h₀ := X.base) I.ok.mod.kin M.kp (thn (ha.run pos pins s σ H _ I h) fun us s1 ⟨vs, H1, I1, r, q⟩ => ⟨I1.kIn, ?_⟩) he hpl
  exact run_makeG M Fo room bind (out σ) I1 r q
end
/-! ### readings -/
section
variable {K : PySem.W.Frag} {ρ : List Addr} {F : Hp}
theorem IsFs.look {f : Str} : ∀ {gs : List (Str × V)} {fs : List (Str × W)}, IsFs K ρ F gs fs → ∀ {w : W}, fs.lookup f = some w → ∃ v, gs.lookup f = some v ∧ Is K ρ F v w
  | _, _, .nil, w, h => by cases h
  | _, _, .cons (k := k) a b, w, h => by
    simp only [List.lookup] at h ⊢
    split
    · rename_i e; rw [e] at h; cases h; exact ⟨_, rfl, a⟩
    · rename_i e; rw [e] at h; exact IsFs.look b h
theorem IsFs.none {f : Str} : ∀ {gs : List (Str × V)} {fs : List (Str × W)}, IsFs K ρ F gs fs → fs.lookup f = Option.none → gs.lookup f = Option.none
  | _, _, .nil, h => rfl
  | _, _, .cons (k := k) a b, h => by
    simp only [List.lookup] at h ⊢
    split
    · rename_i e; rw [e] at h; cases h
    · rename_i e; rw [e] at h; exact IsFs.none b h
theorem IsFs.len : ∀ {gs : List (Str × V)} {fs : List (Str × W)}, IsFs K ρ F gs fs → gs.length = fs.length
  | _, _, .nil => rfl
  | _, _, .cons a b => by simp [IsFs.len b]
def putFW (f : Str) (v : W) : List (Str × W) → List (Str × W)
  | [] => [(f, v)]
  | (k, x) :: r => if k = f then (k, v) :: r else (k, x) :: putFW f v r
theorem IsFs.put {f : Str} {v : V} {w : W} (h : Is K ρ F v w) : ∀ {gs : List (Str × V)} {fs : List (Str × W)}, IsFs K ρ F gs fs → IsFs K ρ F (putF f v gs) (putFW f w fs)
  | _, _, .nil => .cons h .nil
  | _, _, .cons (k := k) a b => by
    unfold putF putFW
    split
    · exact .cons h b
    · exact .cons a (IsFs.put h b)
end
section
variable {X : Cx} {g : Gx} {B : WX} {bs : List Nat} {a b c e o : Expr} {es : List Expr} {ma mb mo mv : M W} {ms : M (List W)} {pos pos' p apos : Pos} {f m x : Str} {ff : FnT} {cs : List Nat}
/-- o.f of an instance of one of the classes cs -/
def mFld (cs : List Nat) (f : Str) (m : M W) : M W := fun bs env S => (m bs env S).bind fun w S1 => match w with
  | .loc n => match S1[n]? with
    | some (.ins c fs) => if c ∈ cs then match fs.lookup f with
        | some v => .ok v.weak S1
        | none => .stuck
      else .stuck
    | _ => .stuck
  | _ => .stuck
theorem re_fld (hK : g.K = X.K) (hc : ∀ c ∈ cs, Cls X.K (g.cls c) ∧ NoAttr X.K (g.cls c) f) (h : PE X e (rd g B ma)) (hb : attributeBase e f X.env (eval e X.env) = eval e X.env := by rfl) : PE X (.Attribute e f pos) (rd g B (mFld cs f ma)) :=
  (pe_fld h hb).imp fun σ H Q ⟨bs, ρ, F, N, env, S, s, e, p⟩ => by
    refine ⟨bs, ρ, F, N, env, S, s, e, (Post.bind (R1 := RW g) p).imp fun x H1 ⟨ρ1, F1, wx, S1, g1, s1, r1, p1⟩ => ?_⟩
    cases wx with
    | loc n =>
      cases hn : S1[n]? with
      | none => simp only [hn] at p1; exact p1.elim
      | some cell =>
        cases cell with
        | ins c fs =>
          simp only [hn] at p1
          split at p1
          · rename_i hcs
            cases hl : fs.lookup f with
            | none => rw [hl] at p1; exact p1.elim
            | some v =>
              rw [hl] at p1
              cases r1 with
              | loc hr =>
                obtain ⟨dx, gs, eH, rf⟩ := s1.cell n _ _ hn hr
                obtain ⟨u, hu, ru⟩ := rf.look hl
                exact ⟨_, _, dx, gs, u, rfl, eH, (hc c hcs).1, (hc c hcs).2, hu, p1 ρ1 F1 H1 _ (Grow.refl _ _) s1 ru.weak⟩
          · exact p1.elim
        | lst _ => simp only [hn] at p1; exact p1.elim
        | dic _ => simp only [hn] at p1; exact p1.elim
        | fz _ => simp only [hn] at p1; exact p1.elim
    | dat _ => exact p1.elim
    | tw _ => exact p1.elim
    | lw _ => exact p1.elim
    | kt _ => exact p1.elim
    | fn _ => exact p1.elim
    | rg _ _ _ => exact p1.elim
/-- what a store into a field does -/
def setFld (cs : List Nat) (f : Str) : List Nat → W → W → Store → Option Store := fun bs x y S => match x with
  | .loc n => match S[n]? with
    | some (.ins c fs) => if c ∈ cs ∧ fs.length < 900 ∧ mayW bs n y = true then some (S.set n (.ins c (putFW f y fs))) else none
    | _ => none
  | _ => none
theorem setFld_ok {ρ : List Addr} {F N H : Hp} {S : Store} {x y : W} {vx vy : V} {P : Hp → Prop} (hc : ∀ c ∈ cs, Cls X.K (g.cls c) ∧ NoAttr X.K (g.cls c) f) (s : Sim g bs ρ F N S H) (r1 : Is g.K ρ F vx x) (r2 : Is g.K ρ F vy y)
    (p : match setFld cs f bs x y S with | some S' => ∀ H', Sim g bs ρ F N S' H' → P H' | none => False) : ∃ a C dx gs, vx = .ref a ∧ H a = some (.ins C dx gs) ∧ Cls X.K C ∧ NoAttr X.K C f ∧ gs.length < 1000 ∧ P (upd H a (.ins C dx (putF f vy gs))) := by
  unfold setFld at p
  cases x with
  | loc n =>
    cases hn : S[n]? with
    | none => simp only [hn] at p
    | some cell =>
      cases cell with
      | ins c fs =>
        simp only [hn] at p
        by_cases hq : c ∈ cs ∧ fs.length < 900 ∧ mayW bs n y = true
        · rw [if_pos hq] at p
          cases r1 with
          | loc hr =>
            obtain ⟨dx, gs, eH, rf⟩ := s.cell n _ _ hn hr
            refine ⟨_, _, dx, gs, rfl, eH, (hc c hq.1).1, (hc c hq.1).2, by rw [rf.len]; omega, p _ (s.write hn rfl hr ⟨dx, _, upd_same, rf.put r2⟩ fun b hb hlt => ?_)⟩
            have hm := hq.2.2
            unfold mayW at hm
            rw [List.all_eq_true] at hm
            have := hm b hb
            simp only [Bool.or_eq_true, decide_eq_true_eq] at this
            have hw : y.und b = true := by
              rcases this with h | h
              · omega
              · exact h
            obtain ⟨h1, h2⟩ := s.bot b hb
            have hfs := h2 n _ hlt hn
            unfold Cell.und at hfs ⊢
            rw [List.all_eq_true] at hfs ⊢
            have key : ∀ l : List (Str × W), (∀ q ∈ l, q.2.und b = true) → ∀ q ∈ putFW f y l, q.2.und b = true := by
              intro l
              induction l with
              | nil => intro _ q hq; simp [putFW] at hq; subst hq; exact hw
              | cons z l ih =>
                obtain ⟨k, v⟩ := z
                intro hl q hq
                unfold putFW at hq
                split at hq
                · rcases List.mem_cons.mp hq with e | e
                  · subst e; exact hw
                  · exact hl q (List.mem_cons_of_mem _ e)
                · rcases List.mem_cons.mp hq with e | e
                  · subst e; exact hl _ (List.mem_cons_self ..)
                  · exact ih (fun q hq => hl q (List.mem_cons_of_mem _ hq)) q e
            exact key fs hfs
        · rw [if_neg hq] at p; exact p.elim
      | lst _ => simp only [hn] at p
      | dic _ => simp only [hn] at p
      | fz _ => simp only [hn] at p
  | dat _ => exact p.elim
  | tw _ => exact p.elim
  | lw _ => exact p.elim
  | kt _ => exact p.elim
  | fn _ => exact p.elim
  | rg _ _ _ => exact p.elim
/-- o.f = e -/
def sFld (cs : List Nat) (f : Str) (mo mv : M W) : MS := fun bs env S => (mv bs env S).so env fun y S1 => (mo bs env S1).so env fun x S2 => match setFld cs f bs x y S2 with
  | some S3 => .nx env S3
  | none => .stuck
theorem rs_fld (hK : g.K = X.K) (hc : ∀ c ∈ cs, Cls X.K (g.cls c) ∧ NoAttr X.K (g.cls c) f) (ho : PE X o (rd g B mo)) (hv : PE X e (rd g B mv)) (hs : swapsWith e (some (.Attribute o f pos')) pos.line X.env = pure false := by rfl) :
    PS X (.Assign [.Attribute o f pos'] e pos) (rdS g B (sFld cs f mo mv)) := (ps_fld ho hv hs).imp fun D σ H ⟨bs, ρ, F, N, env, S, s, e, p⟩ => by
  refine ⟨bs, ρ, F, N, env, S, s, e, (PostS.out (R := RW g) e p).imp fun y H1 ⟨ρ1, F1, wy, S1, g1, s1, r1, p1⟩ => ?_⟩
  refine ⟨bs, ρ1, F1, N, env, S1, s1, e.mono g1, (PostS.out (R := RW g) (e.mono g1) p1).imp fun x H2 ⟨ρ2, F2, wx, S2, g2, s2, r2, p2⟩ => ?_⟩
  refine setFld_ok (P := fun H' => D.nx σ H') hc s2 r2 (r1.mono g2) ?_
  cases hz : setFld cs f bs wx wy S2 with
  | none => rw [hz] at p2; exact p2
  | some S3 => rw [hz] at p2; exact fun H' s3 => p2 ρ2 F2 H' σ (Grow.refl _ _) s3 ((e.mono g1).mono g2)
/-- o.m(..), o of the class c -/
def methB (c : Nat) (m : Str) (f : FnT) (ms : M (List W)) (bs : List Nat) (env : Env) (w : W) (S1 : Store) : Out W := match w with
  | .loc n => match S1[n]? with
    | some (.ins c' fs) => if c' = c ∧ fs.lookup m = none then (ms bs env S1).bind fun ws S2 => f bs (.loc n :: ws) S2 else .stuck
    | _ => .stuck
  | _ => .stuck
def mMeth (c : Nat) (m : Str) (f : FnT) (mo : M W) (ms : M (List W)) : M W := fun bs env S => (mo bs env S).bind (methB c m f ms bs env)
variable {c : Nat} {k : Nat} {fa : Addr} {fd : FuncData} {ps : List Str}
theorem meth_post {ρ : List Addr} {F N H : Hp} {S : Store} {env : Env} {σ : L2.St} {Q : VK} {v : V} {w : W} (s : Sim g bs ρ F N S H) (e : EnvR g ρ F σ env) (r : Is g.K ρ F v w)
    (p : Post g B (RW g) bs ρ F N σ Q (methB c m ff ms bs env w S)) : ∃ a dx fs, v = .ref a ∧ H a = some (.ins (g.cls c) dx fs) ∧ fs.lookup m = none ∧ ∃ n : Nat, w = .loc n ∧ Post g B (RW g) bs ρ F N σ Q ((ms bs env S).bind fun ws S2 => ff bs (.loc n :: ws) S2) := by
  unfold methB at p
  cases w with
  | loc n =>
    cases hn : S[n]? with
    | none => simp only [hn] at p; exact p.elim
    | some cell =>
      cases cell with
      | ins c' fs =>
        simp only [hn] at p
        by_cases hq : c' = c ∧ fs.lookup m = none
        · rw [if_pos hq] at p
          obtain ⟨rfl, hl⟩ := hq
          cases r with
          | loc hr =>
            obtain ⟨dx, gs, eH, rf⟩ := s.cell n _ _ hn hr
            exact ⟨_, dx, gs, rfl, eH, rf.none hl, n, rfl, p⟩
        · rw [if_neg hq] at p; exact p.elim
      | lst _ => simp only [hn] at p; exact p.elim
      | dic _ => simp only [hn] at p; exact p.elim
      | fz _ => simp only [hn] at p; exact p.elim
  | dat _ => exact p.elim
  | tw _ => exact p.elim
  | lw _ => exact p.elim
  | kt _ => exact p.elim
  | fn _ => exact p.elim
  | rg _ _ _ => exact p.elim
theorem re_meth {pl : Sem Bool} (tk : Takes X B) (c' : Cls X.K (g.cls c)) (hm : Meth X.K (g.cls c) m fa) (Fo : FnG X.prog X.w X.K X.mg X.base k fa fd ps (spF g ff)) (hr : RoomG k X.A) (hb : Binds X.K fd ps []) (ho : PE X o (rd g B mo)) (ha : PA X (e :: es) (rdA g B ms))
    (hst : starEach (e :: es) X.env = (false, eval e X.env) :: starEach es X.env := by rfl) (hpl : (backTo pos (starEach es X.env)).any (·.1) = false := by rfl)
    (ht : eval (.Call (.Attribute o m apos) (e :: es) [] pos) X.env = (do
      let ov ← eval o X.env
      standAt apos.atName
      let (f, first) ← holding [ov] (getMethod ov m pl)
      callWith pos f first (backTo pos (starEach (e :: es) X.env)) (backToKw pos (keywordEach [] X.env))) := by rfl) :
    PE X (.Call (.Attribute o m apos) (e :: es) [] pos) (rd g B (mMeth c m ff mo ms)) := (pe_methG ho c' hm Fo hr hb (passAt tk) ha hst hpl ht).imp fun σ H Q ⟨bs, ρ, F, N, env, S, s, e, p⟩ => by
  refine ⟨bs, ρ, F, N, env, S, s, e, (Post.bind (R1 := RW g) p).imp fun x H1 ⟨ρ1, F1, wx, S1, g1, s1, r1, p1⟩ => ?_⟩
  obtain ⟨a, dx, fs, ex, eH, hl, n, ew, p2⟩ := meth_post s1 (e.mono g1) r1 p1
  refine ⟨a, dx, fs, ex, eH, hl, bs, ρ1, F1, N, env, S1, s1, e.mono g1, (Post.bind (R1 := RWs g) p2).imp fun vs H2 ⟨ρ2, F2, ws, S2, g2, s2, r2, p3⟩ => ?_⟩
  refine ⟨bs, ρ2, F2, N, S2, .loc n :: ws, s2, .cons ?_ r2, ((e.mono g1).mono g2).more, post_at p3⟩
  rw [← ew]; exact r1.mono g2
/-- C(..) -/
def mMake (c : Nat) (f : FnT) (ms : M (List W)) : M W := fun bs env S => (ms bs env S).bind fun ws S1 => (f bs (.loc S1.length :: ws) (S1 ++ [.ins c []])).bind fun r S2 => match r with
  | .dat .none => .ok (.loc S1.length) S2
  | _ => .stuck
theorem make_post {ρ : List Addr} {F N H : Hp} {S : Store} {σ : L2.St} {Q : VK} {vs : List V} {ws : List W} {x dx : Addr} (s : Sim g bs ρ F N S H) (r : IsAll g.K ρ F vs ws) (mo : g.more ρ F) (hx : H x = none) (hd : H dx = none) (ne : dx ≠ x)
    (p : Post g B (RW g) bs ρ F N σ Q ((ff bs (.loc S.length :: ws) (S ++ [.ins c []])).bind fun r S2 => match r with
      | .dat .none => .ok (.loc S.length) S2
      | _ => .stuck)) : spF g ff (.ref x :: vs) (upd (upd H dx (.own x)) x (.ins (g.cls c) dx [])) (fun v H2 => v = .non ∧ Q (.ref x) H2) (WE B σ) := by
  have s1 : Sim g bs ρ F N S (upd H dx (.own x)) := s.heap (same_new hd)
  have hx1 : upd H dx (.own x) x = none := by rw [upd_ne (Ne.symm ne)]; exact hx
  obtain ⟨s2, gr⟩ := s1.newCell (c := .ins c []) (o := .ins (g.cls c) dx []) hx1 ⟨dx, [], upd_same, .nil⟩
  have hat : (ρ ++ [x])[S.length]? = some x := by rw [← s.len]; simp
  refine ⟨bs, ρ ++ [x], F, N, S ++ [.ins c []], .loc S.length :: ws, s2, .cons (.loc hat) (r.mono gr), g.stays _ _ _ _ gr mo, ?_⟩
  have p' := Post.grow gr p
  have key := (Post.bind (R1 := RW g) p').imp (Q' := fun v H2 => v = .non ∧ Q (.ref x) H2) fun v H2 ⟨ρ3, F3, w, S3, g3, s3, r3, p3⟩ => ?_
  · exact post_at key
  · cases w with
    | dat d =>
      cases d with
      | none => exact ⟨is_non r3, p3 ρ3 F3 H2 _ (Grow.refl _ _) s3 (.loc (g3.at hat))⟩
      | _ => exact p3.elim
    | loc _ => exact p3.elim
    | tw _ => exact p3.elim
    | lw _ => exact p3.elim
    | kt _ => exact p3.elim
    | fn _ => exact p3.elim
    | rg _ _ _ => exact p3.elim
theorem re_make (tk : Takes X B) (M' : Mk X.K (g.cls c) fa) (Fo : FnG X.prog X.w X.K X.mg X.base k fa fd ps (spF g ff)) (hr : RoomG (k + 1) X.A) (hg : Gl X x) (hm : X.mg x = some (.ref (g.cls c))) (hb : Binds X.K fd ps []) (ha : PA X (e :: es) (rdA g B ms))
    (hdb : (x == ("__debug__" : Str)) = false := by decide) (he : starEach (e :: es) X.env = (false, eval e X.env) :: starEach es X.env := by rfl) (hpl : (backTo pos (starEach es X.env)).any (·.1) = false := by rfl) :
    PE X (.Call (.Name x p) (e :: es) [] pos) (rd g B (mMake c ff ms)) := (pe_makeG M' Fo hr hg hm hb (passAt tk) ha hdb he hpl).imp fun σ H Q ⟨bs, ρ, F, N, env, S, s, e, p⟩ => by
  refine ⟨bs, ρ, F, N, env, S, s, e, (Post.bind (R1 := RWs g) p).imp fun vs H1 ⟨ρ1, F1, ws, S1, g1, s1, r1, p1⟩ => fun x dx hx hd ne => make_post s1 r1 (e.mono g1).more hx hd ne p1⟩
end
/-! ### defs whose cells stay: nothing is popped -/
def fnN (n p : Nat) (m : MS) : FnT := fun bs ws S => if ws.length = p then (m bs (startE n ws) S).out else .stuck
section
variable {g : Gx} {P : Program} {w : World} {K : PySem.W.Frag} {mg : Str → Option Value} {base : Heap}
theorem post_out {bs : List Nat} {ρ : List Addr} {F N : Hp} {Q : VK} {E : XK} {o : SO} (h : Post g (fun c d _ H => E c d H) (RW g) bs ρ F N [] Q o.out) :
    PostS g (fun c d _ H => E c d H) bs ρ F N { nx := fun _ H' => Q .non H', rt := Q } o := by
  cases o with
  | nx e S1 => exact fun ρ' F' H' σ' gr s _ => (show Post g (fun c d _ H => E c d H) (RW g) bs ρ F N [] Q (.ok .non S1) from h) ρ' F' H' .non gr s (.dat .non)
  | rt w S1 => exact fun ρ' F' H' v gr s r => h ρ' F' H' v gr s r
  | bk e S1 => exact h.elim
  | ct e S1 => exact h.elim
  | ex c ws e S1 => exact fun ρ' F' H' σ' d gr s _ r => h ρ' F' H' d gr s r
  | stuck => exact h.elim
theorem fn_okN {x qual : Str} {st : Stmt} {f : Addr} {fd : FuncData} {N ps : List Str} {k n p : Nat} {m : MS} (Fu : Fun K x qual st f fd) (S : FnScope N ps (defScope st))
    (hbody : ∀ (cdv : Value) (A : Around) (outer : List PySem.Env) (s : Shared) (H : Hp) (E : XK), RoomG k (A.deeper (envOfC qual (defScope st) s.heap.objs.size f cdv)) → fd.code = cdv →
      PSs (cxOf (L2.CX P w) P w K mg base N qual (defScope st) f cdv A outer s H E) (defBody st) (rdS g (fun c d _ H => E c d H) m)) (hn : N.length = n := by rfl) (hp : ps.length = p := by rfl) : FnG P w K mg base (k + 1) f fd ps (spF g (fnN n p m)) := by
  have cnt : ∀ vs H Q E, spF g (fnN n p m) vs H Q E → vs.length = ps.length := fun vs H Q E h => by
    obtain ⟨bs, ρ, F, N', S, ws, s, l, _, q⟩ := h
    unfold fnN at q
    split at q
    · rename_i hl; rw [l.len, hp]; exact hl
    · exact q.elim
  obtain ⟨oc, od, kV, doc, pm, an, cdv, ct, osl, rfl, lk, hcd⟩ := Fu.ex
  refine ⟨cnt, fun A st1 s H as us vs Q E room e0 bind vals h => ?_⟩
  have hin : K.In s.heap := e0.mod.kin.keeps fun b o z => (e0.bs b o z).1
  have lim : s.heap.NoLimit := e0.mod.nolimit.keeps fun b o z => (e0.bs b o z).1
  have kinds : ∀ y ∈ ps.zip us, (defScope st).names.lookup y.1 = some .local ∨ ((defScope st).names.lookup y.1 = some .cell ∧ ((cellsFrom (s.heap.objs.size + 1) (defScope st).names []).lookup y.1).isSome = true) := fun y hy => by
    obtain ⟨y1, y2⟩ := y
    rcases S.par y1 (List.of_mem_zip hy).1 with z | z
    · exact .inl z
    · exact .inr ⟨z, PySem.W.cellsFrom_some _ _ _ (.inl z)⟩
  refine codeAny_call_function room.rm.depth (hin _ _ lk) rfl S.co S.gen rfl (PySem.W.codeRec_of hin hcd) (bind _ _ _ _ ?_)
  refine wpAny_newFunctionEnv_cells S.kind kinds fun env1 henv s1 new => ?_
  subst henv
  refine ⟨lim.keeps new.toInCall.keep, codeAny_func ?_⟩
  have len := cnt _ _ _ _ h
  obtain ⟨bs, ρ, F, N', S', ws, sim, l, mo, q⟩ := h
  have run := hbody cdv A st1 s H E (room.deeper _) rfl
  have inv : Inv (cxOf (L2.CX P w) P w K mg base N qual (defScope st) f cdv A st1 s H E) [] (start N vs) H s1 := inv_start S room.rm.hd e0 len vals new
  unfold fnN at q
  split at q
  · have hq : rdS g (fun c d _ H => E c d H) m { nx := fun _ H' => Q .non H', rt := Q } (start N vs) H :=
      ⟨bs, ρ, F, N', startE n ws, S', sim, EnvR.start hn l mo, post_out q⟩
    refine wpAny_mono (run.run [] s1 (start N vs) H _ inv hq) (fun fl s' done => ?_) fun _ _ z => z
    cases fl with
    | ret u =>
      obtain ⟨v, σ', H', J, rel, z⟩ := done
      exact ⟨v, H', J.os, J.bare, J.base, J.hok, rel, z⟩
    | next =>
      obtain ⟨σ', H', J, z⟩ := done
      exact ⟨V.non, H', J.os, J.bare, J.base, J.hok, rfl, z⟩
    | brk => exact done.choose_spec.choose_spec.2.elim
    | cont => exact done.choose_spec.choose_spec.2.elim
  · exact q.elim
/-- a def that keeps a promise keeps every weaker one -/
theorem FnG.weaken {k : Nat} {f : Addr} {fd : FuncData} {ps : List Str} {sp sp' : Sp} (h : FnG P w K mg base k f fd ps sp) (i : ∀ vs H Q E, sp' vs H Q E → sp vs H Q E) : FnG P w K mg base k f fd ps sp' :=
  ⟨fun vs H Q E z => h.cnt vs H Q E (i _ _ _ _ z), fun A st s H as us vs Q E r e b v z => h.go A st s H as us vs Q E r e b v (i _ _ _ _ z)⟩
/-- a def of which nothing is known: none may call it -/
def fnStuck : FnT := fun _ _ _ => .stuck
end
end Rf

namespace Rf
open PySem PySem.Spec L2 PyProof.Rows

/-! ### texts sign by sign -/
def signsW (z : Str) : List W := z.cps.toList.map fun c => .str ⟨#[c]⟩
section
variable {X : Cx} {tg : Expr} {g : Gx} {B : WX} {bs : List Nat} {ρ : List Addr} {F N H : Hp} {S : Store} {a b e : Expr} {ma : M W} {ms : M (List W)} {p p' pos tpos apos cpos : Pos}
theorem it_str : ItR X tg (fun x H R => ∃ z, x = .str z ∧ R (Its z) H) := by
  intro pins s σ H x v R I rx q
  obtain ⟨z, rfl, q⟩ := q
  obtain ⟨t, rfl⟩ := rx
  cases ha : z.cps.all (· < 128)
  · exact wpAny_pyIter_wide ha (pi_one (tk := s.toks) I _ (turn_str _ z t "str_iterator" (.inr rfl)) ⟨_, Heap.get?_push_size _ rfl, rfl, rfl⟩ q)
  · exact wpAny_pyIter_ascii ha (pi_one (tk := s.toks) I _ (turn_str _ z t "str_ascii_iterator" (.inl rfl)) ⟨_, Heap.get?_push_size _ rfl, rfl, rfl⟩ q)
theorem walk_str {z : Str} : WalkOk g (Its z) ρ F (.items (signsW z)) := by
  intro bs ρ' F' N' S' H' i gr s
  show match (some (signsW z)[i]? : Option (Option W)) with
    | some (some w) => _
    | some none => _
    | none => True
  have e : (signsW z)[i]? = (z.cps[i]?).map fun c => W.str ⟨#[c]⟩ := by unfold signsW; rw [List.getElem?_map, Array.getElem?_toList]
  rw [e]
  cases hc : z.cps[i]? with
  | some c =>
    refine ⟨(Array.getElem?_eq_some_iff.mp hc).1, fun x H2 ⟨e1, c', h1, h2⟩ => ?_⟩
    subst e1 h2
    rw [hc] at h1; cases h1
    exact ⟨F', Grow.refl _ _, s, .dat (.str _)⟩
  | none => exact Array.getElem?_eq_none_iff.mp hc
def iterS (S : Store) (w : W) : Option Iter := match iterA S w with
  | some it => some it
  | none => match w with
    | .dat (.str z) => some (.items (signsW z))
    | _ => none
def mItS (m : M W) : M Iter := fun bs env S => (m bs env S).bind fun w S1 => match iterS S1 w with
  | some it => .ok it S1
  | none => .stuck
theorem iterA_ok {x : V} {w : W} {it : Iter} {R : It → Hp → Prop} (s1 : Sim g bs ρ F N S H) (r1 : Is g.K ρ F x w) (h : iterA S w = some it) (p : ∀ J, WalkOk g J ρ F it → R J H) :
    (∃ a, x = .ref a ∧ (∃ xs, SqT g.K H a xs) ∧ R (Itt g.K a) H) ∨ ∃ a, x = .ref a ∧ (∃ xs, SqL g.K H a xs) ∧ R (Itl g.K a) H := by
  unfold iterA at h
  cases hw : tupOf w with
  | some ws =>
    have e1 : iterT w = some (.items ws) := by unfold iterT; rw [hw]; rfl
    rw [e1] at h
    cases h
    obtain ⟨a, vs, rfl, q, l⟩ := tup_of r1 hw
    exact .inl ⟨a, rfl, ⟨vs, Same.sqT s1.ex q⟩, p _ (walk_tup q l)⟩
  | none =>
    have e1 : iterT w = none := by unfold iterT; rw [hw]; rfl
    rw [e1] at h
    right
    unfold iterL at h
    cases w with
    | dat d =>
      cases d <;> try cases h
      cases r1 with
      | dat r => cases r with
        | lst q r => exact ⟨_, rfl, ⟨_, SqL.of (s1.ex _ _ q)⟩, p _ (walk_lst (SqL.of q) r.isAll)⟩
    | lw ws => cases h; cases r1 with
      | lw q r => exact ⟨_, rfl, ⟨_, s1.ex.seq q⟩, p _ (walk_lst q r)⟩
    | tw ws => cases h
    | kt ws => cases h
    | fn ws => cases h
    | rg x y z => cases h
    | loc n =>
      cases hc : S[n]? with
      | none => simp only [hc] at h; cases h
      | some c =>
        cases c with
        | lst ws =>
          simp only [hc] at h
          cases h
          cases r1 with
          | loc hn =>
            obtain ⟨vs, e, l⟩ := s1.cell n _ _ hc hn
            exact ⟨_, rfl, ⟨vs, SqL.of e⟩, p _ (walk_cell hn)⟩
        | dic _ => simp only [hc] at h; cases h
        | ins _ _ => simp only [hc] at h; cases h
        | fz _ => simp only [hc] at h; cases h
/-- a tuple, a list or a text -/
theorem ri_all (hK : g.K = X.K) (h : PE X a (rd g B ma)) : PI X tg a (rdI g B (mItS ma)) := (pi_it ((it_tup.or it_list).or it_str) h).imp fun σ H R ⟨bs, ρ, F, N, env, S, s, e, p⟩ => by
  refine ⟨bs, ρ, F, N, env, S, s, e, (Post.iter (R := RW g) p).imp fun x H1 ⟨ρ1, F1, wx, S1, g1, s1, r1, p1⟩ => ?_⟩
  rw [← hK]
  unfold iterS at p1
  cases hi : iterA S1 wx with
  | some it =>
    rw [hi] at p1
    exact .inl (iterA_ok s1 r1 hi fun J w => p1 ρ1 F1 H1 J (Grow.refl _ _) s1 w)
  | none =>
    rw [hi] at p1
    right
    cases wx with
    | dat d =>
      cases d with
      | str z =>
        obtain rfl := is_str r1
        exact ⟨z, rfl, p1 ρ1 F1 H1 _ (Grow.refl _ _) s1 walk_str⟩
      | _ => exact p1.elim
    | loc n => exact p1.elim
    | tw ws => exact p1.elim
    | lw ws => exact p1.elim
    | kt ws => exact p1.elim
    | fn ws => exact p1.elim
    | rg x y z => exact p1.elim
/-! ### what the module's top holds -/
def mConW (w : W) : M W := fun _ _ S => .ok w S
/-- a module's name holds a value that is told -/
def GlobW (K : PySem.W.Frag) (mg : Str → Option Value) (x : Str) (w : W) : Prop := ∃ v u, mg x = some u ∧ RelV v u ∧ ∀ ρ F, Is K ρ F v w
/-- t.index(z), t a tuple of texts of the module's own -/
def mConIx (ys : List Str) (ms : M (List W)) : M W := fun bs env S => (ms bs env S).bind fun ws S1 => match ws with
  | [.dat (.str z)] => match ys.findIdx? (fun y => y == z) with
    | some j => .ok (.int (j : Nat)) S1
    | none => .stuck
  | _ => .stuck
def OwnT (K : PySem.W.Frag) (mg : Str → Option Value) (x : Str) (ys : List Str) : Prop := ∃ (a : Addr) (o : Obj) (its : Array Value) (n : Nat), mg x = some (.ref a) ∧ K.lookup a = some o ∧ o.cls = .type "tuple" ∧ o.dict = none ∧ o.data = .seq its n ∧ its.size ≤ sizeLine ∧ Vals (ys.map V.str) its.toList
end
end Rf

namespace Rf
open PySem PySem.Spec L2 PyProof.Rows

/-! ### x op= e -/
section
variable {X : Cx} {g : Gx} {B : WX} {bs : List Nat} {a b c e o : Expr} {ma mb mo mv : M W} {pos pos' tpos : Pos} {f : Str} {cs : List Nat} {op2 : Op2}
def addIF : Op2 := intF fun i j => some (i + j)
/-- o.f op= e -/
def fldOf (cs : List Nat) (f : Str) (S : Store) : W → Option W
  | .loc n => match S[n]? with
    | some (.ins c fs) => if c ∈ cs then fs.lookup f else none
    | _ => none
  | _ => none
def fldA (cs : List Nat) (f : Str) (op : Op2) (mv : M W) (bs : List Nat) (env : Env) (x : W) (S1 : Store) : SO := match fldOf cs f S1 x with
  | some u => (mv bs env S1).so env fun y S2 => match op bs u y S2 with
    | some (z, S3) => match setFld cs f bs x z S3 with
      | some S4 => .nx env S4
      | none => .stuck
    | none => .stuck
  | none => .stuck
def sFldA (cs : List Nat) (f : Str) (op : Op2) (mo mv : M W) : MS := fun bs env S => (mo bs env S).so env (fldA cs f op mv bs env)
end
end Rf

namespace Rf
open PySem PySem.Spec L2 PyProof.Rows

/-! ### max(..) of a list or a tuple of whole numbers -/
def maxTF : Store → W → Option W := fun S w => match (seqOf S w).bind intsW with
  | some ns => (ns.max?).map .int
  | none => none
theorem ints_reads {h : Heap} : ∀ {us : List Value} {ns : List Int}, IntsAre us ns → ReadsAll h us (ns.map PyData.int) []
  | _, _, .nil => .nil
  | _, _, .cons n tk t => .cons (as := []) (.int _ _) (ints_reads t)
theorem ints_depth : ∀ ns : List Int, PyData.depthAll (ns.map PyData.int) = 0
  | [] => rfl
  | n :: ns => by
    show max (PyData.depth (.int n)) (PyData.depthAll (ns.map PyData.int)) = 0
    rw [ints_depth ns]; rfl
theorem rc_maxT {X : Cx} {g : Gx} (hK : g.K = X.K) (hc : X.calm = true) (hu : X.A.units + 100 < cLine) : CallR X (.builtin "max") (rdN g (un maxTF)) := by
  intro pins s σ H xs us Q I r ⟨bs, ρ, F, N, S, ws, s1, r1, p⟩
  unfold un at p
  split at p
  · obtain ⟨v, rfl, r2⟩ := all_one r1
    unfold maxTF at p
    split at p
    · rename_i ns h1
      obtain ⟨zs, h2, h3⟩ := Option.bind_eq_some_iff.mp h1
      obtain ⟨a, vs, rfl, q1, l1⟩ := seq_of s1 r2 h2
      rw [hK, ints_is l1 h3] at q1
      cases h4 : ns.max? with
      | none => rw [h4] at p; exact p.elim
      | some m =>
        rw [h4] at p
        rcases q1 with q1 | q1
        · refine cr_max hc pins s σ H _ us Q I r ⟨a, ns, rfl, q1, ?_, fun m' hm' hy => ?_⟩
          · cases ns with
            | nil => cases h4
            | cons => simp
          · have : ns.max? = some m' := List.max?_eq_some_iff.mpr ⟨hm', hy⟩
            rw [this] at h4; cases h4
            exact p ρ F H _ (Grow.refl _ _) s1 (.dat (.int _))
        · obtain ⟨its, rv, hl, _⟩ := I.tuple q1
          rw [Vals.ref1 r]
          cases ns with
          | nil => cases h4
          | cons n ns =>
            have rd := ints_reads (h := s.heap) rv.ints
            have dp := ints_depth (n :: ns)
            refine PySem.W.max_tuple_data (x := .int n) (xs := ns.map .int) (as := []) (I.ok.hd hc) hl rd ⟨fun x hx y hy => ?_, fun x hx => ?_⟩ (by rw [← List.map_cons (f := PyData.int), dp]; omega) fun i v h' tk bs' hv rd' hk => ?_
            · obtain ⟨i, _, rfl⟩ := List.mem_map.mp (show x ∈ (n :: ns).map PyData.int from hx)
              obtain ⟨j, _, rfl⟩ := List.mem_map.mp (show y ∈ (n :: ns).map PyData.int from hy)
              rfl
            · obtain ⟨i, _, rfl⟩ := List.mem_map.mp (show x ∈ (n :: ns).map PyData.int from hx)
              exact fun z => (nomatch z)
            · rw [PySem.W.maxD_ints] at rd'
              have e : m = ns.foldl max n := by simpa [List.max?] using h4.symm
              rw [← e] at rd'
              cases rd' with
              | int _ t => exact ⟨.int m, H, I.kept hk, ⟨_, rfl⟩, p ρ F H _ (Grow.refl _ _) s1 (.dat (.int _))⟩
    · exact p.elim
  · exact p.elim
end Rf

namespace Rf
open PySem PySem.Spec L2 PyProof.Rows

/-! ### list(range(..)), tuple(range(..)) -/
def rgOk (i j : Int) : Bool := decide (-1000000 ≤ i) && decide (i ≤ 1000000) && decide (-1000000 ≤ j) && decide (j ≤ 1000000)
def rgLF (k : Bool) : Op2 := fun _ x y S => match x, y with
  | .dat (.int i), .dat (.int j) => if rgOk i j = true then some (newL k (rangeW i j) S) else none
  | _, _ => none
def rgTF : Op2 := fun _ x y S => match x, y with
  | .dat (.int i), .dat (.int j) => if rgOk i j = true then some (mkTup (rangeW i j), S) else none
  | _, _ => none
section
variable {X : Cx} {g : Gx} {B : WX} {a b : Expr} {ma mb : M W} {pos p q pos' : Pos}
end
end Rf

namespace Rf
open PySem PySem.Spec L2 PyProof.Rows

/-! ### raise X("..") of an own error that keeps nothing -/
def sRaise (c : Nat) : MS := fun _ env S => .ex c [] env S
section
variable {X : Cx} {g : Gx} {B : WX}
theorem rs_raiseT {c : Nat} {x m : Str} {j : Nat} {p p2 pos pos' : Pos} {bmB : List Value} {Bn newId initId : String} (hc : X.calm = true) (tk : Takes X B) (F : ExcBaseFacts Bn newId initId bmB) (q : PySem.W.excIn X.K (g.cls c) bmB newId = true) (gC : X.mg x = some (.ref (g.cls c)))
    (kC : PySem.W.keepIn X.K (.ref (g.cls c)) = true) (r : Raises X (.ref (g.cls c))) (hg : Gl X x) (hdb : (x == ("__debug__" : Str)) = false := by decide) : PS X (.Raise (some (.Call (.Name x p) [.Constant (.str m) j p2] [] pos)) none pos') (rdS g B (sRaise c)) :=
  (ps_raise hc tk (pmk_own F q gC kC r hg hdb)).imp fun D σ H ⟨bs, ρ, Fr, N, env, S, s, e, pp⟩ => pp ρ Fr H σ none (Grow.refl _ _) s e rfl
end
end Rf

namespace PySem
namespace RfX
open PySem.W PyProof.Rows PySem.HandSPX Builtin Builtin.ObjectAttr

/-! ### self.f = v on a fresh exception of any base: the three things that are asked of the class's line of classes -/
structure MroOk (l : List Value) : Prop where
  ne : l.isEmpty = false
  obj : l.contains (.type "object") = true
  pass : ∀ self : Value, refuseLoop self "__setattr__" l = pure ()
section
variable {p : Program} {wd : World} {Ar : Around} {Rs : Result → Shared → Prop} {hp : Heap} {ge : Array GenState} {dr : Drawn} {tt : Nat} {o2 : OsState} {K : W.Frag} {f : Str} {tok : Tok} {val : Value} {at_ C : Addr} {fs : Array Value} {cl : ClassData}
end
end RfX
end PySem
namespace Rf
open PySem PySem.Spec L2 PyProof.Rows
/-! ### raise X(e), X an own error that keeps one value -/
def sRaise1 (c : Nat) (ms : M (List W)) : MS := fun bs env S => (ms bs env S).so env fun ws S1 => match ws with
  | [w] => .ex c [w] env S1
  | _ => .stuck
end Rf

namespace PySem
namespace RfX
open PySem.F Builtin.ObjectAttr Builtin
/-! ### the built-in lines of classes that own errors stand on -/
abbrev valueLine : List Value := [.type "ValueError", .type "Exception", .type "BaseException", .type "object"]
abbrev indexLine : List Value := [.type "IndexError", .type "LookupError", .type "Exception", .type "BaseException", .type "object"]
abbrev overLine : List Value := [.type "OverflowError", .type "ArithmeticError", .type "Exception", .type "BaseException", .type "object"]
abbrev arithLine : List Value := [.type "ArithmeticError", .type "Exception", .type "BaseException", .type "object"]
end RfX
end PySem

namespace Rf
open PySem PySem.Spec L2 PyProof.Rows

/-! ### list(..) of a list, a tuple, a dict (its keys: numbers and texts) -/
def listDF (k : Bool) : OpN := fun bs ws S => match listF k bs ws S with
  | some r => some r
  | none => match ws with
    | [w] => match dicOf S w with
      | some us => if dicRdy S w us (.one (.inl 0)) = true then some (newL k (us.map fun p => .dat p.1) S) else none
      | none => none
    | _ => none
end Rf

namespace Rf
open PySem PySem.Spec L2 PyProof.Rows

/-! ### try with clauses, some of which name the exception -/
abbrev Clause := Value × Option Nat × (Addr → Value → Option Addr → TS)
/-- the name of a clause goes behind its suite -/
def backOf (i : Option Nat) (D : Ends) : Ends := match i with
  | none => D
  | some i => { nx := fun τ J => D.nx (τ.set i none) J, rt := D.rt, bk := fun τ J => D.bk (τ.set i none) J, ct := fun τ J => D.ct (τ.set i none) J }
def putOf (i : Option Nat) (ea : Addr) (τ : L2.St) : L2.St := match i with
  | none => τ
  | some i => τ.set i (some (.ref ea))
def wMix (K : PySem.W.Frag) (out : WX) (D : Ends) : List Clause → WX
  | [] => out
  | (c, i, ts) :: r => fun cls d τ J => ∃ b, PySem.W.exmOne K cls c = some b ∧ (b = true → ∀ ea, J ea = none → ts ea cls d (backOf i D) (putOf i ea τ) J) ∧ (b = false → wMix K out D r cls d τ J)
abbrev SuiteOk (X : Cx) (suite : List Stmt) (ts : Addr → Value → Option Addr → TS) : Prop :=
  ∀ (ea : Addr) (eo : Obj) (cls : Value) (d : Option Addr) (pq : List (Addr × Obj)), Zc cls d eo → (∃ us, eo.data = .fields us) → PSs (X.suite ea ((ea, eo) :: pq)) suite (ts ea cls d)
inductive Clauses (X : Cx) : List ExceptHandler → List Clause → Prop
  | nil : Clauses X [] []
  | bare {x : Str} {c : Value} {ts : Addr → Value → Option Addr → TS} {st : Stmt} {more : List Stmt} {np hp : Pos} {hds : List ExceptHandler} {l : List Clause} (hc : Names X x c) (ok : SuiteOk X (st :: more) ts) (r : Clauses X hds l) :
      Clauses X (.ExceptHandler (some (.Name x np)) none (st :: more) hp :: hds) ((c, none, ts) :: l)
  | named {x n : Str} {i : Nat} {c : Value} {ts : Addr → Value → Option Addr → TS} {st : Stmt} {more : List Stmt} {np hp : Pos} {hds : List ExceptHandler} {l : List Clause} (hc : Names X x c) (hi : X.N[i]? = some n) (hl : X.env.kindOf n = some .local)
      (ok : SuiteOk X (st :: more) ts) (r : Clauses X hds l) : Clauses X (.ExceptHandler (some (.Name x np)) (some n) (st :: more) hp :: hds) ((c, some i, ts) :: l)
section
variable {X : Cx} {body : List Stmt} {hd : ExceptHandler} {hds : List ExceptHandler} {l : List Clause} {pos : Pos} {tb : WX → TS} {out : WX}
end
end Rf

namespace Rf
open PySem PySem.Spec L2 PyProof.Rows

/-! ### try: its reading -/
structure Hd where
  c : Nat
  i : Option Nat
  m : List W → MS
def clrO (i : Option Nat) (env : Env) : Env := match i with
  | none => env
  | some i => env.set i none
def SO.unAs (i : Option Nat) : SO → SO
  | .nx e S => .nx (clrO i e) S
  | .rt w S => .rt w S
  | .bk e S => .bk (clrO i e) S
  | .ct e S => .ct (clrO i e) S
  | _ => .stuck
def sSuite (h : Hd) (ws : List W) : MS := fun bs env S => (h.m ws bs (clrO h.i env) S).unAs h.i
def sTry (b : MS) (errs : List Nat) (cat : Nat → Nat → Bool) (hs : List Hd) : MS := fun bs env S => match b bs env S with
  | .ex c ws e S1 => if c ∈ errs then (match hs.find? fun h => cat c h.c with
      | some h => sSuite h ws bs e S1
      | none => .ex c ws e S1) else .stuck
  | o => o
/-- what the exception keeps -/
def Kept (g : Gx) (k : Nat) (ws : List W) (d : Option Addr) : List Addr → Hp → Prop := fun ρ F => match ws with
  | [] => True
  | w :: _ => ∃ a x, d = some a ∧ F a = some (.xd [(g.fld k, x)]) ∧ Is g.K ρ F x w
theorem kept_stays (g : Gx) (k : Nat) (ws : List W) (d : Option Addr) : Stays (Kept g k ws d) := fun ρ F ρ' F' gr h => by
  cases ws with
  | nil => trivial
  | cons w ws => obtain ⟨a, x, h1, h2, h3⟩ := h; exact ⟨a, x, h1, gr.ex _ _ h2, h3.mono gr⟩
abbrev gK (g : Gx) (k : Nat) (ws : List W) (d : Option Addr) : Gx := g.pin (Kept g k ws d) (kept_stays g k ws d)
/-- where a clause has named the exception -/
def slotOf (i : Option Nat) (ea : Addr) : L2.St → Prop := fun τ => match i with
  | none => True
  | some i => i < τ.length → τ[i]? = some (some (.ref ea))
/-- readings under a condition of the slots -/
abbrev rdGC {α β : Type} (C : L2.St → Prop) (g : Gx) (B : WX) (R : List Addr → Hp → β → α → Prop) (m : M α) : L2.St → Hp → (β → Hp → Prop) → Prop := fun τ J Q => C τ ∧ rdG g B R m τ J Q
abbrev rdC (C : L2.St → Prop) (g : Gx) (B : WX) (m : M W) : TE := rdGC C g B (RW g) m
abbrev rdAC (C : L2.St → Prop) (g : Gx) (B : WX) (m : M (List W)) : TA := rdGC C g B (RWs g) m
abbrev rdSC (C : L2.St → Prop) (g : Gx) (B : WX) (m : MS) : TS := fun D τ J => C τ ∧ rdS g B m D τ J
section
variable {g : Gx} {bs : List Nat} {ρ ρ1 : List Addr} {F F1 N H : Hp} {S : Store} {σ : L2.St} {env : Env} {P : List Addr → Hp → Prop} {hP : Stays P}
end
section
variable {X : Cx} {g : Gx} {B : WX} {body : List Stmt} {hd : ExceptHandler} {hds : List ExceptHandler} {pos : Pos} {errs : List Nat} {cat : Nat → Nat → Bool}
def tsOf (g : Gx) (errs : List Nat) (cat : Nat → Nat → Bool) (h : Hd) : Addr → Value → Option Addr → TS := fun ea cls d D τ J => ∃ k : Nat, ∃ ws : List W, (cat k h.c = true ∧ k ∈ errs ∧ cls = .ref (g.cls k)) ∧ rdSC (slotOf h.i ea) (gK g k ws d) (fun _ _ _ _ => False) (h.m ws) D τ J
def clOf (g : Gx) (errs : List Nat) (cat : Nat → Nat → Bool) (h : Hd) : Clause := (.ref (g.cls h.c), h.i, tsOf g errs cat h)
abbrev SuiteR (X : Cx) (g : Gx) (errs : List Nat) (cat : Nat → Nat → Bool) (c : Nat) (i : Option Nat) (m : List W → MS) (suite : List Stmt) : Prop :=
  ∀ (k : Nat) (ws : List W) (d : Option Addr) (ea : Addr) (eo : Obj) (pq : List (Addr × Obj)), cat k c = true → k ∈ errs → Zc (.ref (g.cls k)) d eo → (∃ us, eo.data = .fields us) → PSs (X.suite ea ((ea, eo) :: pq)) suite (rdSC (slotOf i ea) (gK g k ws d) (fun _ _ _ _ => False) (m ws))
inductive HdsR (X : Cx) (g : Gx) (errs : List Nat) (cat : Nat → Nat → Bool) : List ExceptHandler → List Hd → Prop
  | nil : HdsR X g errs cat [] []
  | bare {x : Str} {c : Nat} {m : List W → MS} {st : Stmt} {more : List Stmt} {np hp : Pos} {hds : List ExceptHandler} {l : List Hd} (hc : Names X x (.ref (g.cls c))) (hx : ∀ k ∈ errs, PySem.W.exmOne X.K (.ref (g.cls k)) (.ref (g.cls c)) = some (cat k c))
      (ok : SuiteR X g errs cat c none m (st :: more)) (r : HdsR X g errs cat hds l) : HdsR X g errs cat (.ExceptHandler (some (.Name x np)) none (st :: more) hp :: hds) (⟨c, none, m⟩ :: l)
  | named {x n : Str} {i : Nat} {c : Nat} {m : List W → MS} {st : Stmt} {more : List Stmt} {np hp : Pos} {hds : List ExceptHandler} {l : List Hd} (hi : X.N[i]? = some n) (hl : X.env.kindOf n = some .local) (hc : Names X x (.ref (g.cls c)))
      (hx : ∀ k ∈ errs, PySem.W.exmOne X.K (.ref (g.cls k)) (.ref (g.cls c)) = some (cat k c)) (ok : SuiteR X g errs cat c (some i) m (st :: more)) (r : HdsR X g errs cat hds l) : HdsR X g errs cat (.ExceptHandler (some (.Name x np)) (some n) (st :: more) hp :: hds) (⟨c, some i, m⟩ :: l)
end
/-! ### in a suite: the exception's field -/
section
variable {X : Cx} {g : Gx} {B : WX} {C : L2.St → Prop} {a b e : Expr} {es : List Expr} {ma mb : M W} {ms : M (List W)} {pos : Pos} {f : Op2} {st : List Stmt} {m : MS}
def mKept (ws : List W) : M W := fun _ _ S => match ws with
  | w :: _ => .ok w S
  | [] => .stuck
end
end Rf

namespace Rf
open PySem PySem.Spec L2 PyProof.Rows LamX

/-! ### a lambda without parameters, handed to a def that calls it -/
abbrev Lam := List Nat → Store → Out W
def mThunk (lam : Lam) : M W := fun bs _ S => lam bs S
def mLam (F : Lam → Lam) (m : M W) : M W := fun bs env S => F (fun bs' S' => m bs' env S') bs S
/-- a def of n names that gets a lambda -/
def fnL (n : Nat) (m : Lam → MS) : Lam → Lam := fun lam bs S => popR S.length (m lam (S.length :: bs) (List.replicate n none) S).out
def LamP (g : Gx) (σ : L2.St) (env : Env) (co : Addr) (q : Str) : List Addr → Hp → Prop := fun ρ F => EnvR g ρ F σ env ∧ F co = some (CodeO co q)
theorem lam_stays (g : Gx) (σ : L2.St) (env : Env) (co : Addr) (q : Str) : Stays (LamP g σ env co q) := fun ρ F ρ' F' gr h => ⟨h.1.mono gr, gr.ex _ _ h.2⟩
abbrev gL (g : Gx) (σ : L2.St) (env : Env) (co : Addr) (q : Str) : Gx := g.pin (LamP g σ env co q) (lam_stays g σ env co q)
abbrev slot0 (fv : Addr) : L2.St → Prop := fun τ => τ[0]? = some (some (.ref fv))
/-- what is handed may be called -/
def ActOk (X : Cx) (g : Gx) (fv : Addr) (a : Str) (lam : Lam) : Prop :=
  ∀ (W' : WX) (pq : List (Addr × Obj)) (xe : Value → Shared → Prop) (p1 p2 : Pos), Takes (X.tr pq xe) W' → PE (X.tr pq xe) (.Call (.Name a p1) [] [] p2) (rdC (slot0 fv) g W' (mThunk lam))
section
variable {g : Gx} {bs : List Nat} {ρ : List Addr} {F N H H' : Hp} {S : Store} {P : List Addr → Hp → Prop} {hP : Stays P}
end
section
variable {X : Cx} {g : Gx} {pins : List (Addr × Obj)} {σ : L2.St} {H : Hp} {s : Shared} {env : Env}
end
end Rf

namespace Rf
open PySem PySem.Spec L2 PyProof.Rows LamX

/-! ### the end, where lambdas are made: the tables of the defs' code objects lie there, empty -/
section
variable {P : Program} {w : World} {K : PySem.W.Frag} {mg mb : Str → Option Value} {k : Nat} {fa a : Addr} {fd : FuncData} {x : Str} {sp : Sp} {top : Shared} {vs : List Value} {ns : List Int} {cs : List (Addr × Addr)}
abbrev tabO : Obj := { cls := .none, data := .fields #[] }
structure TabsThere (K : PySem.W.Frag) (h : Heap) (cs : List (Addr × Addr)) : Prop where
  empty : ∀ p ∈ cs, h.get? p.2 = some tabO
  own : ∀ p ∈ cs, K.lookup p.2 = none
  head : ∀ p ∈ cs, PySem.W.CodeHd h p.1 p.2
theorem end_coreT (tt : TabsThere K top.heap cs) (H : Hp) (laid : ∀ p ∈ cs, H p.2 = some (.tbl #[])) (only : ∀ b, H b = none ∨ b ∈ cs.map (·.2) ∨ ∃ o xs, H b = some (.frz o (.lst xs))) (sq : SqL K H a (ns.map V.int)) (ok : HOk P w H top.heap)
    (one : ∀ b, H b ≠ none → b = a ∨ b ∈ cs.map (·.2)) (apart : a ∉ cs.map (·.2) → H a ≠ none → K.lookup a = none)
    (KX : K.In top.heap) (hns : top.heap.Ns mainGlobals mg) (hb : top.heap.Ns builtinsNs mb) (boot : ∀ x : Str, x ≠ "__name__" → mb x = bootBuiltins x) (lim : top.heap.NoLimit) (gens : top.gens = #[])
    (bmain : ∃ (bm : Addr) (ob : Obj), mg "__builtins__" = some (.ref bm) ∧ bm ≠ builtinsNs ∧ top.heap.get? bm = some ob ∧ ob.cls = .type "module" ∧ ob.dict = some builtinsNs ∧ ob.data = .plain)
    (lies : top.heap.get? a = some { cls := .type "list", data := .seq vs.toArray }) (room : Room k callerA)
    (F : ∀ base : Heap, K.In base → base.Ns mainGlobals mg → (∀ p ∈ cs, TabB base mg p.1 p.2) → FnG P w K mg base k fa fd [x] sp) (bind : ∀ (s : Shared) (u : Value), BindsTo s fd ⟨[u], []⟩ [(x, u)])
    (promise : sp [.ref a] H (fun v _ => v = .bl true) fun _ _ _ => False) :
    codeAny (model P w) callerA (.call (.ref fa) ⟨[.ref a], []⟩) (Held top) top := by
  have isTab : ∀ {b : Addr}, b ∈ cs.map (·.2) → top.heap.get? b = some tabO := by
    intro b hm
    obtain ⟨p, hp, rfl⟩ := List.mem_map.mp hm
    exact tt.empty p hp
  have noTab : a ∉ cs.map (·.2) := fun z => by
    have q := isTab z
    rw [lies] at q
    exact nomatch (show Data.seq vs.toArray _ = Data.fields #[] from congrArg Obj.data (Option.some.inj q))
  have seen : ∀ {b : Addr} {o : Obj}, top.heap.get? b = some o → H b = none → (hidT top.heap H).get? b = some o := fun e z => hidT_get e z
  have apartO : ∀ {b : Addr} {o : Obj}, top.heap.get? b = some o → (∀ us n, o.data ≠ .seq us n) → o.data ≠ .fields #[] → H b = none := by
    intro b o e n1 n2
    cases z : H b with
    | none => rfl
    | some u =>
      rcases one b (by rw [z]; simp) with rfl | hm
      · rw [lies] at e; cases e; exact (n1 _ _ rfl).elim
      · rw [isTab hm] at e; cases e; exact (n2 rfl).elim
  have apartD : ∀ {b : Addr} {o : Obj} {es : Array DictEntry} {ep : Nat}, top.heap.get? b = some o → o.data = .dict es ep → H b = none := fun e d => apartO e (fun _ _ z => by rw [d] at z; cases z) fun z => by rw [d] at z; cases z
  have names : ∀ {b : Addr} {m : Str → Option Value}, top.heap.Ns b m → (hidT top.heap H).Ns b m := fun q =>
    let ⟨o, es, ep, e, d, r⟩ := q
    ⟨o, es, ep, seen e (apartD e d), d, r⟩
  have KB : K.In (hidT top.heap H) := by
    intro b o e
    refine seen (KX b o e) ?_
    cases z : H b with
    | none => rfl
    | some u =>
      rcases one b (by rw [z]; simp) with rfl | hm
      · rw [apart noTab (by rw [z]; simp)] at e; cases e
      · obtain ⟨p, hp, rfl⟩ := List.mem_map.mp hm
        rw [tt.own p hp] at e; cases e
  obtain ⟨mc, l1, l2⟩ := lim
  have modul : Mod K mg (hidT top.heap H) := ⟨KB, names hns, ⟨mb, names hb, boot⟩, ⟨mc, names l1, l2⟩⟩
  have tables : ∀ p ∈ cs, TabB (hidT top.heap H) mg p.1 p.2 := by
    intro p hp
    have ep := tt.empty p hp
    refine ⟨?_, ?_, fun z => ?_⟩
    · obtain ⟨o, us, file, tf, flags, tg, inF, text, t9, e1, r1, r2, r3, r⟩ := tt.head p hp
      exact ⟨o, us, file, tf, flags, tg, inF, text, t9, seen e1 (apartO e1 (fun _ _ z => by rw [r2] at z; cases z) fun z => by rw [r2] at z; cases z; simp at r3), r1, r2, r3, r⟩
    · obtain ⟨bm, ob, b1, b2, b3, b4, b5, b6⟩ := bmain
      refine ⟨bm, ob, b1, b2, fun q => ?_, fun q => ?_, seen b3 (apartO b3 (fun _ _ z => by rw [b6] at z; cases z) fun z => by rw [b6] at z; cases z), b4, b5, b6⟩
      · obtain ⟨o, es, e9, e, d, _⟩ := hns
        rw [q, e] at b3; cases b3; rw [d] at b6; cases b6
      · rw [q, ep] at b3; cases b3; cases b6
    · obtain ⟨o, es, e9, e, d, _⟩ := hns
      rw [z, ep] at e; cases e; cases d
  have noFrame : ∀ b, b ∈ ([] : List Addr) → False := fun b q => nomatch q
  have e0 : Env0 P w K mg (hidT top.heap H) callerA [] top H := ⟨rfl, modul, fun b o e => of_hidT e, Nat.le_of_eq (hidT_size _ _), trivial, fun b q => (noFrame b q).elim, ok, .of_eq gens⟩
  have ran := (F _ KB (names hns) tables).go callerA [] top H ⟨[.ref a], []⟩ [.ref a] [.ref a] _ _ (room_top k room) e0 (bind top (.ref a)) (.cons rfl .nil) promise
  refine codeAny_mono ran fun r t done => ?_
  cases r with
  | error e =>
    obtain ⟨_, _, _, _, _, _, _, _, _, _, _, _, _, z⟩ := done
  | ok fl =>
    cases fl with
    | next => exact done.elim
    | brk => exact done.elim
    | cont => exact done.elim
    | ret u =>
      obtain ⟨v, H', os, bare, kept, ok', rel, rfl⟩ := done
      obtain rfl : u = Value.bool true := rel
      have same : ∀ b o, b ∉ cs.map (·.2) → top.heap.get? b = some o → t.heap.get? b = some o := by
        intro b o nb e
        rcases only b with z | z | ⟨ob, xs, z⟩
        · exact kept.keep b o e z (fun q => noFrame b q) (by simp)
        · exact absurd z nb
        · obtain ⟨e1, _⟩ := ok b _ z
          obtain ⟨e2, _⟩ := ok' b _ (kept.frzs b ob _ z)
          rw [e] at e1; cases e1
          exact e2
      have grown : ∀ p ∈ cs, ∃ more : Array Value, t.heap.get? p.2 = some { cls := .none, data := .fields more } := by
        intro p hp
        obtain ⟨more, z⟩ := kept.tbls p.2 #[] (laid p hp)
        exact ⟨_, ok' p.2 _ z⟩
      refine ⟨rfl, ⟨fun b o e => ?_, fun b o e => ?_⟩, os, bare⟩
      · by_cases hm : b ∈ cs.map (·.2)
        · obtain ⟨p, hp, rfl⟩ := List.mem_map.mp hm
          obtain ⟨more, g⟩ := grown p hp
          rw [tt.empty p hp] at e
          cases e
          exact .inr (.inl ⟨((tt.head p hp).tab (tt.empty p hp)).isCodeTable, rfl, #[], more, rfl, by rw [Array.empty_append]; exact g⟩)
        · exact .inl (same b o hm e)
      · by_cases hm : b ∈ cs.map (·.2)
        · obtain ⟨p, hp, rfl⟩ := List.mem_map.mp hm
          obtain ⟨more, g⟩ := grown p hp
          exact ⟨_, g⟩
        · exact ⟨o, same b o hm e⟩
theorem law_endT (tt : TabsThere K top.heap cs) (KX : K.In top.heap) (hns : top.heap.Ns mainGlobals mg) (hb : top.heap.Ns builtinsNs mb) (boot : ∀ x : Str, x ≠ "__name__" → mb x = bootBuiltins x) (lim : top.heap.NoLimit) (gens : top.gens = #[])
    (bmain : ∃ (bm : Addr) (ob : Obj), mg "__builtins__" = some (.ref bm) ∧ bm ≠ builtinsNs ∧ top.heap.get? bm = some ob ∧ ob.cls = .type "module" ∧ ob.dict = some builtinsNs ∧ ob.data = .plain)
    (lies : top.heap.get? a = some { cls := .type "list", data := .seq vs.toArray }) (nums : IntsAre vs ns) (many : ns.length ≤ sizeLine) (room : Room k callerA)
    (F : ∀ base : Heap, K.In base → base.Ns mainGlobals mg → (∀ p ∈ cs, TabB base mg p.1 p.2) → FnG P w K mg base k fa fd [x] sp) (bind : ∀ (s : Shared) (u : Value), BindsTo s fd ⟨[u], []⟩ [(x, u)])
    (promise : ∀ H : Hp, (∀ p ∈ cs, H p.2 = some (.tbl #[])) → SqL K H a (ns.map V.int) → sp [.ref a] H (fun v _ => v = .bl true) fun _ _ _ => False) :
    codeAny (model P w) callerA (.call (.ref fa) ⟨[.ref a], []⟩) (Held top) top := by
  have rv := vals_ints nums
  have lv := nums.length
  have isTab : ∀ {b : Addr}, b ∈ cs.map (·.2) → top.heap.get? b = some tabO := by
    intro b hm
    obtain ⟨p, hp, rfl⟩ := List.mem_map.mp hm
    exact tt.empty p hp
  have noTab : a ∉ cs.map (·.2) := fun z => by
    have q := isTab z
    rw [lies] at q
    exact nomatch (show Data.seq vs.toArray _ = Data.fields #[] from congrArg Obj.data (Option.some.inj q))
  have memT : ∀ p ∈ cs, p.2 ∈ cs.map (·.2) := fun p hp => List.mem_map.mpr ⟨p, hp, rfl⟩
  cases own : K.lookup a with
  | some o =>
    have e := KX a o own
    rw [lies] at e
    cases e
    let H : Hp := fun b => if b ∈ cs.map (·.2) then some (.tbl #[]) else none
    have atT : ∀ {b}, b ∈ cs.map (·.2) → H b = some (.tbl #[]) := fun z => if_pos z
    have off : ∀ {b}, b ∉ cs.map (·.2) → H b = none := fun z => if_neg z
    have laid : ∀ p ∈ cs, H p.2 = some (.tbl #[]) := fun p hp => atT (memT p hp)
    have sq : SqL K H a (ns.map V.int) := .inr ⟨_, vs.toArray, _, own, rfl, rfl, rfl, by rw [List.size_toArray, lv]; exact many, by simpa using rv⟩
    refine end_coreT tt H laid (fun b => ?_) sq (fun b u z => ?_) (fun b z => ?_) (fun _ z => absurd (off noTab) z) KX hns hb boot lim gens bmain lies room F bind (promise _ laid sq)
    · by_cases q : b ∈ cs.map (·.2)
      · exact .inr (.inl q)
      · exact .inl (off q)
    · by_cases q : b ∈ cs.map (·.2)
      · rw [atT q] at z; cases z; exact isTab q
      · rw [off q] at z; cases z
    · by_cases q : b ∈ cs.map (·.2)
      · exact .inr q
      · exact absurd (off q) z
  | none =>
    let H : Hp := fun b => if b = a then some (.frz { cls := .type "list", data := .seq vs.toArray } (.lst (ns.map V.int))) else if b ∈ cs.map (·.2) then some (.tbl #[]) else none
    have at_ : H a = some (.frz { cls := .type "list", data := .seq vs.toArray } (.lst (ns.map V.int))) := if_pos rfl
    have atT : ∀ {b}, b ∈ cs.map (·.2) → H b = some (.tbl #[]) := fun {b} z => (if_neg (show ¬ b = a from fun q => noTab (q ▸ z))).trans (if_pos z)
    have off : ∀ {b}, b ≠ a → b ∉ cs.map (·.2) → H b = none := fun z1 z2 => (if_neg z1).trans (if_neg z2)
    have laid : ∀ p ∈ cs, H p.2 = some (.tbl #[]) := fun p hp => atT (memT p hp)
    have sq : SqL K H a (ns.map V.int) := .inl (.inr ⟨_, at_⟩)
    refine end_coreT tt H laid (fun b => ?_) sq (fun b u z => ?_) (fun b z => ?_) (fun _ _ => own) KX hns hb boot lim gens bmain lies room F bind (promise _ laid sq)
    · by_cases z : b = a
      · subst z; exact .inr (.inr ⟨_, _, at_⟩)
      · by_cases q : b ∈ cs.map (·.2)
        · exact .inr (.inl q)
        · exact .inl (off z q)
    · by_cases q : b = a
      · subst q
        rw [at_] at z
        cases z
        exact ⟨lies, by rw [List.length_map]; exact many, vs, _, rv, lies⟩
      · by_cases q2 : b ∈ cs.map (·.2)
        · rw [atT q2] at z; cases z; exact isTab q2
        · rw [off q q2] at z; cases z
    · by_cases q : b = a
      · exact .inl q
      · by_cases q2 : b ∈ cs.map (·.2)
        · exact .inr q2
        · exact absurd (off q q2) z
end
/-- what is known of the law's def where the top has run -/
def LawThere (l : PySem.W.OpenLaw) (w : World) (K : PySem.W.Frag) (k n : Nat) (x : Str) (mg : Str → Option Value) (fa : Addr) (h : Heap) : Prop :=
  ∃ (fd : FuncData) (cs : List (Addr × Addr)) (sp : Sp), TabsThere K h cs ∧ (∀ (s : Shared) (u : Value), BindsTo s fd ⟨[u], []⟩ [(x, u)]) ∧
    (∀ (H : Hp) (a : Addr) (ns : List Int), ns.length ≤ n → (∀ z ∈ ns, Builtin.Int.intBits z ≤ 1048576) → (∀ p ∈ cs, H p.2 = some (.tbl #[])) → SqL K H a (ns.map V.int) → sp [.ref a] H (fun v _ => v = .bl true) fun _ _ _ => False) ∧
    ∀ base : Heap, K.In base → base.Ns mainGlobals mg → (∀ p ∈ cs, TabB base mg p.1 p.2) → FnG l.prog w K mg base k fa fd [x] sp
theorem walk_endT {l : PySem.W.OpenLaw} {n k : Nat} {q : Program} {loose : List Str} {XP : (Str → Option Value) → Heap → Prop} {YP : World → Heap → Prop} {d : DefRec} {K : Params → PySem.W.Frag} {x : Str}
    (hn : l.most = some n) (few : n ≤ sizeLine) (plain : d.params.defaults = []) (room : Room k callerA) (known : ∀ (w : World) (h : Heap), YP w h → (K w.params).In h)
    (F : ∀ (w : World) (mean : ExcName → Option Value) (mg mb : Str → Option Value) (fa : Addr) (h : Heap), Top q (PySem.W.looseW q loose) mean mg mb h → (K w.params).In h → h.Ns mainGlobals mg → mg d.name = some (.ref fa) → LawThere l w (K w.params) k n x mg fa h) :
    PySem.W.WalkO q loose XP YP l.row.toRowW d [] (fun f vs => PySem.call f vs) :=
  Att.attach_callB hn plain fun w s0 s1 mg mb fa o pm cd doc a vs ns G Y _ _ _ main lies nums len bits gens =>
    let KX := known w _ Y
    let ⟨fd, cs, sp, tt, bind, promise, FF⟩ := F w _ mg mb fa _ G.T KX G.T.g main
    law_endT tt KX G.T.g G.T.b G.T.builtins G.T.nolimit gens G.T.bmain lies nums (Nat.le_trans len few) room FF bind fun H laid sq => promise H a ns len bits laid sq
/-- a def's table, by its name -/
def has1 (q : Program) (x : Str) : Bool := ((recsOf q).find? fun e => e.name == x).isSome
end Rf

namespace Rf
open PySem PySem.Spec L2 PyProof.Rows LamX

section
variable {X : Cx} {g : Gx} {B : WX} {C : L2.St → Prop} {e : Expr} {ma : M W} {ms : M (List W)} {pos : Pos} {st : Stmt} {rest : List Stmt} {m n : MS}
end
/-! ### the law's promise -/
def spLawT (K : PySem.W.Frag) (n : Nat) (T : List (Addr × Str)) : Sp := fun vs H Q E => ∃ (a : Addr) (ns : List Int), vs = [.ref a] ∧ ns.length ≤ n ∧ (∀ z ∈ ns, Builtin.Int.intBits z ≤ 1048576) ∧ SqL K H a (ns.map V.int) ∧ (∀ p ∈ T, H p.1 = some (.tbl #[])) ∧ ∀ H', Q (.bl true) H'
theorem promiseT {n : Nat} {f : FnT} (right : ∀ ns : List Int, ns.length ≤ n → (∀ z ∈ ns, Builtin.Int.intBits z ≤ 1048576) → ∃ S, f [] [.lw (ns.map fun n => .dat (.int n))] [] = .ok (.bl true) S) (g : Gx) (hm : ∀ ρ F, g.more ρ F)
    (vs : List V) (H : Hp) (Q : VK) (E : XK) (h : spLawT g.K n g.T vs H Q E) : spF g f vs H Q E := by
  obtain ⟨a, ns, rfl, hl, hb, sq, tb, q⟩ := h
  obtain ⟨S, e⟩ := right ns hl hb
  let F0 : Hp := fun b => match H b with
    | some (.tbl _) => none
    | o => o
  have f0 : ∀ {b o}, F0 b = some o → H b = some o ∧ ∀ ps, o ≠ .tbl ps := by
    intro b o e
    have e' : (match H b with
      | some (.tbl _) => none
      | o => o) = some o := e
    split at e'
    · cases e'
    · rename_i n; exact ⟨e', fun ps z => n ps (by rw [e', z])⟩
  have sq0 : SqL g.K F0 a (ns.map V.int) := by
    have back : ∀ {b o}, H b = some o → (∀ ps, o ≠ .tbl ps) → F0 b = some o := by
      intro b o e no
      show (match H b with
        | some (.tbl _) => none
        | o => o) = some o
      rw [e]
      cases o <;> first | rfl | exact (no _ rfl).elim
    rcases sq with (h | ⟨o, h⟩) | h
    · exact .inl (.inl (back h fun _ z => nomatch z))
    · exact .inl (.inr ⟨o, back h fun _ z => nomatch z⟩)
    · exact .inr h
  have told : ∀ l : List Int, IsAll g.K [] F0 (l.map V.int) (l.map fun n => .dat (.int n)) := fun l => by
    induction l with
    | nil => exact .nil
    | cons n l ih => exact .cons (.dat (.int n)) ih
  have sim : Sim g [] [] F0 (fun _ => none) [] H := ⟨rfl, List.nodup_nil, fun b o e => (f0 e).1, fun n c a z => (by simp at z), fun n c a z => (by simp at z), fun a u z => (nomatch (show (none : Option HO) = some u from z)), fun a u z => (nomatch (show (none : Option HO) = some u from z)), fun a u z => (nomatch (show (none : Option HO) = some u from z)), fun b z => (nomatch z),
    fun p hp => TabS.nil (tb p hp), fun a ps e => (f0 e).2 ps rfl⟩
  refine ⟨[], [], F0, fun _ => none, [], _, sim, .cons (.lw sq0 (told ns)) .nil, hm _ _, ?_⟩
  rw [e]
  intro ρ' F' H' v gr sim' r
  cases r with
  | dat r => cases r; exact q H'
end Rf
namespace Rf
open PySem PySem.Spec L2 PyProof.Rows
end Rf
namespace Rf
open PySem PySem.Spec L2 PyProof.Rows
theorem tabs_nil {K : PySem.W.Frag} {h : Heap} : TabsThere K h [] := ⟨fun _ z => (nomatch z), fun _ z => (nomatch z), fun _ z => (nomatch z)⟩
end Rf
namespace Rf
open PySem L2 PyProof.Rows
end Rf
namespace Rf
open PySem L2 PyProof.Rows
end Rf

namespace Rf
open PySem PySem.Spec L2 PyProof.Rows

/-! ### a dict is not equal to what is no dict -/
abbrev dicO (dd : Option Addr) (es : Array DictEntry) (ep : Nat) (sl : Array (Option Value)) : Obj := { cls := .type "dict", dict := dd, data := .dict es ep, slots := sl }
abbrev kindO (T : String) (dd : Option Addr) (da : Data) (sl : Array (Option Value)) : Obj := { cls := .type T, dict := dd, data := da, slots := sl }
section
variable {d b : Addr} {da2 : Data} {es : Array DictEntry} {ep n2 : Nat} {dd dd2 : Option Addr} {sl sl2 : Array (Option Value)} {its : Array Value}
end
section
variable {A : Around} {s : Shared} {d : Addr} {dd : Option Addr} {es : Array DictEntry} {ep : Nat} {sl : Array (Option Value)}
end
end Rf
namespace Rf
open PySem PySem.Spec L2 PyProof.Rows
def isTupD : PyData → Bool
  | .tuple ds => PyData.plainAll ds
  | _ => false
/-- a dict beside a tuple -/
def eqDT : Op2 := fun _ x y S => match dicOf S x, viewD S y with
  | some _, some d => if isTupD d = true then some (.bl false, S) else none
  | _, _ => match viewD S x, dicOf S y with
    | some d, some _ => if isTupD d = true then some (.bl false, S) else none
    | _, _ => none
end Rf
namespace Rf
open PySem PySem.Spec L2 PyProof.Rows
/-- ==, also of a dict and a tuple -/
def eqAF : Op2 := fun bs x y S => match eqF false bs x y S with
  | some r => some r
  | none => eqDT bs x y S
end Rf

namespace Rf
open PySem PySem.Spec L2 PyProof.Rows
open Sem (wp)
open AutoSeq1 (wpAny_loadPart')

/-! ### list.extend(tuple) -/
def rExtT (K : PySem.W.Frag) : V → List V → Hp → VK → Prop := fun x vs H Q => ∃ l b xs zs, x = .ref l ∧ vs = [.ref b] ∧ H l = some (.lst xs) ∧ SqT K H b zs ∧ xs.length + zs.length ≤ sizeLine ∧ Q .non (upd H l (.lst (xs ++ zs)))
/-- xs.extend(ys), ys a list, a cell or a tuple -/
def extTF : OpM := fun bs x ws S => match x, ws with
  | .loc n, [y] => match S[n]?, tupOf y with
    | some (.lst us), some zs => if us.length + zs.length ≤ 100000 ∧ zs.all (mayW bs n) = true then some (.non, S.set n (.lst (us ++ zs))) else none
    | _, _ => none
  | _, _ => none
def extAF : OpM := fun bs x ws S => match extF bs x ws S with
  | some r => some r
  | none => extTF bs x ws S
section
variable {X : Cx} {g : Gx}
end
/-! ### enumerate of a tuple -/
/-- the tuple at a, each item in a new pair -/
def IteT (K : PySem.W.Frag) (a : Addr) : It :=
  ⟨fun i H => ∃ (xs : List V) (x : V), SqT K H a xs ∧ xs[i]? = some x, fun i H v H' => ∃ T x, v = .ref T ∧ H T = none ∧ H' = upd H T (.tup [.int (i : Nat), x]) ∧ ∀ xs, SqT K H a xs → xs[i]? = some x, fun i H => ∃ xs : List V, SqT K H a xs ∧ xs.length ≤ i⟩
theorem enumT_end {prog : Program} {w : World} {A : Around} {E : Value → Shared → Prop} {s : Shared} {e it t : Addr} {i : Nat} {its : Array Value} {old : Value} {Q : Option Value → Shared → Prop} (hh : A.handled = none) (he : IsEnum s.heap e it i old) (hit : s.heap.IsTupleIter it t i) (ht : s.heap.IsTuple t its) (hx : its[i]? = none)
    (hQ : ∀ h', Heap.ExtBut it s.heap h' → Q none { s with heap := h' }) : wpAny (model prog w) A (pyNext (.ref e)) Q E s := by
  have hT : s.TypeIs (.ref e) "enumerate" := ⟨_, he, rfl⟩
  have main : ∀ {A' : Around} {E' : Value → Shared → Prop} {Q' : Fin → Shared → Prop}, A'.handled = none → (∀ h' x, Heap.ExtBut it s.heap h' → (∃ o, h'.get? x = some o ∧ o.cls = .type "StopIteration") → E' (.ref x) { s with heap := h' }) → wpAny (model prog w) A' (Builtin.«enumerate.__next__» ⟨[.ref e], []⟩) Q' E' s := by
    intro A' E' Q' hA hE
    show wpAny _ _ (field (.ref e) 2 >>= _) _ _ s
    exact wpAny_bind (wpAny_field he rfl (x := .ref it) rfl (wpAny_bind (wpAny_nextOf_tuple_end hA hit ht hx hE)))
  unfold pyNext
  refine wpAny_bind (wpAny_attempt (wpAny_callSpecial?_slot (name := Str.ofString "__next__") hT F.slot_enumerate_next (wpAny_call_entry F.slot_enumerate_next hT F.entry_enumerate_next (main hh fun h' x q ⟨o, ho, hc⟩ => ?_) (F.args_enumerate_next_1 _))))
  exact wpAny_bind (wpAny_isInstance (T := "StopIteration") (b := true) ⟨o, ho, hc⟩ isSubtype_stop (wpAny_pure (hQ _ q)))
theorem turn_enumT {P : Program} {w : World} {K : PySem.W.Frag} {elts : List Expr} {kk : Nat} {tpos : Pos} (a e it : Addr) :
    Turn P w K (.Tuple elts kk tpos) (IteT K a) [e, it] e (fun i h => (∃ old, IsEnum h e it ((i : Nat) : Int) old) ∧ h.IsTupleIter it a i ∧ e ≠ it ∧ e ≠ a ∧ a ≠ it) where
  mem := List.mem_cons_self ..
  obj := fun i h st b hb => by
    obtain ⟨⟨old, he⟩, ⟨o, ho, _, hd⟩, _⟩ := st
    rcases List.mem_cons.mp hb with z | z
    · rw [z]
      refine ⟨_, he, fun v q => ?_⟩
      cases q
    · rw [List.mem_singleton.mp z]
      exact ⟨o, ho, fun v q => by rw [hd] at q; cases q⟩
  keep := fun i h h' st k => by
    obtain ⟨⟨old, he⟩, hi, hne⟩ := st
    exact ⟨⟨old, k e (List.mem_cons_self ..) _ he⟩, hi.at fun o q => k it (by simp) o q, hne⟩
  item := by
    intro X hP hw hK hc i pins s σ H E I hf st hg
    obtain ⟨⟨old, he⟩, hit, hne, hea, hai⟩ := st
    obtain ⟨xs, x, hq, hx⟩ := hg
    subst hP hw hK
    obtain ⟨its, rv, p, hz⟩ := I.tuple hq
    obtain ⟨u, hu, ru⟩ := rv.get hx
    have hil : it < s.heap.objs.size := by obtain ⟨_, q, _⟩ := hit; exact Heap.lt_size q
    have hel : e < s.heap.objs.size := Heap.lt_size he
    have hlt : i < its.toArray.size := by
      rw [List.size_toArray]
      exact (List.getElem?_eq_some_iff.mp hu).1
    have D := Draws.tuple (prog := X.prog) (w := X.w) (A := X.A.in1) (I.ok.hd hc) it a hai its.toArray
    refine wpAny_pyNext_enum_itemC D he ⟨hit, show s.heap.IsTuple a its.toArray from p⟩ hlt hne (by simp [hne, hea]) fun y h' tk hy ho st hT hsz hk => ?_
    have hyu : y = u := by
      have h1 : its[i]? = some y := by simpa using hy
      rw [hu] at h1; exact (Option.some.inj h1).symm
    subst hyu
    refine ⟨_, rfl, wpAny_letOwnedTupleGo_enum (s := { s with heap := h', toks := tk + 1 }) ho fun h2 he' sb => ?_⟩
    have hT2 : h2.get? s.heap.objs.size = some { cls := .type "tuple", data := .seq #[.int i tk, y] } := (sb.2 _ (Nat.ne_of_gt hel)).trans hT
    have new : ObjOk X.prog X.w (upd H s.heap.objs.size (.tup [.int (i : Nat), x])) h2 s.heap.objs.size (.tup [.int (i : Nat), x]) :=
      ⟨by show 2 ≤ sizeLine; decide, [.int i tk, y], .cons ⟨_, rfl⟩ (.cons ru .nil), ⟨_, hT2, rfl, _, rfl⟩⟩
    have I1 : Inv X pins σ (upd H s.heap.objs.size (.tup [.int (i : Nat), x])) { s with heap := h2, toks := tk + 1 } :=
      I.turnedNew (ch := [e, it]) (fun b ob hb q => (sb.2 b fun z => hb (by simp [z])).trans (hk b ob (fun z => hb (by simp [z])) (fun z => hb (by simp [z])) q)) hf (Nat.le_refl _) new
    refine ⟨.ref s.heap.objs.size, _, I1, rfl, ⟨_, x, rfl, I.hok.fresh (Nat.le_refl _), rfl, fun ys hy => by rw [I.tuple_inj hy hq]; exact hx⟩, ⟨⟨y, ?_⟩, st.1.at fun o q => (sb.2 it (Ne.symm hne)).trans q, hne, hea, hai⟩, fun b hb => ?_⟩
    · rw [Int.natCast_add]; exact he'
    · have hb' : b < s.heap.objs.size := by
        rcases List.mem_cons.mp hb with z | z
        · exact z ▸ hel
        · exact List.mem_singleton.mp z ▸ hil
      rw [upd_ne (Nat.ne_of_lt hb')]
      exact (hf b hb).1
  done := by
    intro X hP hw hK hc i pins s σ H E I hf st hg
    obtain ⟨⟨old, he⟩, hit, hne, hea, hai⟩ := st
    obtain ⟨xs, hq, hx⟩ := hg
    subst hP hw hK
    obtain ⟨its, rv, p, hz⟩ := I.tuple hq
    obtain ⟨f0, f1, f2, f3, f4, f5⟩ := hf it (by simp)
    have hl := rv.length
    exact enumT_end (I.ok.hd hc) he hit (show s.heap.IsTuple a its.toArray from p) (by simp; omega) fun h' eb => ⟨rfl, I.turned (t' := s.toks) (fun b o hb q => eb b o hb q) f0 f1 f3 f4 f5⟩
  self := fun A i s Q E st h => by
    obtain ⟨⟨_, he⟩, _⟩ := st
    exact wpAny_pyIter_enum he h
theorem enum1_meets {v : Value} {o : Obj} {H : Heap → Prop} (B : Begins v o H) :
    Meets (Builtin.«enumerate.__new__» ⟨[.type "enumerate", v], []⟩) (fun _ R s => H s.heap ∧ R (.ok (.ret (.ref (s.heap.push o).objs.size))) { s with heap := (s.heap.push o).push { cls := .type "enumerate", data := .fields #[.none, .bool false, .ref s.heap.objs.size, rawInt 0, .none, .none] } }) :=
  .of_wp fun prog w A R s h => by
    obtain ⟨hp, g, d, tk, os⟩ := s
    obtain ⟨h1, h⟩ := h
    have sub := sub_enumerate
    have q1 : ∀ {A' : Around} {E : Value → Shared → Prop} {Q : Value → Shared → Prop}, Q (.ref hp.objs.size) ⟨hp.push o, g, d, tk, os⟩ → wpAny (model prog w) A' (pyIter v) Q E ⟨hp, g, d, tk, os⟩ := fun q => B.iter prog w _ _ ⟨hp, g, d, tk, os⟩ _ h1 q
    wp_walk using q1
    refine wpAny_stack_any fun st => wpAny_pure ?_
    split
    · rename_i c _ _ _ _ _
      cases (c == Value.type "enumerate") <;> (wp_walk using q1; exact ⟨_, rfl, h⟩)
    · wp_walk using q1
      exact ⟨_, rfl, h⟩
theorem call_enum1 {prog : Program} {w : World} {A : Around} {E : Value → Shared → Prop} {s : Shared} {v : Value} {o : Obj} {H : Heap → Prop} {Q : Value → Shared → Prop} (B : Begins v o H) (h1 : H s.heap)
    (h : ∀ h', IsEnum h' (s.heap.objs.size + 1) s.heap.objs.size 0 .none → h'.get? s.heap.objs.size = some o → h'.objs.size = s.heap.objs.size + 2 → (∀ b o, s.heap.get? b = some o → h'.get? b = some o) → Q (.ref (s.heap.objs.size + 1)) { s with heap := h' }) :
    wpAny (model prog w) A (call (.type "enumerate") [v]) Q E s := by
  refine callType_new F.called_enumerate (by decide) (F.typeCall_enumerate_1 _) (F.newCall_enumerate_1 _) (fun obj => F.args_object_init_2 obj _) F.entry_enumerate_new (enum1_meets B) ⟨h1, ?_⟩
  have hz : (s.heap.push o).objs.size = s.heap.objs.size + 1 := Heap.size_push ..
  show _ ∧ _
  rw [hz]
  have he : IsEnum ((s.heap.push o).push { cls := .type "enumerate", data := .fields #[.none, .bool false, .ref s.heap.objs.size, rawInt 0, .none, .none] }) (s.heap.objs.size + 1) s.heap.objs.size 0 .none := by
    have e := Heap.get?_push_size (s.heap.push o) (o := { cls := .type "enumerate", data := .fields #[.none, .bool false, .ref s.heap.objs.size, rawInt 0, .none, .none] }) rfl
    rw [hz] at e; exact e
  exact ⟨⟨_, he, rfl⟩, h _ he (Heap.get?_push_of_some _ (Heap.get?_push_size _ B.free)) (by rw [Heap.size_push, hz]) fun b o x => Heap.get?_push_of_some _ (Heap.get?_push_of_some _ x)⟩
/-- enumerate of a list or of a tuple -/
def iEnumA (K : PySem.W.Frag) (ta : TA) : TI := fun σ H R => ta σ H fun vs H1 => ∃ a, vs = [.ref a] ∧ ((∃ xs, SqL K H1 a xs ∧ R (Ite K a) H1) ∨ ∃ xs, SqT K H1 a xs ∧ R (IteT K a) H1)
theorem pi_enumA {X : Cx} {e : Expr} {ta : TA} {p pos tpos : Pos} {elts : List Expr} {kk : Nat} (hg : Gl X "enumerate") (hm : X.mg "enumerate" = none) (ha : PA X [e] ta) (hs : starEach [e] X.env = [(false, eval e X.env)] := by rfl) :
    PI X (.Tuple elts kk tpos) (.Call (.Name "enumerate" p) [e] [] pos) (iEnumA X.K ta) := by
  refine ⟨fun pins s σ H R I h => ?_⟩
  refine Call_ (ld_blt I hg hm boot_enumerate (PyProof.Rows.callWith_type1 (thn (ha.run pos pins s σ H _ I h) fun us s1 ⟨vs, H1, I1, r1, a, ex, q1⟩ => ?_) hs rfl))
  subst ex
  cases r1 with
  | cons r rr =>
    cases rr
    cases r
    have fpk : ∀ b ∈ [s1.heap.objs.size + 1, s1.heap.objs.size], s1.heap.objs.size ≤ b := fun b hb => by
      rcases List.mem_cons.mp hb with z | z
      · rw [z]; exact Nat.le_succ _
      · rw [List.mem_singleton.mp z]; exact Nat.le_refl _
    rcases q1 with ⟨xs, hq, q⟩ | ⟨xs, hq, q⟩
    · obtain ⟨its, rv, p', hz⟩ := I1.list hq
      refine call_enumerate_list p'.isList fun h' he hit hsz hk => wpAny_pyIter_enum he ?_
      have I2 : Inv X pins σ H1 { s1 with heap := h' } := I1.kept (t' := s1.toks) hk
      exact ⟨s1.heap.objs.size + 1, [s1.heap.objs.size + 1, s1.heap.objs.size], _, _, H1, rfl, I2, turn_enum a _ _, ⟨⟨.none, he⟩, hit, Nat.succ_ne_self _⟩, fun b hb => I1.fpOk (fpk b hb) (I1.hok.fresh (fpk b hb)), q⟩
    · obtain ⟨its, rv, p', hz⟩ := I1.tuple hq
      have ht : s1.heap.IsTuple a its.toArray := p'
      have hal : a < s1.heap.objs.size := by obtain ⟨_, z, _⟩ := ht; exact Heap.lt_size z
      refine call_enum1 (begins_tuple a its.toArray) ht fun h' he hit hsz hk => wpAny_pyIter_enum he ?_
      have I2 : Inv X pins σ H1 { s1 with heap := h' } := I1.kept (t' := s1.toks) hk
      exact ⟨s1.heap.objs.size + 1, [s1.heap.objs.size + 1, s1.heap.objs.size], _, _, H1, rfl, I2, turn_enumT a _ _, ⟨⟨.none, he⟩, ⟨_, hit, rfl, rfl⟩, Nat.succ_ne_self _, Nat.ne_of_gt (Nat.lt_succ_of_lt hal), Nat.ne_of_lt hal⟩, fun b hb => I1.fpOk (fpk b hb) (I1.hok.fresh (fpk b hb)), q⟩
section
variable {X : Cx} {g : Gx} {B : WX} {bs : List Nat} {ρ : List Addr} {F N H : Hp} {S : Store} {a : Expr} {ms : M (List W)} {p pos tpos : Pos} {elts : List Expr} {kk : Nat}
theorem walk_enmT {x : Addr} {i1 : Iter} (r1 : RepQ false g ρ F i1 x) : WalkOk g (IteT g.K x) ρ F (.enm i1) := by
  intro bs ρ' F' N' S' H' i gr s
  show match (match i1.next i S' with
    | some (some x) => some (some (mkTup [.int i, x]))
    | some none => some none
    | none => none : Option (Option W)) with
    | some (some w) => _
    | some none => _
    | none => True
  rcases r1 bs ρ' F' N' S' H' gr s with ⟨vs, ws, q1, l1, e1⟩ | e1
  · rw [e1 i]
    cases hw : ws[i]? with
    | none => exact ⟨vs, q1, by rw [l1.len]; exact List.getElem?_eq_none_iff.mp hw⟩
    | some w =>
      obtain ⟨v, hv, rv⟩ := l1.get hw
      refine ⟨⟨vs, v, q1, hv⟩, fun xv H2 h => ?_⟩
      obtain ⟨T, v', e1, hT, e3, h1⟩ := h
      subst e1 e3
      have h1 := h1 vs q1
      rw [hv] at h1; cases h1
      obtain ⟨s', g'⟩ := s.frozen (o := .tup [.int (i : Nat), v]) hT
      exact ⟨_, g', s', is_mkTup upd_same (.cons (.dat (.int _)) (.cons (rv.mono g') .nil))⟩
  · rw [e1 i]; trivial
/-- enumerate(xs), xs a tuple, a list or a cell -/
def mEnmA (ms : M (List W)) : M Iter := fun bs env S => (ms bs env S).bind fun ws S1 => match ws with
  | [x] => match iterA S1 x with
    | some it => .ok (.enm it) S1
    | none => .stuck
  | _ => .stuck
theorem ri_enmA (hK : g.K = X.K) (hg : Gl X "enumerate") (hm : X.mg "enumerate" = none) (ha : PA X [a] (rdA g B ms)) (hs : starEach [a] X.env = [(false, eval a X.env)] := by rfl) :
    PI X (.Tuple elts kk tpos) (.Call (.Name "enumerate" p) [a] [] pos) (rdI g B (mEnmA ms)) := (pi_enumA hg hm ha hs).imp fun σ H R ⟨bs, ρ, F, N, env, S, s, e, p⟩ => by
  refine ⟨bs, ρ, F, N, env, S, s, e, (Post.iter (R := RWs g) p).imp fun x H1 ⟨ρ1, F1, wx, S1, g1, s1, r1, p1⟩ => ?_⟩
  rw [← hK]
  split at p1
  · rename_i w
    obtain ⟨v, rfl, rv⟩ := all_one r1
    split at p1
    · rename_i it hi
      unfold iterA at hi
      split at hi
      · rename_i it' h1
        cases hi
        obtain ⟨x, rfl, ⟨vs, q1⟩, w1⟩ := rep_tup s1 rv h1
        exact ⟨x, rfl, .inr ⟨vs, q1, p1 ρ1 F1 H1 _ (Grow.refl _ _) s1 (walk_enmT w1)⟩⟩
      · obtain ⟨x, rfl, ⟨vs, q1⟩, w1⟩ := rep_lst s1 rv hi
        exact ⟨x, rfl, .inl ⟨vs, q1, p1 ρ1 F1 H1 _ (Grow.refl _ _) s1 (walk_enm w1)⟩⟩
    · exact p1.elim
  · exact p1.elim
end
end Rf

namespace Rf
open PySem PySem.Spec L2 PyProof.Rows

/-! ### sorted of a list of whole numbers -/
def sortInts (ns : List Int) : List Int := ns.mergeSort fun a b => decide (a ≤ b)
theorem sortInts_perm (ns : List Int) : (sortInts ns).Perm ns := List.mergeSort_perm ..
theorem sortInts_up (ns : List Int) : (sortInts ns).Pairwise (· ≤ ·) :=
  (List.pairwise_mergeSort (le := fun a b : Int => decide (a ≤ b)) (fun a b c h1 h2 => decide_eq_true (Int.le_trans (of_decide_eq_true h1) (of_decide_eq_true h2))) (fun a b => by
    rcases Int.le_total a b with h | h <;> simp [h]) ns).imp fun h => of_decide_eq_true h
theorem sortInts_eq {ns ms : List Int} (h : ms.Perm ns) (hp : ms.Pairwise (· ≤ ·)) : ms = sortInts ns :=
  List.Perm.eq_of_pairwise (fun a b _ _ h1 h2 => Int.le_antisymm h1 h2) hp (sortInts_up ns) (h.trans (sortInts_perm ns).symm)
section
variable {X : Cx} {g : Gx}
def sortIF (k : Bool) : OpN := fun _ ws S => match ws with
  | [w] => match (lstOf S w).bind intsW with
    | some ns => some (newL k ((sortInts ns).map fun i => .dat (.int i)) S)
    | none => none
  | _ => none
theorem isAll_ints {K : PySem.W.Frag} {ρ : List Addr} {F : Hp} : ∀ ns : List Int, IsAll K ρ F (ns.map V.int) (ns.map fun i => W.dat (.int i))
  | [] => .nil
  | n :: ns => .cons (.dat (.int n)) (isAll_ints ns)
/-- sorted of a dict with tuples as keys, or of a list of whole numbers -/
def sortAF (k : Bool) : OpN := fun bs ws S => match sortDF k bs ws S with
  | some r => some r
  | none => sortIF k bs ws S
end
end Rf

namespace Rf
open PySem PySem.Spec L2 PyProof.Rows

/-! ### a dict beside an empty one -/
section
variable {prog : Program} {w : World} {A : Around} {E : Value → Shared → Prop} {s : Shared} {a b : Addr} {dd dd2 : Option Addr} {es : Array DictEntry} {ep ep2 : Nat} {sl sl2 : Array (Option Value)}
end
def eqDE : Op2 := fun _ x y S => match dicOf S x, dicOf S y with
  | some us, some [] => some (.bl us.isEmpty, S)
  | _, _ => none
/-- ==, also of a dict and an empty one -/
def eqEF : Op2 := fun bs x y S => match eqF false bs x y S with
  | some r => some r
  | none => eqDE bs x y S

/-! ### dict(x), x a list of pairs -/
section
variable {X : Cx} {g : Gx} {B : WX}
def dictLF : OpN := fun _ ws S => match ws with
  | [w] => match (lstOf S w).bind allDat with
    | some ds => match pairsKD ds with
      | some kvs => if (kvs.map (·.1)).Nodup then some (.dat (.dict (kvs.map fun p => (.tuple (p.1.map kD), p.2))), S) else none
      | none => none
    | none => none
  | _ => none
/-- dict(x), x a dict or a list of pairs -/
def copyAF : OpN := fun bs ws S => match copyF false bs ws S with
  | some r => some r
  | none => dictLF bs ws S
/-- len(d) of a dict -/
def lenDF : OpN := fun _ ws S => match ws with
  | [w] => (dicOf S w).map fun us => (.int us.length, S)
  | _ => none
/-- len, also of a dict -/
def lenAF : OpN := fun bs ws S => match un lenW bs ws S with
  | some r => some r
  | none => lenDF bs ws S
end
end Rf

namespace Rf
open PySem PySem.W PySem.Calls PySem.Spec L2 PyProof.Rows

/-! ### d.values(), also of an empty dict of any kind -/
section
variable {X : Cx} {g : Gx} {B : WX} {bs : List Nat} {ρ : List Addr} {F N H : Hp} {S : Store} {σ : L2.St}
def ItE (d : Addr) (o : Obj) : It := ⟨fun _ _ => False, fun _ _ _ _ => False, fun _ H => FzD H d o []⟩
theorem at_none {P : Program} {w : World} {h : Heap} {d : Addr} {o : Obj} {ep : Nat} (hd : h.get? d = some o) (hx : o.ExactDict) (hdt : o.data = .dict #[] ep) : h.DictAt (mixKind P w) d [] ep := by
  refine ⟨o, #[], hd, hx, hdt, ?_⟩
  exact ⟨fun e he => by simp at he, .nil, .nil⟩
def iValsA (td : TE) : TI := fun σ H R => td σ H fun x H1 => ∃ d o, x = .ref d ∧ ((∃ kvs, H1 d = some (.frz o (.dK kvs)) ∧ R (Itd d o kvs) H1) ∨ (FzD H1 d o [] ∧ R (ItE d o) H1))
/-- d.values(), no key a tuple, or none at all -/
def mValsA (m : M W) : M Iter := fun bs env S => (m bs env S).bind fun w S1 => match dicOf S1 w with
  | some ws => if ws.isEmpty = true then .ok (.items []) (lockW S1 w) else if dicRdy S1 w ws (.one (.inl 0)) = true then .ok (.items (ws.map fun p => p.2)) (lockW S1 w) else .stuck
  | none => .stuck
theorem dicH_none {P : Program} {w : World} {H : Hp} {h : Heap} {a : Addr} {n : Nat} (ok : HOk P w H h) (d : DicH H a n []) : (a == sysModules) = false ∧ ∃ ep, h.DictAt (mixKind P w) a [] ep := by
  generalize ev : ([] : List (PyData × V)) = vs at d
  cases d with
  | @k kvs hk =>
    have e0 : kvs = [] := by simpa using ev.symm
    subst e0
    obtain ⟨_, ns, vs, kv, dd⟩ := dk_rd ok hk
    cases kv
    exact ⟨ns, dd.dictAt⟩
  | @t kvs hk =>
    have e0 : kvs = [] := by simpa using ev.symm
    subst e0
    obtain ⟨_, ns, xs, kv, o, es, ep, h1, h2, h3, h4, _⟩ := dt_rd ok hk
    cases kv
    have e1 : es = #[] := Array.toList_eq_nil_iff.mp (by simpa using h4)
    subst e1
    exact ⟨ns, ep, at_none h1 h2 h3⟩
/-- list(..), also of an empty dict -/
def listEF (k : Bool) : OpN := fun bs ws S => match listDF k bs ws S with
  | some r => some r
  | none => match ws with
    | [w] => match dicOf S w with
      | some [] => some (newL k [] S)
      | _ => none
    | _ => none
theorem none_of {bs : List Nat} {w : W} {v : V} (s : Sim g bs ρ F N S H) (r : Is g.K ρ F v w) (h : dicOf S w = some []) : ∃ a n, v = .ref a ∧ DicH H a n [] := by
  obtain ⟨a, n, vs, e, d, kv⟩ := dic_of s r h
  have : vs = [] := List.eq_nil_of_length_eq_zero (by simpa using kv.len)
  subst this
  exact ⟨a, n, e, d⟩
/-- the keys of a dict, all whole numbers -/
def intKeys : List (PyData × W) → Option (List Int)
  | [] => some []
  | p :: ps => match p.1, intKeys ps with
    | .int i, some ns => some (i :: ns)
    | _, _ => none
/-- sorted(d): rows as keys, or fewer than 64 whole numbers -/
def sortKW (k : Bool) (w : W) (S : Store) : Option (W × Store) := match dicOf S w with
  | some [] => some (newL k [] S)
  | some ws => match intKeys ws with
    | some ns => if ns.length < 64 then some (newL k ((sortInts ns).map fun i => .dat (.int i)) S) else none
    | none => none
  | none => none
def sortKF (k : Bool) : OpN := fun _ ws S => match ws with
  | [w] => sortKW k w S
  | _ => none
/-- sorted of a dict or of a list of whole numbers -/
def sortEF (k : Bool) : OpN := fun bs ws S => match sortAF k bs ws S with
  | some r => some r
  | none => sortKF k bs ws S
end
/-- !=, also of a dict and an empty one -/
def neDE : Op2 := fun _ x y S => match dicOf S x, dicOf S y with
  | some us, some [] => some (.bl (!us.isEmpty), S)
  | _, _ => none
/-- !=, also of a dict and an empty one -/
def neEF : Op2 := fun bs x y S => match eqF true bs x y S with
  | some r => some r
  | none => neDE bs x y S
end Rf

namespace Rf
open PySem PySem.W PySem.Calls PySem.Spec L2 PyProof.Rows

/-! ### list(d.items()), d a dict that stands free, its keys whole numbers -/
section
variable {X : Cx} {g : Gx} {B : WX} {bs : List Nat} {ρ : List Addr} {F N H H' : Hp} {S : Store} {σ : L2.St}
/-- a dict that stands free, not empty, its keys whole numbers -/
def freeD (S : Store) : W → Option (List (PyData × W))
  | .loc n => match S[n]? with
    | some (.dic ws) => match intKeys ws with
      | some (_ :: _) => some ws
      | _ => none
    | _ => none
  | _ => none
def mItemsL (k : Bool) (m : M W) : M W := fun bs env S => (m bs env S).bind fun w S1 => match freeD S1 w with
  | some ws => .ok (newL k (ws.map fun p => mkTup [.dat p.1, p.2]) S1).1 (newL k (ws.map fun p => mkTup [.dat p.1, p.2]) S1).2
  | none => .stuck

/-! ### dict(x), x a list of pairs whose first is a whole number -/
def pairID : PyData → Option (Int × PyData)
  | .tuple [.int i, v] => some (i, v)
  | _ => none
def pairsID : List PyData → Option (List (Int × PyData))
  | [] => some []
  | d :: ds => match pairID d, pairsID ds with
    | some p, some ps => some (p :: ps)
    | _, _ => none
def dictPF : OpN := fun _ ws S => match ws with
  | [w] => match (lstOf S w).bind allDat with
    | some ds => match pairsID ds with
      | some ps => if (ps.map (·.1)).Nodup then some (.loc S.length, S ++ [.dic (ps.map fun p => (.int p.1, .dat p.2))]) else none
      | none => none
    | none => none
  | _ => none

/-! ### d.pop(k, x), k a whole number -/
def popDF : OpM := fun bs x ws S => match x, ws with
  | .loc n, [.dat (.int i), y] => match S[n]? with
    | some (.dic us) => if (us.all fun p => (dkey p.1).any fun k' => kindK k' == kindK (.one (.inl i))) = true then
        match lookW us (.one (.inl i)) with
        | some w => some (w, S.set n (.dic (dropW us (.one (.inl i)))))
        | none => some (y, S)
      else none
    | _ => none
  | _, _ => none
end
/-! ### k in d, d empty, of whatever kind -/
section
variable {X : Cx} {g : Gx} {bs : List Nat} {ρ : List Addr} {F N H : Hp} {S : Store} {σ : L2.St}
def inED (neg : Bool) : Op2 := fun _ x y S => match x, dicOf S y with
  | .dat (.int _), some [] => some (.bl neg, S)
  | _, _ => none
theorem ro_inED {neg : Bool} : OpR X (compareOp (if neg = true then .NotIn else .In)) (rd2 g (inED neg)) := by
  intro pins sh σ H x y v u Q I rx ry ⟨bs, ρ, F, N, S, wx, wy, s, r1, r2, p⟩
  unfold inED at p
  split at p
  · rename_i i hd
    have e := is_int r1
    subst e
    obtain ⟨a, n, rfl, d⟩ := none_of s r2 hd
    cases ry
    obtain ⟨ns, ep, hat⟩ := dicH_none I.hok d
    cases neg with
    | true =>
      show wpAny _ _ (compareOp .NotIn v (.ref a)) _ _ _
      refine wpAny_notIn_of (kV_is (k := .inl i) rx) ns hat.dictOf.mapOf ?_
      exact ⟨.bl true, H, I.tok _, rfl, p ρ F H _ (Grow.refl _ _) s (.dat (.bl _))⟩
    | false =>
      show wpAny _ _ (compareOp .In v (.ref a)) _ _ _
      refine wpAny_in_of (kV_is (k := .inl i) rx) ns hat.dictOf.mapOf ?_
      exact ⟨.bl false, H, I.tok _, rfl, p ρ F H _ (Grow.refl _ _) s (.dat (.bl _))⟩
  · exact p.elim
/-- in, not in, also of an empty dict that was gone through -/
def inBF (neg : Bool) : Op2 := fun bs x y S => match inAF neg bs x y S with
  | some r => some r
  | none => inED neg bs x y S
theorem ro_notInB (hK : g.K = X.K) (hu : X.A.units + 100 < cLine) : OpR X (compareOp .NotIn) (rd2 g (inBF true)) := op_orElse (ro_notInA hK hu) (ro_inED (neg := true))
end
/-! ### d[k] as one of several targets -/
end Rf

namespace Rf
open PySem PySem.W PySem.Calls PySem.Spec L2 PyProof.Rows

/-! ### set(list of whole numbers) -/
abbrev emptyS (w : World) : Obj := { cls := .type "set", data := .set #[] 0 (.fresh 0 0 (!w.params.followText "set-order")) }
section
variable {P : Program} {w : World} {A : Around} {E : Value → Shared → Prop} {s : Shared}
theorem set_ints {l : Addr} {its : Array Value} (ns : List Int) {Q : Value → Shared → Prop} (hA : A.handled = none) (hl : s.heap.IsList l its) (hi : IntsAre its.toList ns) (few : ns.length + 1 < scanBound)
    (fin : ∀ (h : Heap) (tk c : Nat), SetR w h s.heap.objs.size (fun j => decide (j ∈ ns)) c → c ≤ ns.length → (∀ b o, s.heap.get? b = some o → h.get? b = some o) → Q (.ref s.heap.objs.size) { s with heap := h, toks := tk }) :
    wpAny (model P w) A (call (.type "set") [.ref l]) Q E s := by
  have z0 : its.size = ns.length := by rw [← IntsAre.length hi, Array.length_toList]
  obtain ⟨c0, t0, mro⟩ := F.called_set.mro
  have made := F.called_set.made; have sub := F.called_set.sub
  refine wpAny_call (codeAny_of_tree ?_); show wpAny _ _ (callAny (.type "set") _) _ _ _
  refine wpAny_pure ⟨Code.quiet_builtin _ (by decide +kernel), codeAny_builtin F.entry_type_call ?_⟩; rw [Around.under_plain (weight_type_call_type "set" [.ref l] []) rfl]
  have nty := F.called_set.notType; have can := F.called_set.canCreate; have tcall := F.typeCall_set_1 (.ref l)
  repeat (any_goals (first | assumption | wp_step))
  refine codeAny_mono (code_set_led1 (.ref l) (E := E) (Q₁ := fun v t => v = .ref s.heap.objs.size ∧ t = { s with heap := s.heap.push (emptyS w) }) ⟨rfl, rfl⟩) fun r s1 hr => ?_
  cases r with
  | error e => exact hr
  | ok fl =>
    cases fl with
    | brk => exact hr.elim
    | cont => exact hr.elim
    | next => exact hr.elim
    | ret v =>
      obtain ⟨rfl, rfl⟩ := hr
      have at0 : (s.heap.push (emptyS w)).get? s.heap.objs.size = some (emptyS w) := Heap.get?_push_size _ rfl
      have tyS : Shared.TypeIs { s with heap := s.heap.push (emptyS w) } (.ref s.heap.objs.size) "set" := ⟨_, at0, rfl⟩
      have ini := F.called_set.init.lookup; have inb := F.called_set.init.bind (.ref s.heap.objs.size)
      repeat (any_goals (first | assumption | wp_step))
      refine codeAny_mono (codeAny_call_builtin (R := wants (fun v t => v = .none ∧ ∃ h tk c, t = { s with heap := h, toks := tk } ∧ SetR w h s.heap.objs.size (fun j => decide (j ∈ ns)) c ∧ c ≤ ns.length ∧ (∀ b o, s.heap.get? b = some o → h.get? b = some o)) E) F.called_set.init.plain F.entry_set_init (check_set_init_1 tyS ?_)) fun r2 s2 hr2 => ?_
      · obtain ⟨⟨kl, dl, al, sl⟩, gl, el, nl, fl⟩ := hl
        simp only at el fl
        subst el fl
        have gl2 : (s.heap.push (emptyS w)).get? l = some { cls := .type "list", dict := dl, data := .seq its nl, slots := sl } := Heap.get?_push_of_some _ gl
        have sb1 := F.sub_list_set; have sb2 := F.sub_list_frozenset
        have nd : (Value.type "list" == Value.type "dict") = false := by decide
        have isl : (s.heap.push (emptyS w)).IsList l its := ⟨_, gl2, rfl, nl, rfl⟩
        unfold Builtin.«set.__init__» noKeywords Builtin.Frozenset.updateFrom
        generalize ePI : pyIter = PI
        wp_walk
        subst ePI
        refine wpAny_pyIter_list isl (wpAny_bind (wpAny_runValue ?_))
        have ltl : l < s.heap.objs.size := Heap.lt_size gl
        have szp : (s.heap.push (emptyS w)).objs.size = s.heap.objs.size + 1 := Heap.size_push ..
        have n1 : l ≠ (s.heap.push (emptyS w)).objs.size := by rw [szp]; exact Nat.ne_of_lt (Nat.lt_succ_of_lt ltl)
        have n2 : s.heap.objs.size ∉ [(s.heap.push (emptyS w)).objs.size, l] := by
          rw [szp]; intro hm
          rcases List.mem_cons.mp hm with e | e
          · exact absurd e (Nat.ne_of_lt (Nat.lt_succ_self _))
          · exact absurd (List.mem_singleton.mp e) (Nat.ne_of_gt ltl)
        have vals : ∀ (i : Nat) (v : Value), its[i]? = some v → ∃ k t, ns[i]? = some k ∧ v = .int k t := fun i v hv => by
          have lt : i < ns.length := by rw [← z0]; exact (Array.getElem?_eq_some_iff.mp hv).1
          obtain ⟨t, e⟩ := IntsAre.int_at hi i v (by rw [Array.getElem?_toList]; exact hv)
          exact ⟨ns[i], t, List.getElem?_eq_getElem lt, by rw [e]; simp [lt]⟩
        refine set_update_ints (Walks.list (by simp [hA]) _ l n1 its).toS s.heap.objs.size n2 ns z0 few vals (its.size - 0) 0 _ (by omega) (Nat.zero_le _) ⟨⟨_, Heap.get?_push_size _ rfl, rfl, rfl⟩, isl.push _⟩ ?mkSet ?mkEnd
        case mkSet => exact ⟨0, Nat.le_refl 0, setR_new_at (Heap.get?_push_of_some _ at0)⟩
        case mkEnd =>
          rintro ⟨h2, g2, d2, t2, o2⟩ c mv hc hS
          obtain rfl : g2 = s.gens := mv.gens
          obtain rfl : d2 = s.drawn := mv.drawn
          obtain rfl : o2 = s.os := mv.os
          show wpAny _ _ _ _ _ _
          refine wpAny_pure ?_; show wpAny _ _ (ret Value.none) _ _ _
          refine wpAny_pure ⟨rfl, h2, t2, c, rfl, hS, by omega, fun b o e => ?_⟩
          have ltb : b < s.heap.objs.size := Heap.lt_size e
          exact mv.heap b o (fun hm => by
            rw [szp] at hm
            rcases List.mem_cons.mp hm with e | e
            · exact absurd e (Nat.ne_of_lt ltb)
            · exact absurd (List.mem_singleton.mp e) (Nat.ne_of_lt (Nat.lt_succ_of_lt ltb))) (Heap.get?_push_of_some _ (Heap.get?_push_of_some _ e))
      · cases r2 with
        | error e => exact hr2
        | ok fl =>
          cases fl with
          | brk => exact hr2.elim
          | cont => exact hr2.elim
          | next => exact hr2.elim
          | ret v =>
            obtain ⟨rfl, h2, tk, c, rfl, a1, a2, a3⟩ := hr2
            repeat (any_goals (first | assumption | wp_step))
            exact fin _ _ _ a1 a2 a3
end
end Rf

namespace Rf
open PySem PySem.W PySem.Calls PySem.Spec L2 PyProof.Rows

/-! ### sorted(set(..)), len(set(..)) -/
section
variable {X : Cx}
def rSetI (X : Cx) : List V → Hp → VK → Prop := fun xs H Q => ∃ (l : Addr) (ns : List Int), xs = [V.ref l] ∧ SqL X.K H l (ns.map V.int) ∧ ns.length < 60 ∧ ∀ (a : Addr) (c : Nat), H a = none → c ≤ ns.length → Q (.ref a) (upd H a (SetO X.w a (fun j => decide (j ∈ ns)) c))
theorem cr_setI (hc : X.calm = true) : CallR X (.type "set") (rSetI X) := by
  intro pins s σ H xs us Q I r h
  obtain ⟨l, ns, rfl, hl, few, q⟩ := h
  obtain ⟨u, rfl, rx⟩ := r.one
  cases rx
  obtain ⟨its, rv, pl, hz⟩ := I.list hl
  refine set_ints ns (I.ok.hd hc) pl.isList (ints_of_vals rv) (Nat.lt_of_le_of_lt (show ns.length + 1 ≤ 60 by omega) (by decide)) fun h tk c a1 a2 a3 => ?_
  exact ⟨.ref s.heap.objs.size, upd H s.heap.objs.size (SetO X.w s.heap.objs.size (fun j => decide (j ∈ ns)) c), I.laid (t' := tk) a3 (Nat.le_refl _) (setO_new a1), rfl, q _ _ (I.hok.fresh (Nat.le_refl _)) a2⟩
theorem perm_map {α β : Type} {f : α → β} {l : List β} {m : List α} (h : l.Perm (m.map f)) : ∃ m' : List α, m'.Perm m ∧ l = m'.map f := by
  generalize e : m.map f = k at h
  induction h generalizing m with
  | nil => exact ⟨[], by rw [List.map_eq_nil_iff.mp e], rfl⟩
  | cons x _ ih =>
    obtain ⟨a, m1, rfl, e1, e2⟩ := List.map_eq_cons_iff.mp e
    obtain ⟨m', p1, p2⟩ := ih e2
    exact ⟨a :: m', p1.cons a, by rw [List.map_cons, ← p2, e1]⟩
  | swap x y l =>
    obtain ⟨a, m1, rfl, e1, e2⟩ := List.map_eq_cons_iff.mp e
    obtain ⟨b, m2, rfl, e3, e4⟩ := List.map_eq_cons_iff.mp e2
    exact ⟨b :: a :: m2, .swap _ _ _, by rw [List.map_cons, List.map_cons, e1, e3, e4]⟩
  | trans _ _ ih1 ih2 =>
    obtain ⟨m1, p1, p2⟩ := ih2 e
    obtain ⟨m2, p3, p4⟩ := ih1 p2.symm
    exact ⟨m2, p3.trans p1, p4⟩
def rSortST (X : Cx) : List V → Hp → VK → Prop := fun xs H Q => ∃ (a : Addr) (L : List KP), xs = [V.ref a] ∧ H a = some (SetTO X.prog X.w a L) ∧ (∀ p ∈ L, SqT X.K H p.1 (p.2.map V.int)) ∧ (∀ p ∈ L, p.2 ≠ []) ∧
  ∀ (bs : List KP) (p : Addr), bs.Perm L → (L.map (·.2)).Nodup → (∃ bs' : List KP, bs'.Perm L ∧ bs.map (·.2) = (bs'.map (·.2)).mergeSort rowLe) → H p = none → Q (.ref p) (upd H p (.lst (bs.map fun q => V.ref q.1)))
theorem reads_ints {h : Heap} : ∀ {ns : List Int} {its : List Value}, Vals (ns.map V.int) its → ReadsAll h its (ns.map .int) []
  | [], _, r => by cases r; exact .nil
  | n :: ns, _, r => by
    rw [List.map_cons] at r
    cases r with
    | cons r1 r2 => obtain ⟨t, rfl⟩ := r1; exact .cons (as := []) (bs := []) (.int n t) (reads_ints r2)
theorem cr_sortST (hc : X.calm = true) (hu : X.A.units + 100 < cLine) : CallR X (.builtin "sorted") (rSortST X) := by
  intro pins s σ H xs us Q I r h
  obtain ⟨a, L, rfl, ha, hk, hne, q⟩ := h
  obtain ⟨u, rfl, rx⟩ := r.one
  cases rx
  obtain ⟨es, ep, t, R⟩ := SetT0.full (I.hok a _ ha).1 fun p hp => I.isT (hk p hp)
  obtain ⟨o, ho, hx, hd⟩ := R.ob
  have few := R.few
  refine Calls.call_function_entry kind_sorted plain_sorted entry_sorted (args_sorted1 _) ?_
  unfold Builtin.«sorted»
  refine wpAny_bind (m := checkCount "sorted" 1 1 _) (wpAny_pure (wpAny_bind (collect_set (A := X.A.in1) (I.ok.hd hc) ⟨o, ho, hx.1, hd⟩ R.fits (by rw [R.size]; exact Nat.lt_trans few (by decide)) R.tab.ris R.led fun s1 out kp hz eg eo pm => ?_)))
  rw [R.rows, L2.rowsOf, List.map_map] at pm
  obtain ⟨bs, hb, rfl⟩ : ∃ bs : List KP, bs.Perm L ∧ out = bs.map fun q => Value.ref q.1 := perm_map pm
  have bl : bs.length = L.length := hb.length_eq
  have line : (bs.map fun q : KP => Value.ref q.1).length ≤ sizeLine := by
    rw [List.length_map]; exact Nat.le_trans (show bs.length ≤ 64 by omega) (by decide)
  refine wpAny_bind (wpAny_newList ?_ line)
  have newL0 : (s1.heap.push (seqObj "list" (bs.map fun q : KP => Value.ref q.1).toArray 0)).get? s1.heap.objs.size = some (seqObj "list" (bs.map fun q : KP => Value.ref q.1).toArray 0) := Heap.get?_push_size _ rfl
  have rd1 : ∀ q ∈ bs, ∃ as, Reads (s1.heap.push (seqObj "list" (bs.map fun q : KP => Value.ref q.1).toArray 0)) (Value.ref q.1) (encP q) as ∧ s1.heap.objs.size ∉ as := fun q hq => by
    obtain ⟨its, rv, ⟨o1, g1, c1, n1, d1⟩, _⟩ := I.tuple (hk q (hb.mem_iff.mp hq))
    exact ⟨[], .tuple (Heap.get?_push_of_some _ (kp _ _ g1)) c1 d1 (reads_ints rv), by simp⟩
  have eI : ∀ l : List KP, EachIs (fun (v : Value) (q : KP) => v = .ref q.1) (l.map fun q => Value.ref q.1) l := fun l => by
    induction l with
    | nil => exact .nil
    | cons q l ih => exact .cons rfl ih
  have eR : ∀ (hh : Heap) (m : Addr) (l : List KP), (∀ q ∈ l, ∃ as, Reads hh (Value.ref q.1) (encP q) as ∧ m ∉ as) → EachIs (fun (v : Value) (q : KP) => ∃ as, Reads hh v (encP q) as ∧ m ∉ as) (l.map fun q => Value.ref q.1) l := fun hh m l => by
    induction l with
    | nil => intro _; exact .nil
    | cons q l ih => intro hl; exact .cons (hl q (List.mem_cons_self ..)) (ih fun x hx => hl x (List.mem_cons_of_mem _ hx))
  have dep : ∀ q ∈ bs, X.A.in1.units + 1 + (encP q).depth < cLine := fun q _ => by
    have e1 : X.A.in1.units = X.A.units + 1 := rfl
    have e2 : (encP q).depth = 1 := by
      show PyData.depth (.tuple (q.2.map .int)) = 1
      simp only [PyData.depth, depth_ints q.2]
    rw [e2, e1]; omega
  refine wpAny_bind (wpAny_holding (list_sort_data (a := s1.heap.objs.size) (R := fun (v : Value) (q : KP) => v = .ref q.1) (enc := encP) newL0 (eI bs) (eR _ _ bs rd1) alike_KP (sortable_KP fun q hq => hne q (hb.mem_iff.mp hq)) (by rw [List.length_map] at line; exact line) dep fun out lo each => ?_))
  have e1 : out = (bs.mergeSort (dataLe false encP)).map fun q => Value.ref q.1 := by
    clear lo
    generalize bs.mergeSort (dataLe false encP) = ms at each
    induction each with
    | nil => rfl
    | cons h _ ih => rw [h, ih]; rfl
  have pm2 : (bs.mergeSort (dataLe false encP)).Perm L := (List.mergeSort_perm ..).trans hb
  have ord : (bs.mergeSort (dataLe false encP)).map (·.2) = (bs.map (·.2)).mergeSort rowLe := List.map_mergeSort fun a _ b _ => rfl
  subst e1
  generalize bs.mergeSort (dataLe false encP) = ms at lo pm2 ord each
  obtain ⟨c2, hc2⟩ := sortedHeap_at (vs := bs.map fun q : KP => Value.ref q.1) (out := (ms.map fun q : KP => Value.ref q.1).toArray) newL0
  have keep : ∀ (b : Addr) (u : Obj), s.heap.get? b = some u → (sortedHeap (s1.heap.push (seqObj "list" (bs.map fun q : KP => Value.ref q.1).toArray 0)) s1.heap.objs.size (bs.map fun q : KP => Value.ref q.1) (ms.map fun q : KP => Value.ref q.1).toArray).get? b = some u := fun b u e => by
    have lt := Heap.lt_size (kp _ _ e)
    rw [sortedHeap_old (Nat.ne_of_lt lt) (by rw [Heap.size_push]; exact Nat.lt_succ_of_lt lt)]
    exact Heap.get?_push_of_some _ (kp _ _ e)
  have fresh : H s1.heap.objs.size = none := I.hok.fresh hz
  have rv : Vals (ms.map fun q : KP => V.ref q.1) (ms.map fun q : KP => Value.ref q.1) := by
    have := vals_refs (ms.map (·.1))
    rw [List.map_map, List.map_map] at this
    exact this
  have len2 : (ms.map fun q : KP => V.ref q.1).length ≤ sizeLine := by
    rw [List.length_map, pm2.length_eq]; exact Nat.le_trans (show L.length ≤ 64 by omega) (by decide)
  have okl : ObjOk X.prog X.w (upd H s1.heap.objs.size (.lst (ms.map fun q : KP => V.ref q.1))) (sortedHeap (s1.heap.push (seqObj "list" (bs.map fun q : KP => Value.ref q.1).toArray 0)) s1.heap.objs.size (bs.map fun q : KP => Value.ref q.1) (ms.map fun q : KP => Value.ref q.1).toArray) s1.heap.objs.size (.lst (ms.map fun q : KP => V.ref q.1)) := ⟨len2, _, c2, rv, hc2⟩
  have J := I.call (g' := s1.gens) (t' := s1.toks) (d' := s1.drawn) (ch := []) (Un.laid keep hz fresh) (HOk.laid I.hok keep hz okl) (by rw [eg]; exact I.bare) fun b z => nomatch z
  refine wpAny_pure ⟨_, rfl, .ref s1.heap.objs.size, _, ?_, rfl, q ms _ pm2 R.nd ⟨bs, hb, ord⟩ fresh⟩
  rw [← eo] at J
  exact J
def rLenST (X : Cx) : List V → Hp → VK → Prop := fun xs H Q => ∃ (a : Addr) (L : List KP), xs = [V.ref a] ∧ H a = some (SetTO X.prog X.w a L) ∧ (∀ p ∈ L, SqT X.K H p.1 (p.2.map V.int)) ∧ ((L.map (·.2)).Nodup → Q (.int L.length) H)
end
end Rf

namespace Rf
open PySem PySem.W PySem.Calls PySem.Spec L2 PyProof.Rows

/-! ### sorted(set(x)), len(set(x)): readings, the set itself is never seen -/
def uniq {α : Type} [DecidableEq α] : List α → List α
  | [] => []
  | x :: xs => if x ∈ uniq xs then uniq xs else x :: uniq xs
theorem uniq_mem {α : Type} [DecidableEq α] {a : α} : ∀ {xs : List α}, a ∈ uniq xs ↔ a ∈ xs
  | [] => Iff.rfl
  | x :: xs => by
    have ih := uniq_mem (a := a) (xs := xs)
    unfold uniq
    split
    · rename_i h
      rw [ih, List.mem_cons]
      refine ⟨.inr, fun z => z.elim (fun e => ?_) id⟩
      rw [e]; exact uniq_mem.mp h
    · rw [List.mem_cons, List.mem_cons, ih]
theorem uniq_nodup {α : Type} [DecidableEq α] : ∀ xs : List α, (uniq xs).Nodup
  | [] => .nil
  | x :: xs => by
    unfold uniq
    split
    · exact uniq_nodup xs
    · rename_i h
      exact List.nodup_cons.mpr ⟨h, uniq_nodup xs⟩
theorem uniq_len {α : Type} [DecidableEq α] : ∀ xs : List α, (uniq xs).length ≤ xs.length
  | [] => Nat.le_refl _
  | x :: xs => by
    have := uniq_len xs
    unfold uniq
    split <;> simp <;> omega
theorem rowLe_leq (a b : List Int) : rowLe a b = decide (a ≤ b) := by
  unfold rowLe
  rw [dataLt_tuple]
  have e := dataLt_ints b a
  unfold rowLt at e
  rw [e]
  by_cases h : b < a
  · simp [h, show ¬ a ≤ b from List.not_le.mpr h]
  · simp [h, show a ≤ b from List.not_lt.mp h]
theorem rows_up (ns : List (List Int)) : (ns.mergeSort rowLe).Pairwise fun a b => rowLe a b = true := by
  refine List.pairwise_mergeSort (fun a b c h k => ?_) (fun a b => ?_) ns
  · rw [rowLe_leq, decide_eq_true_iff] at *
    exact List.le_trans h k
  · rw [rowLe_leq, rowLe_leq, Bool.or_eq_true, decide_eq_true_iff, decide_eq_true_iff]
    exact List.le_total a b
theorem rows_perm {ns ms : List (List Int)} (h : ns.Perm ms) : ns.mergeSort rowLe = ms.mergeSort rowLe := by
  refine List.Perm.eq_of_pairwise (le := fun a b => rowLe a b = true) (fun a b _ _ h1 h2 => ?_) (rows_up ns) (rows_up ms) (((List.mergeSort_perm ns rowLe).trans h).trans (List.mergeSort_perm ms rowLe).symm)
  rw [rowLe_leq, decide_eq_true_iff] at h1 h2
  exact List.le_antisymm h1 h2
def rowsID : List PyData → Option (List (List Int))
  | [] => some []
  | d :: ds => match keyRow d, rowsID ds with
    | some n, some ns => some (n :: ns)
    | _, _ => none
section
variable {X : Cx} {g : Gx} {B : WX} {bs : List Nat} {ρ : List Addr} {F N H : Hp} {S : Store} {σ : L2.St}
theorem rpAll_ints {K : PySem.W.Frag} : ∀ {ns : List Int} {vs : List V}, RpAll K F vs (ns.map .int) → vs = ns.map V.int
  | [], _, r => by cases r; rfl
  | n :: ns, _, r => by
    rw [List.map_cons] at r
    cases r with
    | cons a b => cases a; rw [rpAll_ints b]; rfl
theorem rows_of {K : PySem.W.Frag} : ∀ {ds : List PyData} {vs : List V} {rs : List (List Int)}, RpAll K F vs ds → rowsID ds = some rs →
    ∃ ks : List KP, vs = ks.map (fun p => V.ref p.1) ∧ ks.map (·.2) = rs ∧ ∀ p ∈ ks, p.2 ≠ [] ∧ SqT K F p.1 (p.2.map V.int) ∧ Rp K F (V.ref p.1) (.tuple (p.2.map .int))
  | [], _, _, r, h => by
    cases r
    simp only [rowsID] at h
    cases h
    exact ⟨[], rfl, rfl, by simp⟩
  | d :: ds, _, _, r, h => by
    cases r with
    | cons r1 r2 =>
      simp only [rowsID] at h
      split at h
      · rename_i n ns h1 h2
        cases h
        obtain ⟨ks, rfl, e2, e3⟩ := rows_of r2 h2
        obtain ⟨rfl, ne⟩ := keyRow_eq h1
        cases r1 with
        | @tup a ws _ q rr =>
          have := rpAll_ints rr
          subst this
          refine ⟨(a, n) :: ks, rfl, by rw [List.map_cons, e2], fun p hp => ?_⟩
          rcases List.mem_cons.mp hp with rfl | hp
          · exact ⟨ne, SqT.of q, .tup q rr⟩
          · exact e3 p hp
      · cases h
theorem all_rows {K : PySem.W.Frag} : ∀ {ks : List KP}, (∀ p ∈ ks, Rp K F (V.ref p.1) (.tuple (p.2.map .int))) → IsAll K ρ F (ks.map fun p => V.ref p.1) (ks.map fun p => W.dat (.tuple (p.2.map .int)))
  | [], _ => .nil
  | p :: ks, h => .cons (.dat (h p List.mem_cons_self)) (all_rows fun q hq => h q (List.mem_cons_of_mem _ hq))
def sortSetF (k : Bool) : OpN := fun _ ws S => match ws with
  | [w] => match lstOf S w with
    | some zs => match intsW zs with
      | some ns => if ns.length < 60 then some (newL k ((sortInts (uniq ns)).map fun i => .dat (.int i)) S) else none
      | none => match (allDat zs).bind rowsID with
        | some rs => if rs.length < 60 then some (newL k (((uniq rs).mergeSort rowLe).map fun n => .dat (.tuple (n.map .int))) S) else none
        | none => none
    | none => none
  | _ => none
def lenSetF : OpN := fun _ ws S => match ws with
  | [w] => match (lstOf S w).bind allDat with
    | some ds => match rowsID ds with
      | some rs => if rs.length < 60 then some (.int (uniq rs).length, S) else none
      | none => none
    | none => none
  | _ => none
def rSetA (X : Cx) : List V → Hp → VK → Prop := fun xs H Q => rSetI X xs H Q ∨ rSetOfT X.K X.prog X.w xs H Q
theorem cr_setA (hc : X.calm = true) (hu : X.A.units + 100 < cLine) : CallR X (.type "set") (rSetA X) := by
  intro pins s σ H xs us Q I r h
  rcases h with h | h
  · exact cr_setI hc pins s σ H xs us Q I r h
  · exact cr_setOfT hc (by omega) pins s σ H xs us Q I r h
def rSortA (X : Cx) : List V → Hp → VK → Prop := fun xs H Q => rSortedSet X.w xs H Q ∨ rSortST X xs H Q
theorem cr_sortA (hc : X.calm = true) (hu : X.A.units + 100 < cLine) : CallR X (.builtin "sorted") (rSortA X) := by
  intro pins s σ H xs us Q I r h
  rcases h with h | h
  · exact cr_sortedSet hc pins s σ H xs us Q I r h
  · exact cr_sortST hc hu pins s σ H xs us Q I r h
theorem set_sorted (hK : g.K = X.K) {k : Bool} {xs : List V} {Q : VK} (h : rdN g (sortSetF k) xs H Q) : rSetA X xs H fun v H1 => rSortA X [v] H1 Q := by
  obtain ⟨bs, ρ, F, N, S, ws, s, l, p⟩ := h
  unfold sortSetF at p
  split at p
  · obtain ⟨v, rfl, r⟩ := all_one l
    split at p
    · rename_i zs h2
      obtain ⟨a, vs, rfl, q1, l1⟩ := lst_of s r h2
      split at p
      · rename_i ns h3
        split at p
        · rename_i few
          have ev := ints_is l1 h3
          subst ev
          refine .inl ⟨a, ns, rfl, hK ▸ q1, by omega, fun b c hb hc => .inl ⟨b, _, c, rfl, upd_same, by omega, fun ms p0 pw mem len hp => ?_⟩⟩
          have nd : ms.Nodup := pw.imp fun z => Int.ne_of_lt z
          have e : ms = sortInts (uniq ns) := sortInts_eq ((List.perm_ext_iff_of_nodup nd (uniq_nodup ns)).mpr fun x => by rw [mem, uniq_mem, decide_eq_true_iff]) (pw.imp fun z => Int.le_of_lt z)
          rw [e]
          exact new_ok (s.heap (same_new hb)) hp (isAll_ints _) fun ρ' F' H2 v2 gr s3 r3 => p ρ' F' H2 v2 gr s3 r3
        · exact p.elim
      · split at p
        · rename_i rs h4
          split at p
          · rename_i few
            obtain ⟨ds, h5, h6⟩ := Option.bind_eq_some_iff.mp h4
            obtain ⟨ks, rfl, ek, hks⟩ := rows_of (l1.dats h5) h6
            have kl : ks.length = rs.length := by rw [← ek, List.length_map]
            refine .inr ⟨a, ks, rfl, hK ▸ q1, fun q hq => hK ▸ Same.sqT s.ex (hks q hq).2.1, by omega, fun b L hb sub all => .inr ⟨b, L, rfl, upd_same, fun q hq => hK ▸ Same.sqT (same_new hb) (Same.sqT s.ex (hks q (sub q hq)).2.1), fun q hq => (hks q (sub q hq)).1, fun cs p0 pm nd ⟨cs', pm', ord⟩ hp => ?_⟩⟩
            have same : (cs'.map (·.2)).Perm (uniq rs) := by
              refine (List.perm_ext_iff_of_nodup ((pm'.map (·.2)).nodup_iff.mpr nd) (uniq_nodup rs)).mpr fun x => ?_
              rw [(pm'.map (·.2)).mem_iff, uniq_mem, ← ek]
              refine ⟨fun hx => ?_, fun hx => ?_⟩
              · obtain ⟨y, hy, rfl⟩ := List.mem_map.mp hx
                exact List.mem_map.mpr ⟨y, sub y hy, rfl⟩
              · obtain ⟨y, hy, rfl⟩ := List.mem_map.mp hx
                exact all y hy
            rw [rows_perm same] at ord
            have ew : (cs.map fun q => W.dat (.tuple (q.2.map .int))) = ((uniq rs).mergeSort rowLe).map fun n => W.dat (.tuple (n.map .int)) := by
              rw [← ord, List.map_map]; rfl
            refine new_ok (s.heap (same_new hb)) hp ?_ fun ρ' F' H2 v2 gr s3 r3 => p ρ' F' H2 v2 gr s3 r3
            rw [← ew]
            exact all_rows fun q hq => (hks q (sub q (pm.mem_iff.mp hq))).2.2
          · exact p.elim
        · exact p.elim
    · exact p.elim
  · exact p.elim
theorem re_sortSet {k : Bool} {e : Expr} {ms : M (List W)} {p p2 q pos : Pos} (hK : g.K = X.K) (hc : X.calm = true) (hu : X.A.units + 100 < cLine) (ha : PA X [e] (rdA g B ms)) (hg : Gl X "sorted") (hm : X.mg "sorted" = none) (hv : bootBuiltins "sorted" = some (.builtin "sorted")) (hg2 : Gl X "set") (hm2 : X.mg "set" = none) (hv2 : bootBuiltins "set" = some (.type "set")) 
    (he : starEach [e] X.env = (false, eval e X.env) :: starEach [] X.env := by rfl) (hpl : (backTo q (starEach ([] : List Expr) X.env)).any (·.1) = false := by rfl)
    (he2 : starEach [.Call (.Name "set" p2) [e] [] q] X.env = (false, eval (.Call (.Name "set" p2) [e] [] q) X.env) :: starEach [] X.env := by rfl) (hpl2 : (backTo pos (starEach ([] : List Expr) X.env)).any (·.1) = false := by rfl) :
    PE X (.Call (.Name "sorted" p) [.Call (.Name "set" p2) [e] [] q] [] pos) (rd g B (mCB (sortSetF k) ms)) :=
  (pe_callB (cr_sortA hc hu) hg hm hv (pa_cons (pe_callTy (cr_setA hc hu) hg2 hm2 hv2 ha (by decide) (by decide) he hpl) pa_nil he2) (by decide) (by decide) he2 hpl2).imp fun σ H Q ⟨bs, ρ, F, N, env, S, s, e, p⟩ => by
    refine ⟨bs, ρ, F, N, env, S, s, e, (Post.bind p).imp fun x H1 ⟨ρ1, F1, wx, S1, g1, s1, r1, p1⟩ => ?_⟩
    exact set_sorted hK ⟨bs, ρ1, F1, N, S1, wx, s1, r1, post_op p1⟩
end
end Rf

namespace Rf
open PySem PySem.W PySem.Calls PySem.Spec L2 PyProof.Rows

/-! ### max(d), d a dict with whole numbers as keys -/
section
variable {X : Cx} {g : Gx} {B : WX} {bs : List Nat} {ρ : List Addr} {F N H : Hp} {S : Store} {σ : L2.St}
def rMaxK : List V → Hp → VK → Prop := fun vs H Q => ∃ (a : Addr) (kvs : List (Key × V)) (ns : List Int), vs = [V.ref a] ∧ H a = some (.dK kvs) ∧ kvs.map (·.1) = ns.map Sum.inl ∧ ns ≠ [] ∧ ∀ m, m ∈ ns → (∀ j ∈ ns, j ≤ m) → Q (.int m) H
def maxDF : OpN := fun _ ws S => match ws with
  | [w] => match freeD S w with
    | some us => match intKeys us with
      | some ns => match ns.max? with
        | some m => some (.int m, S)
        | none => none
      | none => none
    | none => none
  | _ => none
/-- max(..) of a list, a tuple, or of a dict's keys -/
def maxAF : OpN := fun bs ws S => match un maxTF bs ws S with
  | some r => some r
  | none => maxDF bs ws S
end
end Rf

namespace Rf
open PySem PySem.Spec L2 PyProof.Rows

/-! ### defs as values: a name that holds one is called -/
def FnE (X : Cx) (g : Gx) (p : Str × FnT) : Prop := ∃ (k : Nat) (f : Addr) (fd : FuncData) (ps : List Str), RoomG k X.A ∧ PySem.W.nsIn g.K mainGlobals p.1 = some (some (.ref f)) ∧
  FnG X.prog X.w X.K X.mg X.base k f fd ps (spF g p.2) ∧ PySem.W.keepIn X.K (.ref f) = true ∧ Binds X.K fd ps []
def mCallV (tbl : List (Str × FnT)) (i : Nat) (ms : M (List W)) : M W := fun bs env S => match env[i]? with
  | some (some (.fn x)) => match tbl.find? fun p => decide (p.1 = x) with
    | some p => mCall p.2 ms bs env S
    | none => .stuck
  | _ => .stuck
section
variable {X : Cx} {g : Gx} {B : WX} {n : Str} {i : Nat} {p pos : Pos} {e : Expr} {es : List Expr} {ms : M (List W)} {tbl : List (Str × FnT)}
end
/-! ### a name is given a list made by two walks -/
section
variable {X : Cx} {g : Gx} {B : WX} {pos : Pos}
theorem rs_setLc2 {k : Bool} {i : Nat} {y : Str} {py spos : Pos} {elt tg iter tg1 iter1 : Expr} {ifs ifs1 : List Expr} {scope : Scope} {own : List (Str × Nat)} {vs1 : List Nat} {mi mi1 : M Iter} {t t1 : TM} {mc mc1 : M Bool} {me : M W} (hc : X.calm = true) (hN : X.N.Nodup)
    (hy : X.N[i]? = some y) (hyl : X.env.scope.names.lookup y = some .local) (hsw : swapsWith (.ListComp elt [⟨tg, iter, ifs, 0⟩, ⟨tg1, iter1, ifs1, 0⟩] scope pos) (some (.Name y py)) spos.line X.env = pure true)
    (ok : BlkOk X.N X.env.scope scope own) (hi : PI X tg iter (rdI g B mi))
    (hg : ∀ s H C cl fp, PG (X.blk s H scope (compEnvC scope cl C X.env) fp) tg (rdTc g NoB (own.map (·.2)) t)) (ht : ∀ s H C cl fp, PTs (X.blk s H scope (compEnvC scope cl C X.env) fp) ifs (rdT g NoB mc))
    (hi1 : ∀ s H C cl fp, PI (X.blk s H scope (compEnvC scope cl C X.env) fp) tg1 iter1 (rdI g NoB mi1))
    (hg1 : ∀ s H C cl fp, PG (X.blk s H scope (compEnvC scope cl C X.env) fp) tg1 (rdTc g NoB vs1 t1)) (ht1 : ∀ s H C cl fp, PTs (X.blk s H scope (compEnvC scope cl C X.env) fp) ifs1 (rdT g NoB mc1))
    (he : ∀ s H C cl fp, PE (X.blk s H scope (compEnvC scope cl C X.env) fp) elt (rd g NoB me)) (hv : ∀ i ∈ vs1, i ∈ own.map (·.2) := by decide) (hs : ∀ x, foldedSetIterable iter X.env x = pure x := by intro _; rfl) (hs1 : ∀ env x, foldedSetIterable iter1 env x = pure x := by intro _ _; rfl) :
    PS X (.Assign [.Name y py] (.ListComp elt [⟨tg, iter, ifs, 0⟩, ⟨tg1, iter1, ifs1, 0⟩] scope pos) spos) (rdS g B (sAsg (mComp2 k mi (own.map (·.2)) t mc mi1 vs1 t1 mc1 me) (tName i))) := (ps_setLc2 hc hN hy hyl hsw hi ok hv hg ht hi1 hg1 ht1 he hs hs1).imp fun D σ H h =>
  rd_lc2 σ H _ (rdG_imp (rd_asg D σ H h) fun v H1 ⟨bs, ρ, F, N, env, S, w, s, e, r, p⟩ => p ρ F H1 _ (Grow.refl _ _) s (e.set i r))
end
end Rf

namespace Rf
open PySem PySem.Spec L2 PyProof.Rows

/-! ### a property is read -/
section
variable {X : Cx} {g : Gx} {B : WX} {k : Nat} {C pr fa a dx : Addr} {fs : List (Str × V)} {f : Str} {fd : FuncData} {ps : List Str} {ff : FnT}
end
/-! ### o.f: a field of some classes, a property of others -/
def mAttr (cs : List Nat) (props : List (Nat × FnT)) (f : Str) (m : M W) : M W := fun bs env S => (m bs env S).bind fun w S1 => match w with
  | .loc n => match S1[n]? with
    | some (.ins c fs) => match props.find? fun p => decide (p.1 = c) with
      | some p => (p.2 bs [.loc n] S1).bindC fun u S2 => .ok u S2
      | none => if c ∈ cs then match fs.lookup f with
          | some v => .ok v.weak S1
          | none => .stuck
        else .stuck
    | _ => .stuck
  | _ => .stuck
/-- what is known of a property of a class: its getter's reading -/
def PrE (X : Cx) (g : Gx) (f : Str) (p : Nat × FnT) : Prop := ∃ (k : Nat) (pr fa : Addr) (fd : FuncData) (ps : List Str), RoomG (k + 1) X.A ∧ Cls X.K (g.cls p.1) ∧ PropOf X.K (g.cls p.1) f pr fa ∧ FnG X.prog X.w X.K X.mg X.base k fa fd ps (spF g p.2) ∧ Binds X.K fd ps []
section
variable {X : Cx} {g : Gx} {B : WX} {cs : List Nat} {props : List (Nat × FnT)} {f : Str} {e : Expr} {ma : M W} {pos : Pos}
end
/-! ### o.m(..), o of one of several classes -/
def mMethT (tbl : List (Nat × FnT)) (m : Str) (mo : M W) (ms : M (List W)) : M W := fun bs env S => (mo bs env S).bind fun w S1 => match w with
  | .loc n => match S1[n]? with
    | some (.ins c _) => match tbl.find? fun p => decide (p.1 = c) with
      | some p => methB p.1 m p.2 ms bs env w S1
      | none => .stuck
    | _ => .stuck
  | _ => .stuck
def MeE (X : Cx) (g : Gx) (m : Str) (p : Nat × FnT) : Prop := ∃ (k : Nat) (fa : Addr) (fd : FuncData) (ps : List Str), RoomG k X.A ∧ Cls X.K (g.cls p.1) ∧ Meth X.K (g.cls p.1) m fa ∧ FnG X.prog X.w X.K X.mg X.base k fa fd ps (spF g p.2) ∧ Binds X.K fd ps []
section
variable {X : Cx} {g : Gx} {B : WX} {tbl : List (Nat × FnT)} {m : Str} {o e : Expr} {es : List Expr} {mo : M W} {ms : M (List W)} {pos apos : Pos}
end
/-! ### isinstance of an own class; of an instance -/
def tyNames : List String := ["NoneType", "bool", "int", "str", "list", "tuple", "dict"]
structure IsC (K : PySem.W.Frag) (C : Addr) : Prop where
  cl : Cls K C
  ha : PySem.W.findIn K (.ref C) "__class__" = some (some (.builtin "object.__class__"))
  hn : PySem.W.specialIn K (.builtin "object.__class__") "__get__" = some (some (.builtin "getset_descriptor.__get__"))
  htk : PySem.W.takesIn K (.builtin "object.__class__") = some true
  hm : PySem.W.mroIn K C (.type "object") = some true
  no : ∀ T ∈ tyNames, PySem.W.kitOne K (.type T) (.ref C) = some false
  nt : ∀ T ∈ tyNames, PySem.W.kitOne K (.ref C) (.type T) = some false
def mIsiC (cs : List Nat) (c : Nat) (m : M W) : M W := fun bs env S => (m bs env S).bind fun w S1 => match tyW S1 w with
  | some T => if T ∈ tyNames then .ok (.bl false) S1 else .stuck
  | none => match w with
    | .loc n => match S1[n]? with
      | some (.ins k _) => if k ∈ cs then .ok (.bl (decide (k = c))) S1 else .stuck
      | _ => .stuck
    | _ => .stuck
def mIsiX (cs : List Nat) (T : String) (m : M W) : M W := fun bs env S => (m bs env S).bind fun w S1 => match isiW T S1 w with
  | some u => .ok u S1
  | none => match w with
    | .loc n => match S1[n]? with
      | some (.ins k _) => if k ∈ cs then .ok (.bl false) S1 else .stuck
      | _ => .stuck
    | _ => .stuck
section
variable {X : Cx} {g : Gx} {B : WX} {a : Expr} {ma : M W} {pos : Pos} {cs : List Nat}
end
section
variable {K : PySem.W.Frag} {S C : Addr} {T : String} {b : Bool}
end
end Rf

namespace Rf
open PySem PySem.W PySem.Calls PySem.Spec L2 PyProof.Rows

/-! ### sets of keys of one kind, with what the walk over them asks -/
section
variable {P : Program} {w : World} {K : Type} [DecidableEq K] (knd : PySem.KeyKind P w K)
/-- two entries have no key together -/
abbrev Unlike : Int × Value → Int × Value → Prop := fun e f => ∀ k, knd.is k e.2 = true → knd.is k f.2 = true → False
structure Tabled (w : World) (es : Array (Int × Value)) (t : SetTable) : Prop where
  few : es.size < scanBound
  fits : t.fits es.size = true
  ris : Ris t.place.toList
  led : w.params.followText "set-order" = true ∨ t.led = true
structure SetIs (h : Heap) (a : Addr) (es : Array (Int × Value)) (t : SetTable) : Prop where
  obj : ∃ o ep, h.get? a = some o ∧ o.ExactSet ∧ o.data = .set es ep t
  all : ElemsOf knd es.toList
  apart : es.toList.Pairwise (Unlike knd)
  tab : Tabled w es t
def SetG (h : Heap) (a : Addr) (S : K → Bool) (n : Nat) : Prop := ∃ es t, SetIs knd h a es t ∧ (∀ k, S k = true ↔ ∃ e ∈ es.toList, knd.is k e.2 = true) ∧ es.size = n
end
section
variable {P : Program} {w : World} {K : Type} [DecidableEq K] {knd : PySem.KeyKind P w K} {A : Around} {E : Value → Shared → Prop} {s : Shared} {a : Addr} {S : K → Bool} {n : Nat}
theorem SetIs.keeps {h h' : Heap} {es : Array (Int × Value)} {t : SetTable} (x : SetIs knd h a es t) (k : ∀ o, h.get? a = some o → h'.get? a = some o) : SetIs knd h' a es t :=
  ⟨let ⟨o, ep, g, r⟩ := x.obj; ⟨o, ep, k o g, r⟩, x.all, x.apart, x.tab⟩
theorem SetG.keeps {h h' : Heap} (x : SetG knd h a S n) (k : ∀ o, h.get? a = some o → h'.get? a = some o) : SetG knd h' a S n := let ⟨es, t, i, r⟩ := x; ⟨es, t, i.keeps k, r⟩
theorem SetG.same {h : Heap} {S' : K → Bool} (x : SetG knd h a S n) (e : ∀ k, S' k = S k) : SetG knd h a S' n := by rw [show S' = S from funext e]; exact x
/-- what is stored last -/
theorem setG_store {grown : Bool → Sem Unit} (hg : ∀ (b : Bool) (s1 : Shared) (R : Unit → Shared → Prop), R () s1 → wpAny (model P w) A (grown b) R E s1) {o : Obj} {es es1 : Array (Int × Value)} {ep : Nat} {t t1 : SetTable}
    (lies : s.heap.get? a = some o) (exact_ : o.ExactSet) (dat : o.data = .set es ep t) (all : ElemsOf knd es1.toList) (apart : es1.toList.Pairwise (Unlike knd)) (tab : Tabled w es1 t1) {dummy : Bool} {R : Option Bool → Shared → Prop}
    (fin : ∀ h2 es2 t2, Heap.SameBut a s.heap h2 → es2.toList.Perm es1.toList → SetIs knd h2 a es2 t2 → R (some true) { s with heap := h2 }) :
    wpAny (model P w) A (do
      storeSet a es1 t1
      if (!dummy && t1.tooFull) = true then do
        grown (relayAll t1 es1 (SetTable.grown es1.size)).2.2
        storeSet a (relayAll t1 es1 (SetTable.grown es1.size)).1 (relayAll t1 es1 (SetTable.grown es1.size)).2.1
        pure (some true)
      else pure (some true)) R E s := by
  refine wpAny_bind (wpAny_storeSet_of lies dat ?_ (fits_of_scanBound tab.few))
  have lies1 := store_at (es' := es1) (t' := t1) lies dat
  have but1 := Heap.SameBut.update s.heap a (Obj.putSet es1 t1)
  split
  · have perm := relayAll_perm t1 es1 (SetTable.grown es1.size)
    have fit2 := relayAll_fits t1 es1 (SetTable.grown es1.size)
    have ris2 := relayAll_ris t1 es1 (SetTable.grown es1.size)
    have led2 := relayAll_led t1 es1 (SetTable.grown es1.size)
    generalize relayAll t1 es1 (SetTable.grown es1.size) = laid at perm fit2 ris2 led2 ⊢
    obtain ⟨es2, t2, gave⟩ := laid
    dsimp only at perm fit2 ris2 led2 ⊢
    have many : es2.size = es1.size := by rw [← Array.length_toList, perm.length_eq, Array.length_toList]
    have tab2 : Tabled w es2 t2 := ⟨by rw [many]; exact tab.few, fit2, ris2, tab.led.imp id fun z => led2.trans z⟩
    refine wpAny_bind (hg _ _ _ (wpAny_bind (wpAny_storeSet_of lies1 rfl ?_ (fits_of_scanBound tab2.few))))
    have lies2 := store_at (es' := es2) (t' := t2) lies1 rfl
    refine wpAny_pure (fin _ es2 t2 (but1.trans (Heap.SameBut.update _ a _)) perm ⟨⟨_, _, lies2, exact_, rfl⟩, fun e he => all e (perm.mem_iff.mp he), ?_, tab2⟩)
    exact (perm.pairwise_iff fun h k p q => h k q p).mpr apart
  · exact wpAny_pure (fin _ es1 t1 but1 (List.Perm.refl _) ⟨⟨_, _, lies1, exact_, rfl⟩, all, apart, tab⟩)
theorem setG_add {k : K} {x : Value} {Q : Bool → Shared → Prop} (G : SetG knd s.heap a S n) (hk : knd.is k x = true) (plain : x.scannable = true) (room : n + 1 < scanBound)
    (fin : ∀ h2, Heap.SameBut a s.heap h2 → SetG knd h2 a (fun j => S j || decide (j = k)) (if S k = true then n else n + 1) → Q (!S k) { s with heap := h2 }) : wpAny (model P w) A (setAddHashed a x (knd.hash k)) Q E s := by
  obtain ⟨es, t, ⟨⟨o, ep, lies, exact_, dat⟩, all, apart, tab⟩, mem, size⟩ := G
  unfold setAddHashed setAddHashedIn
  refine wpAny_holding (wpAny_bind (wpAny_setState_of lies dat tab.fits ?_))
  dsimp only
  rw [byScan_of plain tab.few all]
  simp only [↓reduceIte]
  unfold setAddByScan
  refine wpAny_bind (wpAny_bind (wpAny_rule (wpAny_bind (wpAny_setScan_of hk lies dat tab.fits all ?_))))
  cases found : List.findIdx? (fun e => knd.is k e.2) es.toList with
  | some j =>
    dsimp only
    obtain ⟨lt, is, _⟩ := List.findIdx?_eq_some_iff_getElem.mp found
    have there : S k = true := (mem k).mpr ⟨es.toList[j], List.getElem_mem lt, is⟩
    refine wpAny_pure (wpAny_pure ?_)
    have q := fin s.heap (Heap.SameBut.refl a s.heap) ⟨es, t, ⟨⟨o, ep, lies, exact_, dat⟩, all, apart, tab⟩, fun i => by
      rw [Bool.or_eq_true, decide_eq_true_eq, ← mem i]
      exact ⟨fun z => z.elim id fun e => (by rw [e]; exact there), .inl⟩, by rw [if_pos there]; exact size⟩
    rw [there] at q
    exact q
  | none =>
    dsimp only
    have new : ∀ e ∈ es.toList, knd.is k e.2 = false := fun e he => by
      have z := List.findIdx?_eq_none_iff.mp found e he
      simpa using z
    have not : S k = false := by
      cases q : S k with
      | false => rfl
      | true =>
        obtain ⟨e, he, z⟩ := (mem k).mp q
        rw [new e he] at z; cases z
    have perm := layNew_perm t es (knd.hash k) x
    have fit1 := layNew_fits t es (knd.hash k) x
    have ris1 := layNew_ris t es (knd.hash k) x tab.ris
    have led1 := layNew_led t es (knd.hash k) x
    generalize layNew t es (knd.hash k) x = laid at perm fit1 ris1 led1 ⊢
    obtain ⟨es1, t1, dummy, gave⟩ := laid
    dsimp only at perm fit1 ris1 led1 ⊢
    rw [Array.toList_push] at perm
    have front : es1.toList.Perm ((knd.hash k, x) :: es.toList) := perm.trans (List.perm_append_singleton _ _)
    have all1 : ElemsOf knd es1.toList := fun e he => by
      rcases List.mem_cons.mp (front.mem_iff.mp he) with z | z
      · subst z; exact ⟨⟨k, hk, rfl⟩, plain⟩
      · exact all e z
    have apart1 : es1.toList.Pairwise (Unlike knd) := (front.pairwise_iff fun h i p q => h i q p).mpr (List.pairwise_cons.mpr ⟨fun f hf i p q => (by
      have e : i = k := knd.inj x i k p hk
      subst e
      rw [new f hf] at q; exact Bool.noConfusion q), apart⟩)
    have mem1 : ∀ i, (S i || decide (i = k)) = true ↔ ∃ e ∈ es1.toList, knd.is i e.2 = true := fun i => by
      rw [Bool.or_eq_true, decide_eq_true_eq, mem i]
      constructor
      · rintro (⟨e, he, z⟩ | rfl)
        · exact ⟨e, front.mem_iff.mpr (List.mem_cons_of_mem _ he), z⟩
        · exact ⟨_, front.mem_iff.mpr List.mem_cons_self, hk⟩
      · rintro ⟨e, he, z⟩
        rcases List.mem_cons.mp (front.mem_iff.mp he) with y | y
        · subst y; exact .inr (knd.inj x i k z hk)
        · exact .inl ⟨e, y, z⟩
    have size1 : es1.size = n + 1 := by rw [← Array.length_toList, front.length_eq, List.length_cons, Array.length_toList, size]
    have led2 : w.params.followText "set-order" = true ∨ t1.led = true := tab.led.imp id fun z => led1.trans z
    have last : ∀ h2 es2 t2, Heap.SameBut a s.heap h2 → es2.toList.Perm es1.toList → SetIs knd h2 a es2 t2 → Q true { s with heap := h2 } := fun h2 es2 t2 but pm is => by
      have q := fin h2 but ⟨es2, t2, is, fun i => (mem1 i).trans ⟨fun ⟨e, he, z⟩ => ⟨e, pm.mem_iff.mpr he, z⟩, fun ⟨e, he, z⟩ => ⟨e, pm.mem_iff.mp he, z⟩⟩, by
        rw [not, if_neg (by decide), ← Array.length_toList, pm.length_eq, Array.length_toList, size1]⟩
      rw [not] at q
      exact q
    have gaveWay : ∀ (b : Bool) (s1 : Shared) (R : Unit → Shared → Prop), R () s1 → wpAny (model P w) A (match b with | true => rule "set.scan.the-table-gave-way" | false => pure ()) R E s1 := fun b s1 R q => by
      cases b
      · exact wpAny_pure q
      · exact wpAny_rule q
    have few1 : es1.size < scanBound := by rw [size1]; exact room
    refine wpAny_bind (gaveWay _ _ _ ?_)
    split
    · refine wpAny_bind ?_
      rw [hashByValue_scannable 8 plain]
      refine wpAny_pure ?_
      refine setG_store gaveWay lies exact_ dat all1 apart1 ⟨few1, ?_, ?_, ?_⟩ ?_
      · first | (split <;> first | exact fit1 | exact SetTable.fits_plain_off fit1) | exact fit1
      · first | (split <;> exact ris1) | exact ris1
      · first | (split <;> exact led2) | exact led2
      · intro h2 es2 t2 but pm is; dsimp only; exact wpAny_pure (last h2 es2 t2 but pm is)
    · refine wpAny_bind (wpAny_pure ?_)
      simp only [↓reduceIte]
      refine setG_store gaveWay lies exact_ dat all1 apart1 ⟨few1, fit1, ris1, led2⟩ ?_
      intro h2 es2 t2 but pm is; dsimp only; exact wpAny_pure (last h2 es2 t2 but pm is)
end
/-! ### set(list of texts) -/
section
variable {P : Program} {w : World} {A : Around} {E : Value → Shared → Prop} {s : Shared}
theorem strs_at : ∀ {us : List Value} {ws : List Str}, StrsAre us ws → ∀ (i : Nat) (v : Value), us[i]? = some v → ∃ k t, ws[i]? = some k ∧ v = .str k t
  | _, _, .nil, i, v, h => by simp at h
  | _, _, .cons y t r, i, v, h => by
    cases i with
    | zero => simp only [List.getElem?_cons_zero, Option.some.injEq] at h; exact ⟨y, t, rfl, h.symm⟩
    | succ i => rw [List.getElem?_cons_succ] at h ⊢; exact strs_at r i v h
theorem setG_empty {h : Heap} {a : Addr} {ws : List Str} (lies : h.get? a = some (emptyS w)) : SetG (PySem.strKind P w) h a (fun j => decide (j ∈ ws.take 0)) 0 :=
  ⟨#[], _, ⟨⟨_, 0, lies, ⟨rfl, rfl, rfl⟩, rfl⟩, fun e he => (by simp at he), .nil, ⟨by decide, rfl, List.Pairwise.nil, by
    show _ ∨ (!w.params.followText "set-order") = true
    cases w.params.followText "set-order"
    · exact .inr rfl
    · exact .inl rfl⟩⟩, fun k => by simp, rfl⟩
theorem set_update_texts {I : Addr} {fp wrt : List Addr} {G : Array GenState → Array GenState → Prop} {n : Nat} {Pv : Nat → Value → Prop} {St : Nat → Shared → Prop} {R : Result → Shared → Prop} (W : WalksS P w A.in1 I fp wrt G n Pv St) (b : Addr) (off : b ∉ fp) (ws : List Str)
    (many : n = ws.length) (room : ws.length + 1 < scanBound) (items : ∀ i v, Pv i v → ∃ k t, ws[i]? = some k ∧ v = .str k t) : ∀ (left i : Nat) (s : Shared), n - i = left → i ≤ n → St i s →
      (∃ c, c ≤ i ∧ SetG (PySem.strKind P w) s.heap b (fun j => decide (j ∈ ws.take i)) c) →
      (∀ s2 c, Moved (b :: wrt) G s s2 → c ≤ n → SetG (PySem.strKind P w) s2.heap b (fun j => decide (j ∈ ws)) c → R (.ok (.ret .none)) s2) → codeAny (model P w) A (.builtin "set.update.loop" ⟨[.ref b, .ref I], []⟩) R s := by
  have off2 : b ∉ wrt := fun z => off (W.sub _ z)
  have more : ∀ x ∈ wrt, x ∈ b :: wrt := fun x hx => List.mem_cons_of_mem _ hx
  intro left
  induction left with
  | zero =>
    intro i s e le st ⟨c, cle, held⟩ fin
    obtain rfl : i = n := by omega
    refine codeAny_builtin F.entry_set_update_loop ?_
    rw [Around.under_plainId F.plain_set_update_loop _]
    show wpAny _ _ (pyNext (.ref I) >>= _) _ _ s
    refine wpAny_bind (W.done s _ _ st fun s2 moved => ?_)
    show wpAny _ _ (ret Value.none) _ _ s2
    rw [List.take_of_length_le (by omega)] at held
    exact wpAny_pure (fin s2 c (moved.mono more) cle (held.keeps fun o e => moved.heap b o off2 e))
  | succ left ih =>
    intro i s e le st ⟨c, cle, held⟩ fin
    have lt : i < n := by omega
    refine codeAny_builtin F.entry_set_update_loop ?_
    rw [Around.under_plainId F.plain_set_update_loop _]
    show wpAny _ _ (pyNext (.ref I) >>= _) _ _ s
    refine wpAny_bind (W.item i s _ _ lt st fun v s2 pv st2 moved => ?_)
    obtain ⟨y, t, at_, rfl⟩ := items i v pv
    have held2 : SetG (PySem.strKind P w) s2.heap b (fun j => decide (j ∈ ws.take i)) c := held.keeps fun o e => moved.heap b o off2 e
    show wpAny _ _ (holding [Value.str y t] (setAdd b (.str y t)) >>= _) _ _ s2
    refine wpAny_bind (wpAny_holding ?_)
    unfold setAdd
    refine wpAny_holding (wpAny_bind ((PySem.strKind P w).pyHash (k := y) (strKind_is _ _ _ _) ?_))
    refine setG_add (s := { s2 with toks := s2.toks + 1 }) held2 (strKind_is _ _ _ _) rfl (by omega) fun h3 but held3 => ?_
    have held4 : SetG (PySem.strKind P w) h3 b (fun j => decide (j ∈ ws.take (i + 1))) (if decide (y ∈ ws.take i) = true then c else c + 1) := held3.same fun j => by
      rw [List.take_add_one, at_]
      simp [List.mem_append]
    have cle4 : (if decide (y ∈ ws.take i) = true then c else c + 1) ≤ i + 1 := by split <;> omega
    refine wpAny_pure ⟨plainId_quiet F.plain_set_update_loop _, ih (i + 1) _ (by omega) lt (W.frame _ s2 _ _ st2 (Nat.le_succ _) fun x hx o e => ?_) ⟨_, cle4, held4⟩ fun s5 c5 moved5 cle5 held5 => ?_⟩
    · rw [but.2 x fun z => off (by rw [← z]; exact hx)]; exact e
    · refine fin s5 c5 (Moved.trans W.gtrans ((moved.mono more).then_heap (Nat.le_succ _) fun x o hx e => ?_) moved5) cle5 held5
      rw [but.2 x fun z => hx (by rw [z]; exact List.mem_cons_self)]; exact e
theorem set_texts {l : Addr} {its : Array Value} (ws : List Str) {Q : Value → Shared → Prop} (hA : A.handled = none) (hl : s.heap.IsList l its) (hi : StrsAre its.toList ws) (few : ws.length + 1 < scanBound)
    (fin : ∀ (h : Heap) (tk c : Nat), SetG (PySem.strKind P w) h s.heap.objs.size (fun j => decide (j ∈ ws)) c → c ≤ ws.length → (∀ b o, s.heap.get? b = some o → h.get? b = some o) → Q (.ref s.heap.objs.size) { s with heap := h, toks := tk }) :
    wpAny (model P w) A (call (.type "set") [.ref l]) Q E s := by
  have z0 : its.size = ws.length := by rw [← StrsAre.length hi, Array.length_toList]
  obtain ⟨c0, t0, mro⟩ := F.called_set.mro
  have made := F.called_set.made; have sub := F.called_set.sub
  refine wpAny_call (codeAny_of_tree ?_); show wpAny _ _ (callAny (.type "set") _) _ _ _
  refine wpAny_pure ⟨Code.quiet_builtin _ (by decide +kernel), codeAny_builtin F.entry_type_call ?_⟩; rw [Around.under_plain (weight_type_call_type "set" [.ref l] []) rfl]
  have nty := F.called_set.notType; have can := F.called_set.canCreate; have tcall := F.typeCall_set_1 (.ref l)
  repeat (any_goals (first | assumption | wp_step))
  refine codeAny_mono (code_set_led1 (.ref l) (E := E) (Q₁ := fun v t => v = .ref s.heap.objs.size ∧ t = { s with heap := s.heap.push (emptyS w) }) ⟨rfl, rfl⟩) fun r s1 hr => ?_
  cases r with
  | error e => exact hr
  | ok fl =>
    cases fl with
    | brk => exact hr.elim
    | cont => exact hr.elim
    | next => exact hr.elim
    | ret v =>
      obtain ⟨rfl, rfl⟩ := hr
      have at0 : (s.heap.push (emptyS w)).get? s.heap.objs.size = some (emptyS w) := Heap.get?_push_size _ rfl
      have tyS : Shared.TypeIs { s with heap := s.heap.push (emptyS w) } (.ref s.heap.objs.size) "set" := ⟨_, at0, rfl⟩
      have ini := F.called_set.init.lookup; have inb := F.called_set.init.bind (.ref s.heap.objs.size)
      repeat (any_goals (first | assumption | wp_step))
      refine codeAny_mono (codeAny_call_builtin (R := wants (fun v t => v = .none ∧ ∃ h tk c, t = { s with heap := h, toks := tk } ∧ SetG (PySem.strKind P w) h s.heap.objs.size (fun j => decide (j ∈ ws)) c ∧ c ≤ ws.length ∧ (∀ b o, s.heap.get? b = some o → h.get? b = some o)) E) F.called_set.init.plain F.entry_set_init (check_set_init_1 tyS ?_)) fun r2 s2 hr2 => ?_
      · obtain ⟨⟨kl, dl, al, sl⟩, gl, el, nl, fl⟩ := hl
        simp only at el fl
        subst el fl
        have gl2 : (s.heap.push (emptyS w)).get? l = some { cls := .type "list", dict := dl, data := .seq its nl, slots := sl } := Heap.get?_push_of_some _ gl
        have sb1 := F.sub_list_set; have sb2 := F.sub_list_frozenset
        have nd : (Value.type "list" == Value.type "dict") = false := by decide
        have isl : (s.heap.push (emptyS w)).IsList l its := ⟨_, gl2, rfl, nl, rfl⟩
        unfold Builtin.«set.__init__» noKeywords Builtin.Frozenset.updateFrom
        generalize ePI : pyIter = PI
        wp_walk
        subst ePI
        refine wpAny_pyIter_list isl (wpAny_bind (wpAny_runValue ?_))
        have ltl : l < s.heap.objs.size := Heap.lt_size gl
        have szp : (s.heap.push (emptyS w)).objs.size = s.heap.objs.size + 1 := Heap.size_push ..
        have n1 : l ≠ (s.heap.push (emptyS w)).objs.size := by rw [szp]; exact Nat.ne_of_lt (Nat.lt_succ_of_lt ltl)
        have n2 : s.heap.objs.size ∉ [(s.heap.push (emptyS w)).objs.size, l] := by
          rw [szp]; intro hm
          rcases List.mem_cons.mp hm with e | e
          · exact absurd e (Nat.ne_of_lt (Nat.lt_succ_self _))
          · exact absurd (List.mem_singleton.mp e) (Nat.ne_of_gt ltl)
        have vals : ∀ (i : Nat) (v : Value), its[i]? = some v → ∃ k t, ws[i]? = some k ∧ v = .str k t := fun i v hv => by
          have lt : i < ws.length := by rw [← z0]; exact (Array.getElem?_eq_some_iff.mp hv).1
          exact strs_at hi i v (by rw [Array.getElem?_toList]; exact hv)
        refine set_update_texts (Walks.list (by simp [hA]) _ l n1 its).toS s.heap.objs.size n2 ws z0 few vals (its.size - 0) 0 _ (by omega) (Nat.zero_le _) ⟨⟨_, Heap.get?_push_size _ rfl, rfl, rfl⟩, isl.push _⟩ ?mkSet ?mkEnd
        case mkSet => exact ⟨0, Nat.le_refl 0, setG_empty (Heap.get?_push_of_some _ at0)⟩
        case mkEnd =>
          rintro ⟨h2, g2, d2, t2, o2⟩ c mv hc hS
          obtain rfl : g2 = s.gens := mv.gens
          obtain rfl : d2 = s.drawn := mv.drawn
          obtain rfl : o2 = s.os := mv.os
          show wpAny _ _ _ _ _ _
          refine wpAny_pure ?_; show wpAny _ _ (ret Value.none) _ _ _
          refine wpAny_pure ⟨rfl, h2, t2, c, rfl, hS, by omega, fun b o e => ?_⟩
          have ltb : b < s.heap.objs.size := Heap.lt_size e
          exact mv.heap b o (fun hm => by
            rw [szp] at hm
            rcases List.mem_cons.mp hm with e | e
            · exact absurd e (Nat.ne_of_lt ltb)
            · exact absurd (List.mem_singleton.mp e) (Nat.ne_of_lt (Nat.lt_succ_of_lt ltb))) (Heap.get?_push_of_some _ (Heap.get?_push_of_some _ e))
      · cases r2 with
        | error e => exact hr2
        | ok fl =>
          cases fl with
          | brk => exact hr2.elim
          | cont => exact hr2.elim
          | next => exact hr2.elim
          | ret v =>
            obtain ⟨rfl, h2, tk, c, rfl, a1, a2, a3⟩ := hr2
            repeat (any_goals (first | assumption | wp_step))
            exact fin _ _ _ a1 a2 a3
end
end Rf

namespace Rf
open PySem PySem.W PySem.Calls PySem.Spec L2 PyProof.Rows

/-! ### sorted(set(list of texts)) -/
def sLe (a b : Str) : Bool := decide (a.cps.toList ≤ b.cps.toList)
theorem sLe_data : dataLe false (PyData.str : Str → PyData) = sLe := by
  funext a b
  have e : dataLt (.str b) (.str a) = decide (b.cps.toList < a.cps.toList) := by
    unfold dataLt
    simp only [keyToks, PyProof.Rows.lexLt, itemOrd]
    simp only [itemLt]
    cases decide (b.cps.toList < a.cps.toList) <;> simp
  rw [dataLe_eq]
  show (!dataLt (.str b) (.str a)) = _
  rw [e]
  unfold sLe
  by_cases h : b.cps.toList < a.cps.toList
  · simp [h, show ¬ a.cps.toList ≤ b.cps.toList from List.not_le.mpr h]
  · simp [h, show a.cps.toList ≤ b.cps.toList from List.not_lt.mp h]
theorem str_ext {a b : Str} (h : a.cps.toList = b.cps.toList) : a = b := by
  cases a; cases b; congr 1; exact Array.toList_inj.mp h
theorem strs_up (ns : List Str) : (ns.mergeSort sLe).Pairwise fun a b => sLe a b = true := by
  refine List.pairwise_mergeSort (fun a b c h k => ?_) (fun a b => ?_) ns
  · unfold sLe at *; rw [decide_eq_true_iff] at *
    exact List.le_trans h k
  · unfold sLe; rw [Bool.or_eq_true, decide_eq_true_iff, decide_eq_true_iff]
    exact List.le_total _ _
theorem strs_perm {ns ms : List Str} (h : ns.Perm ms) : ns.mergeSort sLe = ms.mergeSort sLe := by
  refine List.Perm.eq_of_pairwise (le := fun a b => sLe a b = true) (fun a b _ _ h1 h2 => ?_) (strs_up ns) (strs_up ms) (((List.mergeSort_perm ns sLe).trans h).trans (List.mergeSort_perm ms sLe).symm)
  unfold sLe at h1 h2
  rw [decide_eq_true_iff] at h1 h2
  exact str_ext (List.le_antisymm h1 h2)
def SetSO (P : Program) (w : World) (a : Addr) (S : Str → Bool) (n : Nat) : HO := .ext fun h => SetG (PySem.strKind P w) h a S n
theorem setSO_new {P : Program} {w : World} {H : Hp} {h : Heap} {a : Addr} {S : Str → Bool} {n : Nat} (G : SetG (PySem.strKind P w) h a S n) : ObjOk P w H h a (SetSO P w a S n) := by
  have ⟨_, _, x, _⟩ := G
  have ⟨o, _, lies, _⟩ := x.obj
  exact ⟨G, ⟨o, lies⟩, fun _ _ p k => SetG.keeps p k⟩
def IsTx (v : Value) (y : Str) : Prop := ∃ t, v = .str y t
theorem tx_list : ∀ {out : List Value}, (∀ v ∈ out, ∃ y t, v = Value.str y t) → ∃ bs : List Str, EachIs IsTx out bs ∧ ∀ y, y ∈ bs ↔ ∃ t, Value.str y t ∈ out
  | [], _ => ⟨[], .nil, fun y => by simp⟩
  | v :: out, h => by
    obtain ⟨y, t, rfl⟩ := h v List.mem_cons_self
    obtain ⟨bs, e1, e2⟩ := tx_list fun u hu => h u (List.mem_cons_of_mem _ hu)
    refine ⟨y :: bs, .cons ⟨t, rfl⟩ e1, fun z => ?_⟩
    rw [List.mem_cons, e2 z]
    constructor
    · rintro (rfl | ⟨u, hu⟩)
      · exact ⟨t, List.mem_cons_self⟩
      · exact ⟨u, List.mem_cons_of_mem _ hu⟩
    · rintro ⟨u, hu⟩
      rcases List.mem_cons.mp hu with q | q
      · cases q; exact .inl rfl
      · exact .inr ⟨u, q⟩
theorem each_mem {α β : Type} {R : α → β → Prop} : ∀ {as : List α} {bs : List β}, EachIs R as bs → ∀ {b : β}, b ∈ bs → ∃ a ∈ as, R a b
  | _, _, .nil, _, h => nomatch h
  | _, _, .cons r rs, _, h => by
    rcases List.mem_cons.mp h with z | z
    · subst z; exact ⟨_, List.mem_cons_self, r⟩
    · obtain ⟨a, ha, q⟩ := each_mem rs z; exact ⟨a, List.mem_cons_of_mem _ ha, q⟩
theorem tx_nodup {P : Program} {w : World} : ∀ {out : List Value} {bs : List Str}, EachIs IsTx out bs → out.Pairwise (fun u v => ∀ k, (PySem.strKind P w).is k u = true → (PySem.strKind P w).is k v = true → False) → bs.Nodup
  | _, _, .nil, _ => .nil
  | _, _, .cons (a := v) (b := y) ⟨t, e⟩ r, h => by
    subst e
    rw [List.pairwise_cons] at h
    refine List.nodup_cons.mpr ⟨fun hy => ?_, tx_nodup r h.2⟩
    obtain ⟨v, hv, t2, rfl⟩ := each_mem r hy
    exact h.1 _ hv y (strKind_is _ _ _ _) (strKind_is _ _ _ _)
section
variable {X : Cx}
def rSetS (X : Cx) : List V → Hp → VK → Prop := fun xs H Q => ∃ (l : Addr) (ws : List Str), xs = [V.ref l] ∧ SqL X.K H l (ws.map V.str) ∧ ws.length < 4000 ∧ ∀ (a : Addr) (c : Nat), H a = none → Q (.ref a) (upd H a (SetSO X.prog X.w a (fun j => decide (j ∈ ws)) c))
theorem texts_of_vals : ∀ {ws : List Str} {us : List Value}, Vals (ws.map V.str) us → StrsAre us ws
  | [], _, r => by cases r; exact .nil
  | y :: ws, _, r => by
    rw [List.map_cons] at r
    cases r with
    | cons a b => obtain ⟨t, rfl⟩ := a; exact .cons y t (texts_of_vals b)
theorem cr_setS (hc : X.calm = true) : CallR X (.type "set") (rSetS X) := by
  intro pins s σ H xs us Q I r ⟨l, ws, e, held, few, q⟩
  subst e
  obtain ⟨u, rfl, rx⟩ := r.one
  cases rx
  obtain ⟨its, rv, pl, hz⟩ := I.list held
  refine set_texts ws (I.ok.hd hc) pl.isList (texts_of_vals rv) (Nat.lt_of_le_of_lt (show ws.length + 1 ≤ 4000 by omega) (by decide)) fun h tk c a1 _ a3 => ?_
  exact ⟨.ref s.heap.objs.size, upd H s.heap.objs.size (SetSO X.prog X.w s.heap.objs.size (fun j => decide (j ∈ ws)) c), I.laid (t' := tk) a3 (Nat.le_refl _) (setSO_new a1), rfl, q _ c (I.hok.fresh (Nat.le_refl _))⟩
def rSortSS (X : Cx) : List V → Hp → VK → Prop := fun xs H Q => ∃ (a : Addr) (S : Str → Bool) (n : Nat), xs = [V.ref a] ∧ H a = some (SetSO X.prog X.w a S n) ∧
  ∀ (bs : List Str) (p : Addr), bs.Nodup → (∀ y, y ∈ bs ↔ S y = true) → H p = none → Q (.ref p) (upd H p (.lst ((bs.mergeSort sLe).map V.str)))
theorem vals_tx : ∀ {out : List Value} {ms : List Str}, EachIs IsTx out ms → Vals (ms.map V.str) out
  | _, _, .nil => .nil
  | _, _, .cons ⟨t, e⟩ r => by subst e; exact .cons ⟨t, rfl⟩ (vals_tx r)
theorem cr_sortSS (hc : X.calm = true) (hu : X.A.units + 100 < cLine) : CallR X (.builtin "sorted") (rSortSS X) := by
  intro pins s σ H xs us Q I r ⟨a, S, n, e, ha, q⟩
  subst e
  obtain ⟨u, rfl, rx⟩ := r.one
  cases rx
  obtain ⟨es, t, G, mem, size⟩ : SetG (PySem.strKind X.prog X.w) s.heap a S n := (I.hok a _ ha).1
  obtain ⟨o, ep, lies, exact_, dat⟩ := G.obj
  refine Calls.call_function_entry kind_sorted plain_sorted entry_sorted (args_sorted1 _) ?_
  unfold Builtin.«sorted»
  refine wpAny_bind (m := checkCount "sorted" 1 1 _) (wpAny_pure (wpAny_bind (collect_set (A := X.A.in1) (I.ok.hd hc) ⟨o, lies, exact_.1, dat⟩ G.tab.fits G.tab.few G.tab.ris G.tab.led fun s1 out kp hz eg eo pm => ?_)))
  have tex : ∀ v ∈ es.toList.map (·.2), ∃ y t, v = Value.str y t := fun v hv => by
    obtain ⟨e, he, rfl⟩ := List.mem_map.mp hv
    obtain ⟨⟨k, hk, _⟩, _⟩ := G.all e he
    obtain ⟨t, z⟩ := Value.isStrOf_shape hk
    exact ⟨k, t, z⟩
  obtain ⟨bs, each, inBs⟩ := tx_list fun v hv => tex v (pm.mem_iff.mp hv)
  have lone : (es.toList.map (·.2)).Pairwise fun u v => ∀ k, (PySem.strKind X.prog X.w).is k u = true → (PySem.strKind X.prog X.w).is k v = true → False := List.pairwise_map.mpr G.apart
  have nd : bs.Nodup := tx_nodup (P := X.prog) (w := X.w) each ((pm.pairwise_iff fun h k p q => h k q p).mpr lone)
  have memS : ∀ y, y ∈ bs ↔ S y = true := fun y => by
    rw [inBs y, mem y]
    constructor
    · rintro ⟨t, ht⟩
      obtain ⟨e, he, z⟩ := List.mem_map.mp (pm.mem_iff.mp ht)
      exact ⟨e, he, by rw [z]; exact strKind_is _ _ _ _⟩
    · rintro ⟨e, he, z⟩
      obtain ⟨t, z⟩ := Value.isStrOf_shape z
      exact ⟨t, pm.mem_iff.mpr (List.mem_map.mpr ⟨e, he, z⟩)⟩
  have few : out.length < scanBound := by rw [pm.length_eq, List.length_map, Array.length_toList]; exact G.tab.few
  have line : out.length ≤ sizeLine := Nat.le_trans (Nat.le_of_lt few) (by decide)
  have bl : bs.length = out.length := each.length.symm
  refine wpAny_bind (wpAny_newList ?_ line)
  have fresh0 : (s1.heap.push (seqObj "list" out.toArray 0)).get? s1.heap.objs.size = some (seqObj "list" out.toArray 0) := Heap.get?_push_size _ rfl
  have rds : EachIs (fun (v : Value) (y : Str) => ∃ as, Reads (s1.heap.push (seqObj "list" out.toArray 0)) v (PyData.str y) as ∧ s1.heap.objs.size ∉ as) out bs := by
    clear nd memS inBs lone few line bl fresh0 pm
    generalize s1.heap.push (seqObj "list" out.toArray 0) = hh
    induction each with
    | nil => exact .nil
    | cons h _ ih => obtain ⟨t, rfl⟩ := h; exact .cons ⟨[], .str _ _, by simp⟩ ih
  refine wpAny_bind (wpAny_holding (list_sort_data (a := s1.heap.objs.size) (R := IsTx) (enc := PyData.str) fresh0 each rds (AllAlike.of fun _ _ => rfl) (Sortable.others fun b => ⟨(fun z => nomatch z), fun _ z => nomatch z⟩) (by rw [bl]; exact line) (fun y _ => ?_) fun out2 lo each2 => ?_))
  · show X.A.units + 1 + 1 + PyData.depth (.str y) < cLine
    simp only [PyData.depth]; omega
  rw [sLe_data] at each2
  have q2 := q bs s1.heap.objs.size nd memS (I.hok.fresh hz)
  have ml : (bs.mergeSort sLe).length = out2.length := each2.length.symm
  have len2 : ((bs.mergeSort sLe).map V.str).length ≤ sizeLine := by rw [List.length_map, ml, lo, bl]; exact line
  generalize bs.mergeSort sLe = ms at each2 q2 len2
  obtain ⟨c2, hc2⟩ := sortedHeap_at (vs := out) (out := out2.toArray) fresh0
  have keep : ∀ (b : Addr) (u : Obj), s.heap.get? b = some u → (sortedHeap (s1.heap.push (seqObj "list" out.toArray 0)) s1.heap.objs.size out out2.toArray).get? b = some u := fun b u e => by
    have lt := Heap.lt_size (kp _ _ e)
    rw [sortedHeap_old (Nat.ne_of_lt lt) (by rw [Heap.size_push]; exact Nat.lt_succ_of_lt lt)]
    exact Heap.get?_push_of_some _ (kp _ _ e)
  have okl : ObjOk X.prog X.w (upd H s1.heap.objs.size (.lst (ms.map V.str))) (sortedHeap (s1.heap.push (seqObj "list" out.toArray 0)) s1.heap.objs.size out out2.toArray) s1.heap.objs.size (.lst (ms.map V.str)) := ⟨len2, _, c2, vals_tx each2, hc2⟩
  have J := I.call (g' := s1.gens) (t' := s1.toks) (d' := s1.drawn) (ch := []) (Un.laid keep hz (I.hok.fresh hz)) (HOk.laid I.hok keep hz okl) (by rw [eg]; exact I.bare) fun b z => nomatch z
  refine wpAny_pure ⟨_, rfl, .ref s1.heap.objs.size, _, ?_, rfl, q2⟩
  rw [← eo] at J
  exact J
/-! ### their reading -/
def sortSetXF (k : Bool) : OpN := fun bs ws S => match sortSetF k bs ws S with
  | some r => some r
  | none => match ws with
    | [w] => match (lstOf S w).bind strsW with
      | some ys => if ys.length < 4000 then some (newL k (((uniq ys).mergeSort sLe).map fun y => .dat (.str y)) S) else none
      | none => none
    | _ => none
theorem rSetA_mono {xs : List V} {H : Hp} {Q Q' : VK} (i : ∀ v H, Q v H → Q' v H) (h : rSetA X xs H Q) : rSetA X xs H Q' := by
  rcases h with ⟨l, ns, e, sq, few, q⟩ | ⟨l, ks, e, sq, r1, r2, q⟩
  · exact .inl ⟨l, ns, e, sq, few, fun a c h1 h2 => i _ _ (q a c h1 h2)⟩
  · exact .inr ⟨l, ks, e, sq, r1, r2, fun a L h1 h2 h3 => i _ _ (q a L h1 h2 h3)⟩
def rSetB (X : Cx) : List V → Hp → VK → Prop := fun xs H Q => rSetA X xs H Q ∨ rSetS X xs H Q
theorem cr_setB (hc : X.calm = true) (hu : X.A.units + 100 < cLine) : CallR X (.type "set") (rSetB X) := by
  intro pins s σ H xs us Q I r h
  rcases h with h | h
  · exact cr_setA hc hu pins s σ H xs us Q I r h
  · exact cr_setS hc pins s σ H xs us Q I r h
def rSortB (X : Cx) : List V → Hp → VK → Prop := fun xs H Q => rSortA X xs H Q ∨ rSortSS X xs H Q
theorem cr_sortB (hc : X.calm = true) (hu : X.A.units + 100 < cLine) : CallR X (.builtin "sorted") (rSortB X) := by
  intro pins s σ H xs us Q I r h
  rcases h with h | h
  · exact cr_sortA hc hu pins s σ H xs us Q I r h
  · exact cr_sortSS hc hu pins s σ H xs us Q I r h
end
section
variable {X : Cx} {g : Gx} {B : WX} {bs : List Nat} {ρ : List Addr} {F N H : Hp} {S : Store} {σ : L2.St}
theorem isAll_strs {K : PySem.W.Frag} : ∀ ys : List Str, IsAll K ρ F (ys.map V.str) (ys.map fun y => W.dat (.str y))
  | [] => .nil
  | y :: ys => .cons (.dat (.str y)) (isAll_strs ys)
theorem set_sortedX (hK : g.K = X.K) {k : Bool} {xs : List V} {Q : VK} (h : rdN g (sortSetXF k) xs H Q) : rSetB X xs H fun v H1 => rSortB X [v] H1 Q := by
  obtain ⟨bs, ρ, F, N, S, ws, s, l, p⟩ := h
  unfold sortSetXF at p
  cases hF : sortSetF k bs ws S with
  | some r =>
    rw [hF] at p
    exact .inl (rSetA_mono (fun _ _ z => .inl z) (set_sorted hK ⟨bs, ρ, F, N, S, ws, s, l, by rw [hF]; exact p⟩))
  | none =>
    rw [hF] at p
    dsimp only at p
    split at p
    · rename_i w
      obtain ⟨v, rfl, r⟩ := all_one l
      split at p
      · rename_i ys h0
        split at p
        · rename_i few
          obtain ⟨zs, h2, h5⟩ := Option.bind_eq_some_iff.mp h0
          obtain ⟨a, vs, rfl, q1, l1⟩ := lst_of s r h2
          have ev := strs_is l1 h5
          subst ev
          refine .inr ⟨a, ys, rfl, hK ▸ q1, few, fun b c hb => .inr ⟨b, _, c, rfl, upd_same, fun ms p0 nd mem hp => ?_⟩⟩
          have e : ms.mergeSort sLe = (uniq ys).mergeSort sLe := strs_perm ((List.perm_ext_iff_of_nodup nd (uniq_nodup ys)).mpr fun x => by rw [mem, uniq_mem, decide_eq_true_iff])
          rw [e]
          exact new_ok (s.heap (same_new hb)) hp (isAll_strs _) fun ρ' F' H2 v2 gr s3 r3 => p ρ' F' H2 v2 gr s3 r3
        · exact p.elim
      · exact p.elim
    · exact p.elim
theorem re_sortSetX {k : Bool} {e : Expr} {ms : M (List W)} {p p2 q pos : Pos} (hK : g.K = X.K) (hc : X.calm = true) (hu : X.A.units + 100 < cLine) (ha : PA X [e] (rdA g B ms)) (hg : Gl X "sorted") (hm : X.mg "sorted" = none) (hv : bootBuiltins "sorted" = some (.builtin "sorted")) (hg2 : Gl X "set") (hm2 : X.mg "set" = none) (hv2 : bootBuiltins "set" = some (.type "set"))
    (he : starEach [e] X.env = (false, eval e X.env) :: starEach [] X.env := by rfl) (hpl : (backTo q (starEach ([] : List Expr) X.env)).any (·.1) = false := by rfl)
    (he2 : starEach [.Call (.Name "set" p2) [e] [] q] X.env = (false, eval (.Call (.Name "set" p2) [e] [] q) X.env) :: starEach [] X.env := by rfl) (hpl2 : (backTo pos (starEach ([] : List Expr) X.env)).any (·.1) = false := by rfl) :
    PE X (.Call (.Name "sorted" p) [.Call (.Name "set" p2) [e] [] q] [] pos) (rd g B (mCB (sortSetXF k) ms)) :=
  (pe_callB (cr_sortB hc hu) hg hm hv (pa_cons (pe_callTy (cr_setB hc hu) hg2 hm2 hv2 ha (by decide) (by decide) he hpl) pa_nil he2) (by decide) (by decide) he2 hpl2).imp fun σ H Q ⟨bs, ρ, F, N, env, S, s, e, p⟩ => by
    refine ⟨bs, ρ, F, N, env, S, s, e, (Post.bind p).imp fun x H1 ⟨ρ1, F1, wx, S1, g1, s1, r1, p1⟩ => ?_⟩
    exact set_sortedX hK ⟨bs, ρ1, F1, N, S1, wx, s1, r1, post_op p1⟩
end
end Rf

namespace Rf
open PySem PySem.Spec L2 PyProof.Rows

/-! ### ranges as values -/
abbrev rgN (i j d : Int) : Nat := (Builtin.Range.rangeSize i j d).toNat
def mRngV3 (ms : M (List W)) : M W := fun bs env S => (ms bs env S).bind fun ws S1 => match ws with
  | [.dat (.int i), .dat (.int j), .dat (.int d)] => if RgC i j d (rgN i j d) then .ok (.rg i j d) S1 else .stuck
  | _ => .stuck
def mRngV2 (ms : M (List W)) : M W := fun bs env S => (ms bs env S).bind fun ws S1 => match ws with
  | [.dat (.int i), .dat (.int j)] => .ok (.rg i j 1) S1
  | _ => .stuck
def mItR (m : M W) : M Iter := fun bs env S => (m bs env S).bind fun w S1 => match w with
  | .rg i j d => if RgC i j d (rgN i j d) then .ok (.items (stepW i d (rgN i j d))) S1 else .stuck
  | _ => .stuck
section
variable {X : Cx} {tg : Expr} {g : Gx} {B : WX} {a b c e : Expr} {m : M W} {ms : M (List W)} {p pos : Pos}
end
end Rf

/-! RfTT: zip of a list and a tuple, either order. -/
namespace Rf
open PySem PySem.Spec PyProof.Rows L2 RZ
/-- an iterator i at place k of the sequence l: a list's (L) or a tuple's -/
def Src (L : Bool) (h : Heap) (i l : Addr) (k : Nat) (xs : Array Value) : Prop :=
  if L then h.IsListIter i l k ∧ h.IsList l xs else h.IsTupleIter i l k ∧ h.IsTuple l xs
theorem Src.ext {L : Bool} {h h' : Heap} {i l z : Addr} {k : Nat} {xs : Array Value} (t : Src L h i l k xs) (e : Heap.ExtBut z h h') (hi : i ≠ z) (hl : l ≠ z) : Src L h' i l k xs := by
  cases L
  · exact ⟨t.1.extBut e hi, t.2.extBut e hl⟩
  · exact ⟨t.1.extBut e hi, t.2.extBut e hl⟩
section
variable {prog : Program} {w : World} {A : Around} {E : Value → Shared → Prop} {s : Shared}
theorem src_item {L : Bool} {i l : Addr} {k : Nat} {xs : Array Value} {x : Value} {Q : Value → Shared → Prop} (t : Src L s.heap i l k xs) (hli : l ≠ i) (hx : xs[k]? = some x)
    (hQ : ∀ h', Src L h' i l (k + 1) xs → Heap.SameBut i s.heap h' → Q x { s with heap := h' }) :
    wpAny (model prog w) A (Builtin.SmallTypes.nextOf (.ref i)) Q E s := by
  cases L
  · exact nextOf_tuple_item t.1 t.2 hx fun h' a b => hQ h' ⟨a, t.2.extBut b.extBut hli⟩ b
  · exact wpAny_nextOf_list_item t.1 t.2 hx fun h' a b => hQ h' ⟨a, t.2.extBut b.extBut hli⟩ b
theorem src_end {L : Bool} {i l : Addr} {k : Nat} {xs : Array Value} {Q : Value → Shared → Prop} (hh : A.handled = none) (t : Src L s.heap i l k xs) (hx : xs[k]? = none)
    (hE : ∀ h' e, Heap.ExtBut i s.heap h' → (∃ o, h'.get? e = some o ∧ o.cls = .type "StopIteration") → E (.ref e) { s with heap := h' }) :
    wpAny (model prog w) A (Builtin.SmallTypes.nextOf (.ref i)) Q E s := by
  cases L
  · exact nextOf_tuple_end hh t.1 t.2 hx hE
  · exact wpAny_nextOf_list_end hh t.1 t.2 hx hE

theorem zm_item {L1 L2 : Bool} {z TI TO i1 i2 l1 l2 : Addr} {k1 k2 : Nat} {xs ys : Array Value} {x y a b : Value} {Q : Value → Shared → Prop} (D : ZipApart z TI TO i1 i2 l1 l2)
    (hz : IsZip s.heap z TI TO .none) (hTI : IsPair s.heap TI (.ref i1) (.ref i2)) (hTO : IsPair s.heap TO a b)
    (h1 : Src L1 s.heap i1 l1 k1 xs) (h2 : Src L2 s.heap i2 l2 k2 ys) (hx : xs[k1]? = some x) (hy : ys[k2]? = some y)
    (hQ : ∀ h', IsZip h' z TI TO (rawInt s.heap.objs.size) → IsPair h' TO x y → Src L1 h' i1 l1 (k1 + 1) xs → Src L2 h' i2 l2 (k2 + 1) ys → IsPair h' s.heap.objs.size x y →
      (∀ c o, c ≠ z → c ≠ TO → c ≠ i1 → c ≠ i2 → s.heap.get? c = some o → h'.get? c = some o) → Q (.ref s.heap.objs.size) { s with heap := h' }) :
    wpAny (model prog w) A (Builtin.«zip.__next__» ⟨[.ref z], []⟩) (fun fin s' => ∃ v, fin = .done (.ret v) ∧ Q v s') E s := by
  show wpAny _ _ (field (.ref z) 2 >>= _) _ _ _
  refine wpAny_bind (wpAny_field hz rfl (x := .bool false) rfl ?_)
  show wpAny _ _ (field (.ref z) 3 >>= _) _ _ _
  refine wpAny_bind (wpAny_field hz rfl (x := .ref TI) rfl (wpAny_bind (wpAny_seqItems hTI rfl ?_)))
  show wpAny _ _ (Builtin.SmallTypes.ownedTupleIsFree (.ref z) >>= _) _ _ _
  refine wpAny_bind ?_
  unfold Builtin.SmallTypes.ownedTupleIsFree
  refine wpAny_bind (wpAny_field hz rfl (x := .none) rfl (wpAny_pure ?_))
  simp only [if_true]
  refine wpAny_bind (wpAny_rule (wpAny_bind (wpAny_field hz rfl (x := .ref TO) rfl (wpAny_bind (wpAny_setField_rec hz (by simp) fun g1 z1 s1 => wpAny_bind ?_)))))
  have z1 : IsZip g1 z TI TO .ellipsis := z1
  simp only [List.zipIdx_cons, List.zipIdx_nil, List.forIn_cons, List.forIn_nil]
  refine wpAny_bind (wpAny_bind (wpAny_onRaise ?_))
  show wpAny _ _ (Builtin.SmallTypes.nextOf (.ref i1) >>= _) _ _ _
  refine (wpAny_bind (src_item (s := { s with heap := g1 }) (h1.ext s1.extBut D.i1z D.l1z) D.l1i1 hx fun g2 h12 s2 => wpAny_pure ?_))
  have t2 : IsPair g2 TO a b := s2.extBut _ _ D.TOi1 (s1.extBut _ _ D.TOz hTO)
  refine wpAny_bind (wpAny_seqItems t2 rfl (wpAny_bind (wpAny_updateSeq_pair t2 fun g3 t3 s3 => wpAny_bind (wpAny_letGo (wpAny_pure ?_)))))
  have t3 : IsPair g3 TO x b := t3
  refine wpAny_bind (wpAny_bind (wpAny_onRaise ?_))
  show wpAny _ _ (Builtin.SmallTypes.nextOf (.ref i2) >>= _) _ _ _
  refine (wpAny_bind (src_item (s := { s with heap := g3 }) (((h2.ext s1.extBut D.i2z D.l2z).ext s2.extBut D.i12.symm D.l2i1).ext s3.extBut D.TOi2.symm D.l2TO) D.l2i2 hy fun g4 h24 s4 => wpAny_pure ?_))
  have t4 : IsPair g4 TO x b := s4.extBut _ _ D.TOi2 t3
  refine wpAny_bind (wpAny_seqItems t4 rfl (wpAny_bind (wpAny_updateSeq_pair t4 fun g5 t5 s5 => wpAny_bind (wpAny_letGo (wpAny_pure (wpAny_pure ?_))))))
  have t5 : IsPair g5 TO x y := t5
  refine wpAny_bind (wpAny_seqItems t5 rfl (wpAny_bind (wpAny_newTuple ?_)))
  have sz : g5.objs.size = s.heap.objs.size := by rw [s5.1, s4.1, s3.1, s2.1, s1.1]
  have kp : ∀ c o, c ≠ z → c ≠ TO → c ≠ i1 → c ≠ i2 → s.heap.get? c = some o → g5.get? c = some o := fun c o c1 c2 c3 c4 e =>
    s5.extBut _ _ c2 (s4.extBut _ _ c4 (s3.extBut _ _ c2 (s2.extBut _ _ c3 (s1.extBut _ _ c1 e))))
  have z5 : IsZip g5 z TI TO .ellipsis := s5.extBut _ _ D.TOz.symm (s4.extBut _ _ D.i2z.symm (s3.extBut _ _ D.TOz.symm (s2.extBut _ _ D.i1z.symm z1)))
  have h15 := ((h12.ext s3.extBut D.TOi1.symm D.l1TO).ext s4.extBut D.i12 D.l1i2).ext s5.extBut D.TOi1.symm D.l1TO
  have h25 := h24.ext s5.extBut D.TOi2.symm D.l2TO
  have zl : z < g5.objs.size := Heap.lt_size z5
  show wpAny _ _ (Builtin.SmallTypes.ownedTupleHandOut (.ref z) (.ref g5.objs.size) >>= _) _ _ _
  refine wpAny_bind ?_
  unfold Builtin.SmallTypes.ownedTupleHandOut
  have z6 : IsZip (g5.push { cls := .type "tuple", data := .seq #[x, y] }) z TI TO .ellipsis := Heap.get?_push_of_some _ z5
  refine wpAny_bind (wpAny_setField_rec z6 (by simp) fun g7 z7 s7 => wpAny_setField_rec (show IsZip g7 z TI TO (rawInt g5.objs.size) from z7) (by simp) fun g8 z8 s8 => ?_)
  refine wpAny_pure ⟨_, rfl, ?_⟩
  have up : Heap.ExtBut z g5 g8 := fun c o c1 e => s8.extBut _ _ c1 (s7.extBut _ _ c1 (Heap.get?_push_of_some _ e))
  have pr : IsPair g8 g5.objs.size x y := s8.extBut _ _ (Nat.ne_of_gt zl) (s7.extBut _ _ (Nat.ne_of_gt zl) (Heap.get?_push_size _ rfl))
  have z8' : IsZip g8 z TI TO (rawInt g5.objs.size) := z8
  rw [sz] at pr z8'
  show Q (.ref g5.objs.size) _
  rw [sz]
  exact hQ g8 z8' (up _ _ D.TOz t5) (h15.ext up D.i1z D.l1z) (h25.ext up D.i2z D.l2z) pr fun c o c1 c2 c3 c4 e => up c o c1 (kp c o c1 c2 c3 c4 e)

theorem zm_end {L1 L2 : Bool} {z TI TO i1 i2 l1 l2 : Addr} {k1 k2 : Nat} {xs ys : Array Value} {a b : Value} {Q : Fin → Shared → Prop} (hh : A.handled = none) (D : ZipApart z TI TO i1 i2 l1 l2)
    (hz : IsZip s.heap z TI TO .none) (hTI : IsPair s.heap TI (.ref i1) (.ref i2)) (hTO : IsPair s.heap TO a b)
    (h1 : Src L1 s.heap i1 l1 k1 xs) (h2 : Src L2 s.heap i2 l2 k2 ys) (hend : xs[k1]? = none ∨ ys[k2]? = none)
    (hE : ∀ h' e, (∀ c o, c ≠ z → c ≠ TO → c ≠ i1 → c ≠ i2 → s.heap.get? c = some o → h'.get? c = some o) → (∃ o, h'.get? e = some o ∧ o.cls = .type "StopIteration") → E (.ref e) { s with heap := h' }) :
    wpAny (model prog w) A (Builtin.«zip.__next__» ⟨[.ref z], []⟩) Q E s := by
  show wpAny _ _ (field (.ref z) 2 >>= _) _ _ _
  refine wpAny_bind (wpAny_field hz rfl (x := .bool false) rfl ?_)
  show wpAny _ _ (field (.ref z) 3 >>= _) _ _ _
  refine wpAny_bind (wpAny_field hz rfl (x := .ref TI) rfl (wpAny_bind (wpAny_seqItems hTI rfl ?_)))
  show wpAny _ _ (Builtin.SmallTypes.ownedTupleIsFree (.ref z) >>= _) _ _ _
  refine wpAny_bind ?_
  unfold Builtin.SmallTypes.ownedTupleIsFree
  refine wpAny_bind (wpAny_field hz rfl (x := .none) rfl (wpAny_pure ?_))
  simp only [if_true]
  refine wpAny_bind (wpAny_rule (wpAny_bind (wpAny_field hz rfl (x := .ref TO) rfl (wpAny_bind (wpAny_setField_rec hz (by simp) fun g1 z1 s1 => wpAny_bind ?_)))))
  have z1 : IsZip g1 z TI TO .ellipsis := z1
  simp only [List.zipIdx_cons, List.zipIdx_nil, List.forIn_cons, List.forIn_nil]
  refine wpAny_bind (wpAny_bind (wpAny_onRaise ?_))
  show wpAny _ _ (Builtin.SmallTypes.nextOf (.ref i1) >>= _) _ _ _
  refine wpAny_bind ?_
  have other : ∀ {g : Heap} {e : Addr}, IsZip g z TI TO .ellipsis → (∃ o, g.get? e = some o ∧ o.cls = .type "StopIteration") → e ≠ z := by
    rintro g e hz' ⟨o, ho, hc⟩ rfl
    rw [hz'] at ho
    cases ho
    exact absurd hc (by simp)
  rcases hx : xs[k1]? with _ | x
  · refine src_end (s := { s with heap := g1 }) hh (h1.ext s1.extBut D.i1z D.l1z) hx fun g2 e s2 he => ?_
    have z2 : IsZip g2 z TI TO .ellipsis := s2 _ _ D.i1z.symm z1
    have ne := other z2 he
    obtain ⟨oe, ho, hc⟩ := he
    exact wpAny_setField_rec z2 (by simp) fun g3 _ s3 => hE g3 e (fun c o c1 _ c3 _ q => s3.extBut _ _ c1 (s2 _ _ c3 (s1.extBut _ _ c1 q))) ⟨oe, s3.extBut _ _ ne ho, hc⟩
  · have hy : ys[k2]? = none := hend.resolve_left (by rw [hx]; exact fun q => nomatch q)
    refine src_item (s := { s with heap := g1 }) (h1.ext s1.extBut D.i1z D.l1z) D.l1i1 hx fun g2 h12 s2 => wpAny_pure ?_
    have t2 : IsPair g2 TO a b := s2.extBut _ _ D.TOi1 (s1.extBut _ _ D.TOz hTO)
    refine wpAny_bind (wpAny_seqItems t2 rfl (wpAny_bind (wpAny_updateSeq_pair t2 fun g3 t3 s3 => wpAny_bind (wpAny_letGo (wpAny_pure ?_)))))
    refine wpAny_bind (wpAny_bind (wpAny_onRaise ?_))
    show wpAny _ _ (Builtin.SmallTypes.nextOf (.ref i2) >>= _) _ _ _
    refine (wpAny_bind (src_end (s := { s with heap := g3 }) hh (((h2.ext s1.extBut D.i2z D.l2z).ext s2.extBut D.i12.symm D.l2i1).ext s3.extBut D.TOi2.symm D.l2TO) hy fun g4 e s4 he => ?_))
    have z4 : IsZip g4 z TI TO .ellipsis := s4 _ _ D.i2z.symm (s3.extBut _ _ D.TOz.symm (s2.extBut _ _ D.i1z.symm z1))
    have ne := other z4 he
    obtain ⟨oe, ho, hc⟩ := he
    exact wpAny_setField_rec z4 (by simp) fun g5 _ s5 => hE g5 e (fun c o c1 c2 c3 c4 q => s5.extBut _ _ c1 (s4 _ _ c4 (s3.extBut _ _ c2 (s2.extBut _ _ c3 (s1.extBut _ _ c1 q))))) ⟨oe, s5.extBut _ _ ne ho, hc⟩
theorem zm_next {L1 L2 : Bool} {z TI TO i1 i2 l1 l2 : Addr} {k1 k2 : Nat} {xs ys : Array Value} {x y a b : Value} {Q : Option Value → Shared → Prop} (D : ZipApart z TI TO i1 i2 l1 l2)
    (hz : IsZip s.heap z TI TO .none) (hTI : IsPair s.heap TI (.ref i1) (.ref i2)) (hTO : IsPair s.heap TO a b)
    (h1 : Src L1 s.heap i1 l1 k1 xs) (h2 : Src L2 s.heap i2 l2 k2 ys) (hx : xs[k1]? = some x) (hy : ys[k2]? = some y)
    (hQ : ∀ h', IsZip h' z TI TO (rawInt s.heap.objs.size) → IsPair h' TO x y → Src L1 h' i1 l1 (k1 + 1) xs → Src L2 h' i2 l2 (k2 + 1) ys → IsPair h' s.heap.objs.size x y →
      (∀ c o, c ≠ z → c ≠ TO → c ≠ i1 → c ≠ i2 → s.heap.get? c = some o → h'.get? c = some o) → Q (some (.ref s.heap.objs.size)) { s with heap := h' }) :
    wpAny (model prog w) A (pyNext (.ref z)) Q E s := by
  have T : s.TypeIs (.ref z) "zip" := ⟨_, hz, rfl⟩
  unfold pyNext
  exact wpAny_bind (wpAny_attempt (wpAny_callSpecial?_slot (name := Str.ofString "__next__") T F.slot_zip_next (wpAny_call_entry F.slot_zip_next T F.entry_zip_next
    (zm_item D hz hTI hTO h1 h2 hx hy fun h' q1 q2 q3 q4 q5 q6 => wpAny_pure (hQ h' q1 q2 q3 q4 q5 q6)) (F.args_zip_next_1 _))))
theorem zm_over {L1 L2 : Bool} {z TI TO i1 i2 l1 l2 : Addr} {k1 k2 : Nat} {xs ys : Array Value} {a b : Value} {Q : Option Value → Shared → Prop} (hh : A.handled = none) (D : ZipApart z TI TO i1 i2 l1 l2)
    (hz : IsZip s.heap z TI TO .none) (hTI : IsPair s.heap TI (.ref i1) (.ref i2)) (hTO : IsPair s.heap TO a b)
    (h1 : Src L1 s.heap i1 l1 k1 xs) (h2 : Src L2 s.heap i2 l2 k2 ys) (hend : xs[k1]? = none ∨ ys[k2]? = none)
    (hQ : ∀ h', (∀ c o, c ≠ z → c ≠ TO → c ≠ i1 → c ≠ i2 → s.heap.get? c = some o → h'.get? c = some o) → Q none { s with heap := h' }) : wpAny (model prog w) A (pyNext (.ref z)) Q E s := by
  have T : s.TypeIs (.ref z) "zip" := ⟨_, hz, rfl⟩
  unfold pyNext
  exact wpAny_bind (wpAny_attempt (wpAny_callSpecial?_slot (name := Str.ofString "__next__") T F.slot_zip_next (wpAny_call_entry F.slot_zip_next T F.entry_zip_next
    (zm_end hh D hz hTI hTO h1 h2 hend fun h' e hk he => by
      obtain ⟨o, ho, hc⟩ := he
      exact wpAny_bind (wpAny_isInstance (T := "StopIteration") (b := true) ⟨o, ho, hc⟩ isSubtype_stop (wpAny_pure (hQ _ hk)))) (F.args_zip_next_1 _))))
end
/-- an iterator of a sequence, new -/
def itO (L : Bool) (l : Addr) : Obj := { cls := .type (if L then "list_iterator" else "tuple_iterator"), data := .fields #[.ref l, .int 0 0] }
abbrev zmA (L : Bool) (h : Heap) (l : Addr) : Heap := h.push (itO L l)
abbrev zmB (L1 L2 : Bool) (h : Heap) (l1 l2 : Addr) : Heap := (zmA L1 h l1).push (itO L2 l2)
abbrev zmC (L1 L2 : Bool) (h : Heap) (l1 l2 : Addr) : Heap := (zmB L1 L2 h l1 l2).push { cls := .type "tuple", data := .seq #[.ref h.objs.size, .ref (zmA L1 h l1).objs.size] }
abbrev zmD (L1 L2 : Bool) (h : Heap) (l1 l2 : Addr) : Heap := (zmC L1 L2 h l1 l2).push { cls := .type "tuple", data := .seq #[.none, .none] }
abbrev zmE (L1 L2 : Bool) (h : Heap) (l1 l2 : Addr) : Heap := (zmD L1 L2 h l1 l2).push { cls := .type "zip", data := .fields #[.none, .bool false, .bool false, .ref (zmB L1 L2 h l1 l2).objs.size, .ref (zmC L1 L2 h l1 l2).objs.size] }
def IsSq (L : Bool) (h : Heap) (l : Addr) (xs : Array Value) : Prop := if L then h.IsList l xs else h.IsTuple l xs
theorem zm_new (L1 L2 : Bool) (l1 l2 : Addr) (xs ys : Array Value) :
    Meets (Builtin.«zip.__new__» ⟨[.type "zip", .ref l1, .ref l2], []⟩) (fun _ R s => IsSq L1 s.heap l1 xs ∧ IsSq L2 s.heap l2 ys ∧
      R (.ok (.ret (.ref (zmD L1 L2 s.heap l1 l2).objs.size))) { s with heap := zmE L1 L2 s.heap l1 l2 }) :=
  .of_wp fun prog w A R s h => by
    obtain ⟨hp, g, d, tk, os⟩ := s
    obtain ⟨p1, p2, h⟩ := h
    have hsub := sub_zip
    cases L1 <;> cases L2
    · have q1 : Heap.IsTuple (Shared.heap ⟨hp, g, d, tk, os⟩) l1 xs := p1
      have q2 : Heap.IsTuple (Shared.heap ⟨hp.push { cls := .type "tuple_iterator", data := .fields #[.ref l1, .int 0 0] }, g, d, tk, os⟩) l2 ys := Heap.IsTuple.push p2 _
      wp_walk using wpAny_pyIter_tuple q1, wpAny_pyIter_tuple q2
      exact ⟨_, rfl, h⟩
    · have q1 : Heap.IsTuple (Shared.heap ⟨hp, g, d, tk, os⟩) l1 xs := p1
      have q2 : Heap.IsList (Shared.heap ⟨hp.push { cls := .type "tuple_iterator", data := .fields #[.ref l1, .int 0 0] }, g, d, tk, os⟩) l2 ys := Heap.IsList.push p2 _
      wp_walk using wpAny_pyIter_tuple q1, wpAny_pyIter_list q2
      exact ⟨_, rfl, h⟩
    · have q1 : Heap.IsList (Shared.heap ⟨hp, g, d, tk, os⟩) l1 xs := p1
      have q2 : Heap.IsTuple (Shared.heap ⟨hp.push { cls := .type "list_iterator", data := .fields #[.ref l1, .int 0 0] }, g, d, tk, os⟩) l2 ys := Heap.IsTuple.push p2 _
      wp_walk using wpAny_pyIter_list q1, wpAny_pyIter_tuple q2
      exact ⟨_, rfl, h⟩
    · have q1 : Heap.IsList (Shared.heap ⟨hp, g, d, tk, os⟩) l1 xs := p1
      have q2 : Heap.IsList (Shared.heap ⟨hp.push { cls := .type "list_iterator", data := .fields #[.ref l1, .int 0 0] }, g, d, tk, os⟩) l2 ys := Heap.IsList.push p2 _
      wp_walk using wpAny_pyIter_list q1, wpAny_pyIter_list q2
      exact ⟨_, rfl, h⟩
theorem src_new {L : Bool} {h : Heap} {i l : Addr} {xs : Array Value} (e : h.get? i = some (itO L l)) (q : IsSq L h l xs) : Src L h i l 0 xs := by
  cases L
  · exact ⟨⟨_, e, rfl, rfl⟩, q⟩
  · exact ⟨⟨_, e, rfl, rfl⟩, q⟩
theorem IsSq.at {L : Bool} {h h' : Heap} {l : Addr} {xs : Array Value} (q : IsSq L h l xs) (k : ∀ o, h.get? l = some o → h'.get? l = some o) : IsSq L h' l xs := by
  cases L
  · exact Heap.IsTuple.at q k
  · exact Heap.IsList.at q k
section
variable {prog : Program} {w : World} {A : Around} {E : Value → Shared → Prop} {s : Shared}
theorem call_zm {L1 L2 : Bool} {l1 l2 : Addr} {xs ys : Array Value} {Q : Value → Shared → Prop} (p1 : IsSq L1 s.heap l1 xs) (p2 : IsSq L2 s.heap l2 ys)
    (h : ∀ h', IsZip h' (s.heap.objs.size + 4) (s.heap.objs.size + 2) (s.heap.objs.size + 3) .none → IsPair h' (s.heap.objs.size + 2) (.ref s.heap.objs.size) (.ref (s.heap.objs.size + 1)) →
      IsPair h' (s.heap.objs.size + 3) .none .none → h'.get? s.heap.objs.size = some (itO L1 l1) → h'.get? (s.heap.objs.size + 1) = some (itO L2 l2) →
      (∀ c o, s.heap.get? c = some o → h'.get? c = some o) → Q (.ref (s.heap.objs.size + 4)) { s with heap := h' }) :
    wpAny (model prog w) A (call (.type "zip") [.ref l1, .ref l2]) Q E s := by
  refine callType_new F.called_zip (by decide) (F.typeCall_zip_2 _ _) (F.newCall_zip_2 _ _) (fun obj => F.args_object_init_3 obj _ _) F.entry_zip_new (zm_new L1 L2 l1 l2 xs ys) ⟨p1, p2, ?_⟩
  have nf : ∀ L l, (itO L l).isFreed = false := fun L l => by cases L <;> rfl
  have zA : (zmA L1 s.heap l1).objs.size = s.heap.objs.size + 1 := Heap.size_push ..
  have zB : (zmB L1 L2 s.heap l1 l2).objs.size = s.heap.objs.size + 2 := by rw [Heap.size_push, zA]
  have zC : (zmC L1 L2 s.heap l1 l2).objs.size = s.heap.objs.size + 3 := by rw [Heap.size_push, zB]
  have zD : (zmD L1 L2 s.heap l1 l2).objs.size = s.heap.objs.size + 4 := by rw [Heap.size_push, zC]
  have gE : (zmE L1 L2 s.heap l1 l2).get? (zmD L1 L2 s.heap l1 l2).objs.size = some _ := Heap.get?_push_size _ rfl
  have gD : (zmE L1 L2 s.heap l1 l2).get? (zmC L1 L2 s.heap l1 l2).objs.size = some _ := Heap.get?_push_of_some _ (Heap.get?_push_size _ rfl)
  have gC : (zmE L1 L2 s.heap l1 l2).get? (zmB L1 L2 s.heap l1 l2).objs.size = some _ := Heap.get?_push_of_some _ (Heap.get?_push_of_some _ (Heap.get?_push_size _ rfl))
  have gB : (zmE L1 L2 s.heap l1 l2).get? (zmA L1 s.heap l1).objs.size = some (itO L2 l2) := Heap.get?_push_of_some _ (Heap.get?_push_of_some _ (Heap.get?_push_of_some _ (Heap.get?_push_size _ (nf _ _))))
  have gA : (zmE L1 L2 s.heap l1 l2).get? s.heap.objs.size = some (itO L1 l1) := Heap.get?_push_of_some _ (Heap.get?_push_of_some _ (Heap.get?_push_of_some _ (Heap.get?_push_of_some _ (Heap.get?_push_size _ (nf _ _)))))
  show _ ∧ _
  rw [zB, zC, zD] at gE
  rw [zA, zB] at gC
  rw [zC] at gD
  rw [zA] at gB
  rw [zD]
  exact ⟨⟨_, gE, rfl⟩, h _ gE gC gD gA gB fun c o x =>
    Heap.get?_push_of_some _ (Heap.get?_push_of_some _ (Heap.get?_push_of_some _ (Heap.get?_push_of_some _ (Heap.get?_push_of_some _ x))))⟩
end
end Rf

/-! RfTU: zip of a list and a tuple, either order: the rule. -/
namespace Rf
open PySem PySem.Spec PyProof.Rows L2 RZ
def IsIt (L : Bool) (h : Heap) (i l : Addr) (k : Nat) : Prop := if L then h.IsListIter i l k else h.IsTupleIter i l k
theorem Src.it {L : Bool} {h : Heap} {i l : Addr} {k : Nat} {xs : Array Value} (t : Src L h i l k xs) : IsIt L h i l k := by
  cases L
  · exact t.1
  · exact t.1
theorem Src.of {L : Bool} {h : Heap} {i l : Addr} {k : Nat} {xs : Array Value} (t : IsIt L h i l k) (q : IsSq L h l xs) : Src L h i l k xs := by
  cases L
  · exact ⟨t, q⟩
  · exact ⟨t, q⟩
theorem IsIt.at {L : Bool} {h h' : Heap} {i l : Addr} {k : Nat} (t : IsIt L h i l k) (e : ∀ o, h.get? i = some o → h'.get? i = some o) : IsIt L h' i l k := by
  cases L
  · exact Heap.IsTupleIter.at t e
  · exact Heap.IsListIter.at t e
theorem IsIt.obj {L : Bool} {h : Heap} {i l : Addr} {k : Nat} (t : IsIt L h i l k) : ∃ o fs, h.get? i = some o ∧ o.data = .fields fs := by
  cases L
  · obtain ⟨o, e, _, d⟩ := t; exact ⟨o, _, e, d⟩
  · obtain ⟨o, e, _, d⟩ := t; exact ⟨o, _, e, d⟩
def SqB (L : Bool) (K : PySem.W.Frag) (H : Hp) (a : Addr) (xs : List V) : Prop := if L then SqL K H a xs else SqT K H a xs
theorem sqB_is {X : Cx} {L : Bool} {pins : List (Addr × Obj)} {σ : L2.St} {H : Hp} {s : Shared} {a : Addr} {xs : List V} (I : Inv X pins σ H s) (q : SqB L X.K H a xs) : ∃ its, Vals xs its ∧ IsSq L s.heap a its.toArray := by
  cases L
  · obtain ⟨its, rv, p, _⟩ := I.tuple q
    exact ⟨its, rv, p⟩
  · obtain ⟨its, rv, p, _⟩ := I.list q
    exact ⟨its, rv, p.isList⟩
theorem sqB_inj {X : Cx} {L : Bool} {pins : List (Addr × Obj)} {σ : L2.St} {H : Hp} {s : Shared} {a : Addr} {xs ys : List V} (I : Inv X pins σ H s) (q : SqB L X.K H a xs) (p : SqB L X.K H a ys) : xs = ys := by
  cases L
  · exact I.tuple_inj q p
  · exact I.list_inj q p
theorem IsSq.lt {L : Bool} {h : Heap} {l : Addr} {xs : Array Value} (q : IsSq L h l xs) : l < h.objs.size := by
  cases L
  · obtain ⟨o, e, _⟩ := q; exact Heap.lt_size e
  · obtain ⟨o, e, _⟩ := q; exact Heap.lt_size e
/-- a zip's turns, of sequences of the kinds L and M -/
def ItzB (L M : Bool) (K : PySem.W.Frag) (a b : Addr) : It :=
  ⟨fun i H => ∃ (xs ys : List V) (x y : V), SqB L K H a xs ∧ SqB M K H b ys ∧ xs[i]? = some x ∧ ys[i]? = some y,
    fun i H v H' => ∃ T x y, v = .ref T ∧ H T = none ∧ H' = upd H T (.tup [x, y]) ∧ (∀ xs, SqB L K H a xs → xs[i]? = some x) ∧ ∀ ys, SqB M K H b ys → ys[i]? = some y,
    fun i H => ∃ xs ys : List V, SqB L K H a xs ∧ SqB M K H b ys ∧ (xs.length ≤ i ∨ ys.length ≤ i)⟩
theorem turn_zm {L M : Bool} {P : Program} {w : World} {K : PySem.W.Frag} {elts : List Expr} {kk : Nat} {tpos : Pos} {a b z TI TO i1 i2 : Addr} (D : ZipApart z TI TO i1 i2 a b) :
    Turn P w K (.Tuple elts kk tpos) (ItzB L M K a b) [z, TI, TO, i1, i2] z (fun i h => IsZip h z TI TO .none ∧ IsPair h TI (.ref i1) (.ref i2) ∧ (∃ x y, IsPair h TO x y) ∧ IsIt L h i1 a i ∧ IsIt M h i2 b i) where
  mem := by simp
  obj := by
    rintro i h ⟨hz, hTI, ⟨x, y, hTO⟩, t1, t2⟩ c hc
    obtain ⟨o1, f1, e1, d1⟩ := t1.obj
    obtain ⟨o2, f2, e2, d2⟩ := t2.obj
    simp only [List.mem_cons, List.not_mem_nil, or_false] at hc
    rcases hc with rfl | rfl | rfl | rfl | rfl
    · exact ⟨_, hz, fun v q => nomatch q⟩
    · exact ⟨_, hTI, fun v q => nomatch q⟩
    · exact ⟨_, hTO, fun v q => nomatch q⟩
    · exact ⟨o1, e1, fun v q => by rw [d1] at q; cases q⟩
    · exact ⟨o2, e2, fun v q => by rw [d2] at q; cases q⟩
  keep := by
    rintro i h h' ⟨hz, hTI, ⟨x, y, hTO⟩, t1, t2⟩ k
    exact ⟨k z (by simp) _ hz, k TI (by simp) _ hTI, ⟨x, y, k TO (by simp) _ hTO⟩, t1.at (k i1 (by simp)), t2.at (k i2 (by simp))⟩
  item := by
    intro X hP hw hK hc i pins s σ H E I hf st hg
    subst hP hw hK
    obtain ⟨hz, hTI, ⟨x0, y0, hTO⟩, t1, t2⟩ := st
    obtain ⟨xs, ys, x, y, hqx, hqy, hx, hy⟩ := hg
    obtain ⟨its, rv, p⟩ := sqB_is I hqx
    obtain ⟨its2, rv2, p2⟩ := sqB_is I hqy
    obtain ⟨u, hu, ru⟩ := rv.get hx
    obtain ⟨u2, hu2, ru2⟩ := rv2.get hy
    have zl : z < s.heap.objs.size := Heap.lt_size hz
    refine zm_next D hz hTI hTO (.of t1 p) (.of t2 p2) (x := u) (y := u2) (by simpa using hu) (by simpa using hu2) fun h' z' TO' t1' t2' hT hk => ?_
    refine ⟨_, rfl, wpAny_letOwnedTupleGo_zip (s := { s with heap := h' }) z' fun h'' z'' sb => ?_⟩
    have hT2 : h''.get? s.heap.objs.size = some { cls := .type "tuple", data := .seq #[u, u2] } := (sb.2 _ (Nat.ne_of_gt zl)).trans hT
    have new : ObjOk X.prog X.w (upd H s.heap.objs.size (.tup [x, y])) h'' s.heap.objs.size (.tup [x, y]) :=
      ⟨by show 2 ≤ sizeLine; decide, [u, u2], .cons ru (.cons ru2 .nil), ⟨_, hT2, rfl, _, rfl⟩⟩
    have keep : ∀ c o, c ∉ [z, TI, TO, i1, i2] → s.heap.get? c = some o → h''.get? c = some o := fun c o hb q => by
      simp only [List.mem_cons, List.not_mem_nil, or_false, not_or] at hb
      exact (sb.2 c hb.1).trans (hk c o hb.1 hb.2.2.1 hb.2.2.2.1 hb.2.2.2.2 q)
    have I1 : Inv X pins σ (upd H s.heap.objs.size (.tup [x, y])) { s with heap := h'' } := I.turnedNew (t' := s.toks) (ch := [z, TI, TO, i1, i2]) keep hf (Nat.le_refl _) new
    refine ⟨.ref s.heap.objs.size, _, I1, rfl, ⟨_, x, y, rfl, I.hok.fresh (Nat.le_refl _), rfl, fun l hl => by rw [sqB_inj I hl hqx]; exact hx, fun l hl => by rw [sqB_inj I hl hqy]; exact hy⟩,
      ⟨z'', (sb.2 _ D.TIz).trans (hk _ _ D.TIz D.TITO D.TIi1 D.TIi2 hTI), ⟨u, u2, (sb.2 _ D.TOz).trans TO'⟩, t1'.it.at fun o q => (sb.2 _ D.i1z).trans q, t2'.it.at fun o q => (sb.2 _ D.i2z).trans q⟩, fun c hcm => ?_⟩
    have hlt : c < s.heap.objs.size := by
      obtain ⟨_, _, e1, _⟩ := t1.obj
      obtain ⟨_, _, e2, _⟩ := t2.obj
      simp only [List.mem_cons, List.not_mem_nil, or_false] at hcm
      rcases hcm with rfl | rfl | rfl | rfl | rfl
      · exact zl
      · exact Heap.lt_size hTI
      · exact Heap.lt_size hTO
      · exact Heap.lt_size e1
      · exact Heap.lt_size e2
    rw [upd_ne (Nat.ne_of_lt hlt)]
    exact (hf c hcm).1
  done := by
    intro X hP hw hK hc i pins s σ H E I hf st hg
    subst hP hw hK
    obtain ⟨hz, hTI, ⟨x0, y0, hTO⟩, t1, t2⟩ := st
    obtain ⟨xs, ys, hqx, hqy, hend⟩ := hg
    obtain ⟨its, rv, p⟩ := sqB_is I hqx
    obtain ⟨its2, rv2, p2⟩ := sqB_is I hqy
    have n1 := rv.length
    have n2 := rv2.length
    have he : its.toArray[i]? = none ∨ its2.toArray[i]? = none := hend.imp (fun q => by simp; omega) fun q => by simp; omega
    exact zm_over (I.ok.hd hc) D hz hTI hTO (.of t1 p) (.of t2 p2) he fun h' hk => ⟨rfl, I.turnedL (t' := s.toks) (ch := [z, TI, TO, i1, i2]) (fun c o hb q => by
      simp only [List.mem_cons, List.not_mem_nil, or_false, not_or] at hb
      exact hk c o hb.1 hb.2.2.1 hb.2.2.2.1 hb.2.2.2.2 q) hf⟩
  self := fun A i s Q E st h => wpAny_pyIter_zip st.1 h
def iZm (L M : Bool) (K : PySem.W.Frag) (ta : TA) : TI := fun σ H R => ta σ H fun vs H1 => ∃ a b xs ys, vs = [.ref a, .ref b] ∧ SqB L K H1 a xs ∧ SqB M K H1 b ys ∧ R (ItzB L M K a b) H1
theorem pi_zm {X : Cx} {L M : Bool} {e e2 : Expr} {ta : TA} {p pos tpos : Pos} {elts : List Expr} {kk : Nat} (hg : Gl X "zip") (hm : X.mg "zip" = none) (ha : PA X [e, e2] ta)
    (hs : starEach [e, e2] X.env = (false, eval e X.env) :: starEach [e2] X.env := by rfl) (hpl : (backTo pos (starEach [e2] X.env)).any (·.1) = false := by rfl) :
    PI X (.Tuple elts kk tpos) (.Call (.Name "zip" p) [e, e2] [] pos) (iZm L M X.K ta) := by
  refine ⟨fun pins s σ H R I h => ?_⟩
  refine Call_ (ld_blt I hg hm PyProof.Rows.boot_zip (PyProof.Rows.callWith_type1 (thn (ha.run pos pins s σ H _ I h) fun us s1 ⟨vs, H1, I1, r1, q1⟩ => ?_) hs hpl))
  obtain ⟨a, b, xs, ys, rfl, hqx, hqy, q⟩ := q1
  obtain ⟨u, rfl, t⟩ : ∃ u, us = .ref a :: u ∧ Vals [.ref b] u := by cases r1 with | cons r rr => cases r; exact ⟨_, rfl, rr⟩
  obtain rfl : u = [.ref b] := by cases t with | cons r rr => cases rr; cases r; rfl
  obtain ⟨its, rv, p1⟩ := sqB_is I1 hqx
  obtain ⟨its2, rv2, p2⟩ := sqB_is I1 hqy
  refine call_zm p1 p2 fun h' hz hTI hTO e1 e2 hk => wpAny_pyIter_zip hz ?_
  refine ⟨s1.heap.objs.size + 4, [s1.heap.objs.size + 4, s1.heap.objs.size + 2, s1.heap.objs.size + 3, s1.heap.objs.size, s1.heap.objs.size + 1], _, _, H1, rfl, I1.kept (t' := s1.toks) hk,
    turn_zm (PySem.W.ktu_apart s1.heap.objs.size a b p1.lt p2.lt), ⟨hz, hTI, ⟨_, _, hTO⟩, (src_new e1 (p1.at fun o x => hk _ o x)).it, (src_new e2 (p2.at fun o x => hk _ o x)).it⟩, fun c hcm => ?_, q⟩
  have hle : s1.heap.objs.size ≤ c := by
    simp only [List.mem_cons, List.not_mem_nil, or_false] at hcm
    rcases hcm with rfl | rfl | rfl | rfl | rfl
    · exact Nat.le_add_right _ _
    · exact Nat.le_add_right _ _
    · exact Nat.le_add_right _ _
    · exact Nat.le_refl _
    · exact Nat.le_add_right _ _
  exact I1.fpOk hle (I1.hok.fresh hle)

section
variable {X : Cx} {tg : Expr} {g : Gx} {B : WX} {bs : List Nat} {ρ : List Addr} {F N H : Hp} {S : Store} {a b e : Expr} {ma mb : M W} {ms : M (List W)} {p pos tpos : Pos} {elts : List Expr} {kk : Nat}
def iterB (L : Bool) (S : Store) (w : W) : Option Iter := if L then iterL S w else iterT w
theorem rep_B {L : Bool} {w : W} {v : V} {it : Iter} (s : Sim g bs ρ F N S H) (r : Is g.K ρ F v w) (h : iterB L S w = some it) : ∃ x, v = .ref x ∧ (∃ vs, SqB L g.K H x vs) ∧ RepQ L g ρ F it x := by
  cases L
  · exact rep_tup s r h
  · exact rep_lst s r h
theorem walk_zm {L M : Bool} {x y : Addr} {i1 i2 : Iter} (r1 : RepQ L g ρ F i1 x) (r2 : RepQ M g ρ F i2 y) : WalkOk g (ItzB L M g.K x y) ρ F (.zip i1 i2) := by
  intro bs ρ' F' N' S' H' i gr s
  show match (match i1.next i S', i2.next i S' with
    | some (some x), some (some y) => some (some (mkTup [x, y]))
    | some none, some _ => some none
    | some _, some none => some none
    | _, _ => none : Option (Option W)) with
    | some (some w) => _
    | some none => _
    | none => True
  rcases r1 bs ρ' F' N' S' H' gr s with ⟨vs, ws, q1, l1, e1⟩ | e1
  · rcases r2 bs ρ' F' N' S' H' gr s with ⟨us, zs, q2, l2, e2⟩ | e2
    · rw [e1 i, e2 i]
      rcases hw : ws[i]? with _ | w
      · have hl : vs.length ≤ i := by rw [l1.len]; exact List.getElem?_eq_none_iff.mp hw
        rcases hz : zs[i]? with _ | z <;> exact ⟨vs, us, q1, q2, .inl hl⟩
      · rcases hz : zs[i]? with _ | z
        · have hl : us.length ≤ i := by rw [l2.len]; exact List.getElem?_eq_none_iff.mp hz
          exact ⟨vs, us, q1, q2, .inr hl⟩
        · obtain ⟨v, hv, rv⟩ := l1.get hw
          obtain ⟨u, hu, ru⟩ := l2.get hz
          refine ⟨⟨vs, us, v, u, q1, q2, hv, hu⟩, ?_⟩
          rintro xv H2 ⟨T, v', u', rfl, hT, rfl, h1, h2⟩
          have h1 := h1 vs q1
          have h2 := h2 us q2
          rw [hv] at h1
          cases h1
          rw [hu] at h2
          cases h2
          obtain ⟨s', g'⟩ := s.frozen (o := .tup [v, u]) hT
          exact ⟨_, g', s', is_mkTup upd_same (.cons (rv.mono g') (.cons (ru.mono g') .nil))⟩
    · rw [e1 i, e2 i]
      cases ws[i]? <;> trivial
  · rw [e1 i]
    trivial
/-- zip(a, b): L and M say which are lists -/
def mZipB (L M' : Bool) (ms : M (List W)) : M Iter := fun bs env S => (ms bs env S).bind fun ws S1 => match ws with
  | [x, y] => match iterB L S1 x, iterB M' S1 y with
    | some i, some j => .ok (.zip i j) S1
    | _, _ => .stuck
  | _ => .stuck
theorem ri_zipB {L M' : Bool} (hK : g.K = X.K) (hg : Gl X "zip") (hm : X.mg "zip" = none) (ha : PA X [a, b] (rdA g B ms)) (hs : starEach [a, b] X.env = (false, eval a X.env) :: starEach [b] X.env := by rfl) (hpl : (backTo pos (starEach [b] X.env)).any (·.1) = false := by rfl) :
    PI X (.Tuple elts kk tpos) (.Call (.Name "zip" p) [a, b] [] pos) (rdI g B (mZipB L M' ms)) := (pi_zm hg hm ha hs hpl).imp fun σ H R ⟨bs, ρ, F, N, env, S, s, e, p⟩ => by
  refine ⟨bs, ρ, F, N, env, S, s, e, (Post.iter (R := RWs g) p).imp fun x H1 ⟨ρ1, F1, wx, S1, g1, s1, r1, p1⟩ => ?_⟩
  rw [← hK]
  split at p1
  · rename_i w u
    obtain ⟨v, z, rfl, rv, rz⟩ := all_two r1
    split at p1
    · rename_i i j hi hj
      obtain ⟨x, rfl, ⟨vs, q1⟩, w1⟩ := rep_B s1 rv hi
      obtain ⟨y, rfl, ⟨us, q2⟩, w2⟩ := rep_B s1 rz hj
      exact ⟨x, y, vs, us, rfl, q1, q2, p1 ρ1 F1 H1 _ (Grow.refl _ _) s1 (walk_zm w1 w2)⟩
    · exact p1.elim
  · exact p1.elim
end
end Rf

/-! RfTW: a tuple times one. -/
namespace Rf
open PySem PySem.Spec PyProof.Rows L2
theorem tuple_mul1 (l : Addr) (items : Array Value) (n : Nat) (dd : Option Addr) (sl : Array (Option Value)) (u : Tok) :
    Meets (Builtin.«tuple.__mul__» ⟨[.ref l, .int 1 u], []⟩) (fun _ R s => s.heap.get? l = some { cls := .type "tuple", dict := dd, data := .seq items n, slots := sl } ∧ R (.ok (.ret (.ref l))) s) :=
  .of_wp fun prog w A R s h => by
    obtain ⟨hp, g, d, tk, os⟩ := s
    obtain ⟨hl, h⟩ := h
    have f1 := AutoSeq1.idx_int
    wp_walk using wpAny_loadPart' hl
    repeat (first
      | (refine wpAny_ite_false (by decide) ?_; wp_walk using wpAny_loadPart' hl)
      | (refine wpAny_ite_true (by simp) ?_; wp_walk using wpAny_loadPart' hl))
    exact ⟨_, rfl, h⟩
def rRep1 (K : PySem.W.Frag) : R2 := fun x y H Q => ∃ l xs, x = .ref l ∧ y = .int 1 ∧ SqT K H l xs ∧ Q x H
theorem op_rep1 {X : Cx} : OpR X (binaryOp .Mult) (rRep1 X.K) := by
  rintro pins s σ H x y v u Q I rx ry ⟨l, xs, rfl, rfl, hT, q⟩
  cases rx
  obtain ⟨t, rfl⟩ := ry
  obtain ⟨its, r, ⟨⟨cls, dd, data, sl⟩, ho, hc, n, hd⟩, hs⟩ := I.tuple hT
  simp only at hc hd
  subst hc hd
  refine wpAny_binaryOp_repeat_ref (T := "tuple") (U := "int") (by decide) ⟨_, ho, rfl⟩ (fun s' => typeIs_int s' 1 t) noFill_tuple_mul F.fills_int_mul F.slot_int_rmul repeat_tuple F.slot_int_index.lookup
    (call_meets F.slot_int_rmul (typeIs_int s 1 t) F.entry_int_rmul (F.args_int_rmul_2 _ _) (int_rmul_tuple 1 t l its.toArray n dd sl)
      ⟨ho, rfl, ⟨_, ho, rfl⟩, call_meets F.slot_tuple_mul ⟨_, ho, rfl⟩ F.entry_tuple_mul (F.args_tuple_mul_2 _ _) (tuple_mul1 l its.toArray n dd sl t) ⟨ho, ?_⟩⟩)
  exact ⟨.ref l, H, I, rfl, q⟩
/-- x * j, where a tuple may stand with j = 1 -/
def mulF1 (k : Bool) : Op2 := fun bs x y S => match y with
  | .dat (.int 1) => match tupOf x with
    | some _ => some (x, S)
    | none => mulF k bs x y S
  | _ => mulF k bs x y S
theorem ro_mul1 {X : Cx} {g : Gx} (hK : g.K = X.K) {k : Bool} : OpR X (binaryOp .Mult) (rd2 g (mulF1 k)) := by
  intro pins s σ H x y v u Q I rx ry ⟨bs, ρ, F, N, S, wx, wy, s1, r1, r2, p⟩
  unfold mulF1 at p
  split at p
  · split at p
    · rename_i xs h1
      rw [is_int r2] at ry
      obtain ⟨a, vs, rfl, q1, l1⟩ := tup_of r1 h1
      exact op_rep1 pins s σ H _ _ v u Q I rx ry ⟨a, vs, rfl, rfl, by rw [← hK]; exact Same.sqT s1.ex q1, p ρ F H _ (Grow.refl _ _) s1 r1⟩
    · exact ro_mul hK pins s σ H x y v u Q I rx ry ⟨bs, ρ, F, N, S, wx, _, s1, r1, r2, p⟩
  · exact ro_mul hK pins s σ H x y v u Q I rx ry ⟨bs, ρ, F, N, S, wx, _, s1, r1, r2, p⟩
end Rf

namespace Rf
open PySem L2

/-! ### what an outcome must be: weakest preconditions over readings -/
abbrev EK := Nat → List W → Store → Prop
abbrev NoE : EK := fun _ _ _ => False
def Out.wp {α : Type} (o : Out α) (Q : α → Store → Prop) (E : EK) : Prop := match o with
  | .ok a S => Q a S
  | .ex c ws S => E c ws S
  | .stuck => False
def SO.wp (o : SO) (N : Env → Store → Prop) (R : W → Store → Prop) (B C : Env → Store → Prop) (E : Nat → List W → Env → Store → Prop) : Prop := match o with
  | .nx e S => N e S
  | .rt w S => R w S
  | .bk e S => B e S
  | .ct e S => C e S
  | .ex c ws e S => E c ws e S
  | .stuck => False
def wpo (o : Option (W × Store)) (Q : W → Store → Prop) : Prop := match o with
  | some (w, S) => Q w S
  | none => False
theorem Out.wp.mono {α : Type} {o : Out α} {Q Q' : α → Store → Prop} {E E' : EK} (h : o.wp Q E) (i : ∀ a S, Q a S → Q' a S) (j : ∀ c ws S, E c ws S → E' c ws S) : o.wp Q' E' := by
  cases o with
  | ok a S => exact i _ _ h
  | ex c ws S => exact j _ _ _ h
  | stuck => exact h
theorem Out.wp.imp {α : Type} {o : Out α} {Q Q' : α → Store → Prop} {E : EK} (h : o.wp Q E) (i : ∀ a S, Q a S → Q' a S) : o.wp Q' E := h.mono i fun _ _ _ z => z
theorem Out.wp.use {α : Type} {o : Out α} {Q Q' : α → Store → Prop} {E : EK} (h : o.wp Q NoE) (i : ∀ a S, Q a S → Q' a S) : o.wp Q' E := h.mono i fun _ _ _ z => z.elim
theorem wp_eq {α : Type} {o : Out α} {a : α} {S : Store} {Q : α → Store → Prop} {E : EK} (h : o = .ok a S) (q : Q a S) : o.wp Q E := by rw [h]; exact q
theorem eq_of_wp {α : Type} {o : Out α} {a : α} {S : Store} (h : o.wp (fun b S' => b = a ∧ S' = S) NoE) : o = .ok a S := by
  cases o with
  | ok b T => obtain ⟨rfl, rfl⟩ := h; rfl
  | ex c ws S => exact h.elim
  | stuck => exact h.elim
theorem ok_of_wp {α : Type} {o : Out α} {Q : α → Store → Prop} (h : o.wp Q NoE) : ∃ a S, o = .ok a S ∧ Q a S := by
  cases o with
  | ok b T => exact ⟨b, T, rfl, h⟩
  | ex c ws S => exact h.elim
  | stuck => exact h.elim
theorem bind_wp {α β : Type} {o : Out α} {f : α → Store → Out β} {Q : β → Store → Prop} {E : EK} (h : o.wp (fun a S => (f a S).wp Q E) E) : (o.bind f).wp Q E := by
  cases o with
  | ok a S => exact h
  | ex c ws S => exact h
  | stuck => exact h
theorem so_wp {α : Type} {o : Out α} {env : Env} {f : α → Store → SO} {N R B C E} (h : o.wp (fun a S => (f a S).wp N R B C E) fun c ws S => E c ws env S) : (o.so env f).wp N R B C E := by
  cases o with
  | ok a S => exact h
  | ex c ws S => exact h
  | stuck => exact h
theorem then_wp {o : SO} {f : Env → Store → SO} {N R B C E} (h : o.wp (fun e S => (f e S).wp N R B C E) R B C E) : (o.andThen f).wp N R B C E := by
  cases o <;> exact h

/-! ### expressions -/
section
variable {α : Type} {bs : List Nat} {env : Env} {S : Store} {E : EK} {m ma mb mc : M W} {ms : M (List W)} {i : Nat} {t u : M Bool}
theorem wp_var {w : W} {Q : W → Store → Prop} (h : env[i]? = some (some w)) (q : Q w.weak S) : (mVar i bs env S).wp Q E := by unfold mVar; rw [h]; exact q
theorem wp_varD {d : PyData} {Q : W → Store → Prop} (h : env[i]? = some (some (.dat d))) (q : Q (.dat d) S) : (mVar i bs env S).wp Q E := wp_var h q
theorem wp_varL {n : Nat} {Q : W → Store → Prop} (h : env[i]? = some (some (.loc n))) (q : Q (.loc n) S) : (mVar i bs env S).wp Q E := wp_var h q
theorem wp_varLw {ws : List W} {Q : W → Store → Prop} (h : env[i]? = some (some (.lw ws))) (q : Q (.lw ws) S) : (mVar i bs env S).wp Q E := wp_var h q
theorem wp_con {d : PyData} {Q : W → Store → Prop} (q : Q (.dat d) S) : (mCon d bs env S).wp Q E := q
theorem wp_bin {f : Op2} {Q : W → Store → Prop} (h : (ma bs env S).wp (fun x S1 => (mb bs env S1).wp (fun y S2 => wpo (f bs x y S2) Q) E) E) : (mBin f ma mb bs env S).wp Q E :=
  bind_wp (h.imp fun x S1 h1 => bind_wp (h1.imp fun y S2 h2 => by
    show Out.wp (match f bs x y S2 with | some (w, S3) => Out.ok w S3 | none => .stuck) Q E
    unfold wpo at h2
    split at h2
    · exact h2
    · exact h2.elim))
/-- a truth -/
def isB (w : W) (Q : Bool → Prop) : Prop := match w with
  | .dat (.bool b) => Q b
  | _ => False
theorem isB_mk {b : Bool} {Q : Bool → Prop} (q : Q b) : isB (.dat (.bool b)) Q := q
theorem wp_B {Q : Bool → Store → Prop} (h : (m bs env S).wp (fun w S1 => isB w fun b => Q b S1) E) : (mB m bs env S).wp Q E := bind_wp (h.imp fun w S1 h1 => by
  unfold isB at h1
  split at h1
  · exact h1
  · exact h1.elim)
theorem wp_not {Q : Bool → Store → Prop} (h : (t bs env S).wp (fun b S1 => Q (!b) S1) E) : (mNot t bs env S).wp Q E := bind_wp h
theorem wp_if {n1 n2 : M α} {Q : α → Store → Prop} (h : (t bs env S).wp (fun b S1 => (b = true → (n1 bs env S1).wp Q E) ∧ (b = false → (n2 bs env S1).wp Q E)) E) : (mIf t n1 n2 bs env S).wp Q E := bind_wp (h.imp fun b S1 h1 => by
  show Out.wp (if b = true then _ else _) Q E
  cases b with
  | true => exact h1.1 rfl
  | false => exact h1.2 rfl)
theorem wp_ok {a : α} {Q : α → Store → Prop} (q : Q a S) : (Out.ok a S).wp Q E := q
theorem wp_yes {Q : Bool → Store → Prop} (q : Q true S) : (mYes bs env S).wp Q E := q
theorem wp_tru {Q : Bool → Store → Prop} (h : (m bs env S).wp (fun w S1 => ∃ b, truW S1 w = some b ∧ Q b S1) E) : (mTru m bs env S).wp Q E := bind_wp (h.imp fun w S1 ⟨b, e, q⟩ => by
  show Out.wp (match truW S1 w with | some b => Out.ok b S1 | none => .stuck) Q E
  rw [e]; exact q)
theorem wp_andV {Q : W → Store → Prop} (h : (ma bs env S).wp (fun w S1 => ∃ b, truW S1 w = some b ∧ (b = true → (mb bs env S1).wp Q E) ∧ (b = false → Q w S1)) E) : (mAndV ma mb bs env S).wp Q E := bind_wp (h.imp fun w S1 ⟨b, e, q⟩ => by
  show Out.wp (match truW S1 w with | some b => if b = true then mb bs env S1 else Out.ok w S1 | none => .stuck) Q E
  rw [e]
  cases b with
  | true => exact q.1 rfl
  | false => exact q.2 rfl)
theorem wp_orV {Q : W → Store → Prop} (h : (ma bs env S).wp (fun w S1 => ∃ b, truW S1 w = some b ∧ (b = true → Q w S1) ∧ (b = false → (mb bs env S1).wp Q E)) E) : (mOrV ma mb bs env S).wp Q E := bind_wp (h.imp fun w S1 ⟨b, e, q⟩ => by
  show Out.wp (match truW S1 w with | some b => if b = true then Out.ok w S1 else mb bs env S1 | none => .stuck) Q E
  rw [e]
  cases b with
  | true => exact q.1 rfl
  | false => exact q.2 rfl)
theorem wp_notV {Q : W → Store → Prop} (h : (ma bs env S).wp (fun w S1 => ∃ b, truW S1 w = some b ∧ Q (.bl (!b)) S1) E) : (mNotV ma bs env S).wp Q E := bind_wp (h.imp fun w S1 ⟨b, e, q⟩ => by
  show Out.wp (match truW S1 w with | some b => Out.ok (W.bl (!b)) S1 | none => .stuck) Q E
  rw [e]; exact q)
theorem wp_neg {Q : W → Store → Prop} (h : (ma bs env S).wp (fun w S1 => ∃ i, w = .dat (.int i) ∧ Q (.dat (.int (-i))) S1) E) : (mNeg ma bs env S).wp Q E := bind_wp (h.imp fun w S1 ⟨i, e, q⟩ => by subst e; exact q)
theorem wp_chain {f f' : Op2} {Q : W → Store → Prop} (h : (ma bs env S).wp (fun x S1 => (mb bs env S1).wp (fun y S2 => wpo (f bs x y S2) fun w S3 => isB w fun b => (b = true → (mc bs env S3).wp (fun z S4 => wpo (f' bs y z S4) Q) E) ∧ (b = false → Q (.dat (.bool false)) S3)) E) E) : (mChain f f' ma mb mc bs env S).wp Q E :=
  bind_wp (h.imp fun x S1 h1 => bind_wp (h1.imp fun y S2 h2 => by
    show Out.wp (match f bs x y S2 with | some (.dat (.bool b), S3) => _ | _ => .stuck) Q E
    unfold wpo at h2
    split at h2
    · rename_i w S3 e
      unfold isB at h2
      split at h2
      · rename_i b
        rw [e]
        cases b with
        | true =>
          refine bind_wp ((h2.1 rfl).imp fun z S4 h3 => ?_)
          show Out.wp (match f' bs y z S4 with | some (w, S5) => Out.ok w S5 | none => .stuck) Q E
          unfold wpo at h3
          split at h3
          · exact h3
          · exact h3.elim
        | false => exact h2.2 rfl
      · exact h2.elim
    · exact h2.elim))
theorem wp_nil {Q : List W → Store → Prop} (q : Q [] S) : (mNil bs env S).wp Q E := q
theorem wp_cons {Q : List W → Store → Prop} (h : (m bs env S).wp (fun w S1 => (ms bs env S1).wp (fun ws S2 => Q (w :: ws) S2) E) E) : (mCons m ms bs env S).wp Q E := bind_wp (h.imp fun w S1 h1 => bind_wp h1)
/-- what follows a display, a comprehension -/
def TP (Q : W → Store → Prop) (ws : List W) (S : Store) : Prop := ws.length ≤ 100000 ∧ Q (mkTup ws) S
def LP (k : Bool) (Q : W → Store → Prop) (ws : List W) (S : Store) : Prop := ws.length ≤ 100000 ∧ Q (newL k ws S).1 (newL k ws S).2
def NL (k : Bool) (Q : W → Store → Prop) (ws : List W) (S : Store) : Prop := Q (newL k ws S).1 (newL k ws S).2
theorem wp_tup {Q : W → Store → Prop} (h : (ms bs env S).wp (fun ws S1 => TP Q ws S1) E) : (mTup ms bs env S).wp Q E := bind_wp (h.imp fun ws S1 ⟨hl, q⟩ => by
  show Out.wp (if ws.length ≤ 100000 then Out.ok (mkTup ws) S1 else .stuck) Q E
  rw [if_pos hl]; exact q)
theorem wp_lst {k : Bool} {Q : W → Store → Prop} (h : (ms bs env S).wp (fun ws S1 => LP k Q ws S1) E) : (mLst k ms bs env S).wp Q E := bind_wp (h.imp fun ws S1 ⟨hl, q⟩ => by
  show Out.wp (if ws.length ≤ 100000 then Out.ok (newL k ws S1).1 (newL k ws S1).2 else .stuck) Q E
  rw [if_pos hl]; exact q)
theorem tp_dat {ws : List W} {ds : List PyData} {Q : W → Store → Prop} (hl : Nat.ble ws.length 100000 = true) (h : allDat ws = some ds) (q : Q (.dat (.tuple ds)) S) : TP Q ws S := by
  refine ⟨Nat.le_of_ble_eq_true hl, ?_⟩
  unfold mkTup; rw [h]; exact q
theorem lp_dat {ws : List W} {ds : List PyData} {Q : W → Store → Prop} (hl : Nat.ble ws.length 100000 = true) (h : allDat ws = some ds) (q : Q (.dat (.list ds)) S) : LP false Q ws S := by
  refine ⟨Nat.le_of_ble_eq_true hl, ?_⟩
  show Q (mkLst ws) S
  unfold mkLst; rw [h]; exact q
theorem lp_cell {ws : List W} {Q : W → Store → Prop} (hl : Nat.ble ws.length 100000 = true) (q : Q (.loc S.length) (S ++ [.lst ws])) : LP true Q ws S := ⟨Nat.le_of_ble_eq_true hl, q⟩
theorem wp_CB {f : OpN} {Q : W → Store → Prop} (h : (ms bs env S).wp (fun ws S1 => wpo (f bs ws S1) Q) E) : (mCB f ms bs env S).wp Q E := bind_wp (h.imp fun ws S1 h1 => by
  show Out.wp (match f bs ws S1 with | some (w, S2) => Out.ok w S2 | none => .stuck) Q E
  unfold wpo at h1
  split at h1
  · exact h1
  · exact h1.elim)
theorem wp_call {f : FnT} {Q : W → Store → Prop} (h : (ms bs env S).wp (fun ws S1 => (f bs ws S1).wp Q E) E) : (mCall f ms bs env S).wp Q E := bind_wp h
theorem wp_mt {T : MTy} {f : OpM} {mo : M W} {Q : W → Store → Prop} (h : (mo bs env S).wp (fun w S1 => wTy T w S1 = true ∧ (ms bs env S1).wp (fun ws S2 => wpo (f bs w ws S2) Q) E) E) : (mMt T f mo ms bs env S).wp Q E := bind_wp (h.imp fun w S1 ⟨ht, h1⟩ => by
  show Out.wp (if wTy T w S1 = true then _ else _) Q E
  rw [if_pos ht]
  refine bind_wp (h1.imp fun ws S2 h2 => ?_)
  show Out.wp (match f bs w ws S2 with | some (r, S3) => Out.ok r S3 | none => .stuck) Q E
  unfold wpo at h2
  split at h2
  · exact h2
  · exact h2.elim)
theorem wp_isi {T : String} {Q : W → Store → Prop} (h : (m bs env S).wp (fun w S1 => ∃ u, isiW T S1 w = some u ∧ Q u S1) E) : (mIsi T m bs env S).wp Q E := bind_wp (h.imp fun w S1 ⟨u, e, q⟩ => by
  show Out.wp (match isiW T S1 w with | some u => Out.ok u S1 | none => .stuck) Q E
  rw [e]; exact q)
theorem wp_noPart {Q : Option Int → Store → Prop} (q : Q none S) : (mNoPart bs env S).wp Q E := q
theorem wp_part {Q : Option Int → Store → Prop} (h : (m bs env S).wp (fun w S1 => ∃ i, w = .dat (.int i) ∧ Q (some i) S1) E) : (mPart m bs env S).wp Q E := bind_wp (h.imp fun w S1 ⟨i, e, q⟩ => by subst e; exact q)
theorem wp_sl {f : OpSl} {ml mh : M (Option Int)} {Q : W → Store → Prop} (h : (ma bs env S).wp (fun w S1 => (ml bs env S1).wp (fun l S2 => (mh bs env S2).wp (fun h S3 => wpo (f w l h S3) Q) E) E) E) : (mSl f ma ml mh bs env S).wp Q E :=
  bind_wp (h.imp fun w S1 h1 => bind_wp (h1.imp fun l S2 h2 => bind_wp (h2.imp fun h S3 h3 => by
    show Out.wp (match f w l h S3 with | some (r, S4) => Out.ok r S4 | none => .stuck) Q E
    unfold wpo at h3
    split at h3
    · exact h3
    · exact h3.elim)))
theorem wp_dic0t {Q : W → Store → Prop} (q : Q (.loc S.length) (S ++ [.dic []])) : (mDic0 true bs env S).wp Q E := q
theorem wp_dic0f {Q : W → Store → Prop} (q : Q (.dat (.dict [])) S) : (mDic0 false bs env S).wp Q E := q
theorem wp_rng1 {Q : Iter → Store → Prop} (h : (ms bs env S).wp (fun ws S1 => ∃ n, ws = [.dat (.int n)] ∧ (n < 4611686018427387904 ∧ -4611686018427387904 ≤ n) ∧ Q (.items (rangeW 0 n)) S1) E) : (mRng1 ms bs env S).wp Q E := bind_wp (h.imp fun ws S1 ⟨n, e, hl, q⟩ => by
  subst e
  show Out.wp (@ite _ (n < 4611686018427387904 ∧ -4611686018427387904 ≤ n) (rdec n) (Out.ok (Iter.items (rangeW 0 n)) S1) .stuck) Q E
  rw [if_pos hl]; exact q)
theorem wp_rng2 {Q : Iter → Store → Prop} (h : (ms bs env S).wp (fun ws S1 => ∃ i n, ws = [.dat (.int i), .dat (.int n)] ∧ ((n < 4611686018427387904 ∧ -4611686018427387904 ≤ n) ∧ (i < 4611686018427387904 ∧ -4611686018427387904 ≤ i)) ∧ Q (.items (rangeW i n)) S1) E) : (mRng2 ms bs env S).wp Q E := bind_wp (h.imp fun ws S1 ⟨i, n, e, hl, q⟩ => by
  subst e
  show Out.wp (@ite _ ((n < 4611686018427387904 ∧ -4611686018427387904 ≤ n) ∧ (i < 4611686018427387904 ∧ -4611686018427387904 ≤ i)) (@instDecidableAnd _ _ (rdec n) (rdec i)) (Out.ok (Iter.items (rangeW i n)) S1) .stuck) Q E
  rw [if_pos hl]; exact q)
end
/-! ### targets, statements -/
section
variable {bs : List Nat} {env : Env} {S : Store} {m : M W} {ms : M (List W)} {i j : Nat} {t : M Bool} {a b : MS} {N : Env → Store → Prop} {R : W → Store → Prop} {B C : Env → Store → Prop} {E : Nat → List W → Env → Store → Prop} {E' : EK} {Q : Env → Store → Prop}
theorem wp_name {w : W} (q : Q (env.set i (some w)) S) : (tName i w bs env S).wp Q E' := q
theorem wp_tNil (q : Q env S) : (tNil [] bs env S).wp Q E' := q
theorem wp_tCons {t : TM} {u : TMs} {w : W} {r : List W} (h : (t w bs env S).wp (fun e S1 => (u r bs e S1).wp Q E') E') : (tCons t u (w :: r) bs env S).wp Q E' := bind_wp h
theorem wp_tTup {n : Nat} {t : TMs} {w : W} {ws : List W} (h : tupOf w = some ws) (hl : ws.length = n) (q : (t ws bs env S).wp Q E') : (tTup n t w bs env S).wp Q E' := by
  unfold tTup
  rw [h]
  show Out.wp (if ws.length = n then t ws bs env S else .stuck) Q E'
  rw [if_pos hl]; exact q
theorem wp_tSub {mo mi : M W} {f : OpSet} {w : W} (h : (mo bs env S).wp (fun o S1 => (mi bs env S1).wp (fun x S2 => ∃ S3, f bs o x w S2 = some S3 ∧ Q env S3) E') E') : (tSub mo mi f w bs env S).wp Q E' := bind_wp (h.imp fun o S1 h1 => bind_wp (h1.imp fun x S2 ⟨S3, e, q⟩ => by
  show Out.wp (match f bs o x w S2 with | some S3 => Out.ok env S3 | none => .stuck) Q E'
  rw [e]; exact q))
theorem wp_seq (h : (a bs env S).wp (fun e S1 => (b bs e S1).wp N R B C E) R B C E) : (sSeq a b bs env S).wp N R B C E := then_wp h
theorem wp_asg {tg : TM} (h : (m bs env S).wp (fun w S1 => (tg w bs env S1).wp (fun e S2 => N e S2) fun c ws S2 => E c ws env S2) fun c ws S1 => E c ws env S1) : (sAsg m tg bs env S).wp N R B C E := so_wp (h.imp fun w S1 h1 => so_wp h1)
theorem wp_ret (h : (m bs env S).wp R fun c ws S1 => E c ws env S1) : (sRet m bs env S).wp N R B C E := so_wp h
theorem wp_drop (h : (m bs env S).wp (fun _ S1 => N env S1) fun c ws S1 => E c ws env S1) : (sDrop m bs env S).wp N R B C E := so_wp h
theorem wp_sNil (h : N env S) : (sNil bs env S).wp N R B C E := h
theorem wp_sIf (h : (t bs env S).wp (fun v S1 => (v = true → (a bs env S1).wp N R B C E) ∧ (v = false → (b bs env S1).wp N R B C E)) fun c ws S1 => E c ws env S1) : (sIf t a b bs env S).wp N R B C E := so_wp (h.imp fun v S1 h1 => by
  show SO.wp (if v = true then _ else _) N R B C E
  cases v with
  | true => exact h1.1 rfl
  | false => exact h1.2 rfl)
theorem wp_par (h : (ms bs env S).wp (fun ws S1 => ∃ w u, ws = [w, u] ∧ N ((env.set i (some w)).set j (some u)) S1) fun c ws S1 => E c ws env S1) : (sPar i j ms bs env S).wp N R B C E := so_wp (h.imp fun ws S1 ⟨w, u, e, q⟩ => by subst e; exact q)
/-! ### defs -/
/-- behind a def's return: its frame is popped -/
def RT (b : Nat) (Q : W → Store → Prop) (w : W) (S : Store) : Prop := if w.und b = true then Q w (S.take b) else Q w S
def EX (b : Nat) (E : EK) (c : Nat) (ws : List W) (S : Store) : Prop := if W.undAll b ws = true then E c ws (S.take b) else E c ws S
theorem wp_fn {n p : Nat} {m : MS} {ws : List W} {Q : W → Store → Prop} {E : EK} (hl : ws.length = p)
    (h : (m (S.length :: bs) (startE n ws) S).wp (fun _ S1 => Q (.dat .none) (S1.take S.length)) (RT S.length Q) (fun _ _ => False) (fun _ _ => False) fun c ws _ S1 => EX S.length E c ws S1) : (fnM n p m bs ws S).wp Q E := by
  unfold fnM
  rw [if_pos hl]
  generalize m (S.length :: bs) (startE n ws) S = o at h
  cases o with
  | nx e S1 => exact h
  | rt w S1 =>
    have h' : if w.und S.length = true then Q w (S1.take S.length) else Q w S1 := h
    show Out.wp (if w.und S.length = true then Out.ok w (S1.take S.length) else Out.ok w S1) Q E
    split <;> rename_i hw
    · rw [if_pos hw] at h'; exact h'
    · rw [if_neg hw] at h'; exact h'
  | bk e S1 => exact h.elim
  | ct e S1 => exact h.elim
  | ex c ws e S1 =>
    have h' : if W.undAll S.length ws = true then E c ws (S1.take S.length) else E c ws S1 := h
    show Out.wp (if W.undAll S.length ws = true then Out.ex c ws (S1.take S.length) else Out.ex c ws S1) Q E
    split <;> rename_i hw
    · rw [if_pos hw] at h'; exact h'
    · rw [if_neg hw] at h'; exact h'
  | stuck => exact h.elim
theorem rt_same {Q : W → Store → Prop} {d : PyData} (q : Q (.dat d) S) : RT S.length Q (.dat d) S := by
  show if true = true then Q (.dat d) (S.take S.length) else Q (.dat d) S
  rw [if_pos rfl, List.take_length]; exact q
theorem rt_dat {n : Nat} {Q : W → Store → Prop} {d : PyData} (q : Q (.dat d) (S.take n)) : RT n Q (.dat d) S := by
  show if true = true then Q (.dat d) (S.take n) else Q (.dat d) S
  rw [if_pos rfl]; exact q
theorem rt_new {n k : Nat} {Q : W → Store → Prop} (hk : n ≤ k) (q : Q (.loc k) S) : RT n Q (.loc k) S := by
  show if (W.loc k).und n = true then _ else _
  rw [if_neg (by simp [W.und]; omega)]; exact q
end
/-! ### loops -/
theorem next_of {α : Type} {f : α → W} {xs pre post : List α} {S : Store} (h : xs = pre ++ post) : (Iter.items (xs.map f)).next pre.length S = some (post.head?.map f) := by
  show some ((xs.map f)[pre.length]?) = _
  subst h
  rw [List.getElem?_map, List.getElem?_append_right (Nat.le_refl _), Nat.sub_self, List.head?_eq_getElem?]
section
variable {α : Type} {bs : List Nat} {N : Env → Store → Prop} {R : W → Store → Prop} {B C : Env → Store → Prop} {E : Nat → List W → Env → Store → Prop}
theorem wp_forG {it : Iter} {f : α → W} {xs : List α} {bd : W → MS} (I : List α → Env → Store → Prop) (hn : ∀ pre post env S, xs = pre ++ post → I pre env S → it.next pre.length S = some (post.head?.map f))
    (step : ∀ pre x post env S, xs = pre ++ x :: post → I pre env S → (bd (f x) bs env S).wp (I (pre ++ [x])) R N (I (pre ++ [x])) E) (done : ∀ env S, I xs env S → N env S) :
    ∀ (fuel : Nat) (pre post : List α) (env : Env) (S : Store), xs = pre ++ post → post.length < fuel → I pre env S → (forG it bd fuel pre.length bs env S).wp N R B C E
  | 0, pre, post, env, S, hx, hf, h => by omega
  | fuel + 1, pre, post, env, S, hx, hf, h => by
    unfold forG
    rw [hn pre post env S hx h]
    cases post with
    | nil =>
      rw [List.append_nil] at hx
      subst hx
      exact done env S h
    | cons x post =>
      have st := step pre x post env S hx h
      show SO.wp (SO.turn (bd (f x) bs env S) _) N R B C E
      generalize bd (f x) bs env S = o at st
      have go : ∀ e S1, I (pre ++ [x]) e S1 → (forG it bd fuel (pre.length + 1) bs e S1).wp N R B C E := fun e S1 h1 => by
        have := wp_forG I hn step done fuel (pre ++ [x]) post e S1 (by simp [hx]) (by simp at hf; omega) h1
        simpa using this
      cases o with
      | nx e S1 => exact go e S1 st
      | rt w S1 => exact st
      | bk e S1 => exact st
      | ct e S1 => exact go e S1 st
      | ex c ws e S1 => exact st
      | stuck => exact st
theorem wp_for {mi : M Iter} {t : TM} {m : MS} {env : Env} {S : Store} (h : (mi bs env S).wp (fun it S1 => (forG it (tBody t m) it.fuel 0 bs env S1).wp N R B C E) fun c ws S1 => E c ws env S1) : (sFor mi t m bs env S).wp N R B C E := so_wp h
/-- over items -/
theorem wp_items {f : α → W} {xs : List α} {bd : W → MS} {env : Env} {S : Store} (I : List α → Env → Store → Prop) (h0 : I [] env S)
    (step : ∀ pre x post env S, xs = pre ++ x :: post → I pre env S → (bd (f x) bs env S).wp (I (pre ++ [x])) R N (I (pre ++ [x])) E) (done : ∀ env S, I xs env S → N env S) :
    (forG (.items (xs.map f)) bd (Iter.items (xs.map f)).fuel 0 bs env S).wp N R B C E :=
  wp_forG I (fun pre post env S hx _ => next_of hx) step done _ [] xs env S rfl (by simp [Iter.fuel]) h0
theorem wp_body {t : TM} {m : MS} {w : W} {env : Env} {S : Store} (h : (t w bs env S).wp (fun e S1 => (m bs e S1).wp N R B C E) fun c ws S1 => E c ws env S1) : (tBody t m w bs env S).wp N R B C E := so_wp h
end
/-! ### comprehensions -/
section
variable {α β : Type} {bs : List Nat} {E : EK}
theorem bindC_wp {α β : Type} {o : Out α} {f : α → Store → Out β} {Q : β → Store → Prop} {E : EK} (h : o.wp (fun a S => (f a S).wp Q E) NoE) : (o.bindC f).wp Q E := by
  cases o with
  | ok a S => exact h
  | ex c ws S => exact h.elim
  | stuck => exact h
theorem wp_compG {it : Iter} {f : α → W} {xs : List α} {t : TM} {c : M Bool} {e : M W} {env : Env} {Q : List W → Store → Prop} (I : List α → List W → Store → Prop) (hn : ∀ pre post acc S, xs = pre ++ post → I pre acc S → it.next pre.length S = some (post.head?.map f))
    (step : ∀ pre x post acc S, xs = pre ++ x :: post → I pre acc S → (t (f x) bs env S).wp (fun env1 S1 => (c bs env1 S1).wp (fun b S2 => (b = true → (e bs env1 S2).wp (fun y S3 => acc.length < 100000 ∧ I (pre ++ [x]) (acc ++ [y]) S3) NoE) ∧ (b = false → I (pre ++ [x]) acc S2)) NoE) NoE)
    (done : ∀ acc S, I xs acc S → Q acc S) :
    ∀ (fuel : Nat) (pre post : List α) (acc : List W) (S : Store), xs = pre ++ post → post.length < fuel → I pre acc S → (compG it t c e fuel pre.length acc bs env S).wp Q E
  | 0, pre, post, acc, S, hx, hf, h => by omega
  | fuel + 1, pre, post, acc, S, hx, hf, h => by
    unfold compG
    simp only [hn pre post acc S hx h]
    cases post with
    | nil =>
      rw [List.append_nil] at hx
      subst hx
      exact done acc S h
    | cons x post =>
      show Out.wp (Out.bindC (t (f x) bs env S) _) Q E
      have go : ∀ acc' S', I (pre ++ [x]) acc' S' → (compG it t c e fuel (pre.length + 1) acc' bs env S').wp Q E := fun acc' S' h1 => by
        have := wp_compG I hn step done fuel (pre ++ [x]) post acc' S' (by simp [hx]) (by simp at hf; omega) h1
        simpa using this
      refine bindC_wp ((step pre x post acc S hx h).imp fun env1 S1 h1 => bindC_wp (h1.imp fun b S2 h2 => ?_))
      cases b with
      | true =>
        rw [if_pos rfl]
        refine bindC_wp ((h2.1 rfl).imp fun y S3 ⟨hl, h3⟩ => ?_)
        rw [if_pos hl]
        exact go _ _ h3
      | false => exact go _ _ (h2.2 rfl)
theorem wp_comp {k : Bool} {mi : M Iter} {vs : List Nat} {t : TM} {c : M Bool} {e : M W} {env : Env} {S : Store} {Q : W → Store → Prop} (h : (mi bs env S).wp (fun it S1 => (compG it t c e it.fuel 0 [] bs (wipeE env vs) S1).wp (fun ws S2 => NL k Q ws S2) E) E) : (mComp k mi vs t c e bs env S).wp Q E :=
  bind_wp (h.imp fun it S1 h1 => bind_wp h1)
/-- the turns change nothing: what is kept of each item -/
theorem wp_compP {f : α → W} {xs : List α} {t : TM} {c : M Bool} {e : M W} {env : Env} {S : Store} {Q : List W → Store → Prop} (g : α → Option W) (hl : xs.length ≤ 100000)
    (step : ∀ x ∈ xs, (t (f x) bs env S).wp (fun env1 S1 => (c bs env1 S1).wp (fun b S2 => (b = true → (e bs env1 S2).wp (fun y S3 => g x = some y ∧ S3 = S) NoE) ∧ (b = false → g x = none ∧ S2 = S)) NoE) NoE)
    (q : Q (xs.filterMap g) S) : (compG (.items (xs.map f)) t c e (Iter.items (xs.map f)).fuel 0 [] bs env S).wp Q E := by
  refine wp_compG (f := f) (xs := xs) (fun pre acc S' => acc = pre.filterMap g ∧ S' = S) (fun pre post acc S hx _ => next_of hx) (fun pre x post acc S' hx ⟨h1, h2⟩ => ?_) (fun acc S' ⟨h1, h2⟩ => by subst h1 h2; exact q) _ [] xs [] S rfl (by simp [Iter.fuel]) ⟨rfl, rfl⟩
  subst h2
  have hm : x ∈ xs := by rw [hx]; simp
  refine (step x hm).imp fun env1 S1 h3 => h3.imp fun b S2 h4 => ⟨fun hb => (h4.1 hb).imp fun y S3 ⟨h5, h6⟩ => ⟨?_, ?_, h6⟩, fun hb => ⟨?_, (h4.2 hb).2⟩⟩
  · have := List.length_filterMap_le g pre
    have h7 := congrArg List.length hx
    simp at h7
    rw [h1]; omega
  · rw [h1]; simp [h5]
  · rw [h1]; simp [(h4.2 hb).1]
/-- one name, no condition -/
theorem wp_compM {f : α → W} {xs : List α} {i : Nat} {e : M W} {env : Env} {S : Store} {Q : List W → Store → Prop} (g : α → W) (hl : xs.length ≤ 100000) (step : ∀ x ∈ xs, (e bs (env.set i (some (f x))) S).wp (fun y S3 => y = g x ∧ S3 = S) NoE)
    (q : Q (xs.map g) S) : (compG (.items (xs.map f)) (tName i) mYes e (Iter.items (xs.map f)).fuel 0 [] bs env S).wp Q E := by
  refine wp_compP (fun x => some (g x)) hl (fun x hx => wp_name (wp_yes ⟨fun _ => (step x hx).imp fun y S3 ⟨h1, h2⟩ => ⟨by rw [h1], h2⟩, fun h => (nomatch h)⟩)) ?_
  simpa using q
theorem nl_dat {ds : List PyData} {S : Store} {Q : W → Store → Prop} (q : Q (.dat (.list ds)) S) : NL false Q (ds.map .dat) S := by
  show Q (mkLst (ds.map .dat)) S
  rw [mkLst_dat]; exact q
theorem nl_map {f : α → PyData} {xs : List α} {S : Store} {Q : W → Store → Prop} (q : Q (.dat (.list (xs.map f))) S) : NL false Q (xs.map fun x => .dat (f x)) S := by
  have : (xs.map fun x => W.dat (f x)) = (xs.map f).map .dat := by simp
  rw [this]; exact nl_dat q
theorem nl_cell {ws : List W} {S : Store} {Q : W → Store → Prop} (q : Q (.loc S.length) (S ++ [.lst ws])) : NL true Q ws S := q
end
end Rf

namespace Rf
open PySem L2

/-! ### operations, by the shapes of what they get -/
section
variable {bs : List Nat} {S : Store} {k : Bool} {i j : Int} {a b : Str} {xs ys : List PyData} {Q : W → Store → Prop} {P : W → Prop}
theorem add_int (q : Q (.dat (.int (i + j))) S) : wpo (addF k bs (.dat (.int i)) (.dat (.int j)) S) Q := q
theorem add_tup (h : xs.length + ys.length ≤ 100000) (q : Q (.dat (.tuple (xs ++ ys))) S) : wpo (addF k bs (.dat (.tuple xs)) (.dat (.tuple ys)) S) Q := by
  show wpo (if xs.length + ys.length ≤ 100000 then some (.dat (.tuple (xs ++ ys)), S) else none) Q
  rw [if_pos h]; exact q
theorem add_lst (h : xs.length + ys.length ≤ 100000) (q : Q (.dat (.list (xs ++ ys))) S) : wpo (addF false bs (.dat (.list xs)) (.dat (.list ys)) S) Q := by
  show wpo (if (xs.map W.dat).length + (ys.map W.dat).length ≤ 100000 then some (newL false (xs.map W.dat ++ ys.map W.dat) S) else none) Q
  rw [if_pos (by simpa using h), ← List.map_append]
  show Q (mkLst ((xs ++ ys).map W.dat)) S
  rw [mkLst_dat]; exact q
theorem sub_int (q : Q (.dat (.int (i - j))) S) : wpo (subF bs (.dat (.int i)) (.dat (.int j)) S) Q := q
theorem mod_int (h : 0 < j) (q : Q (.dat (.int (i % j))) S) : wpo (modF bs (.dat (.int i)) (.dat (.int j)) S) Q := by
  show wpo (((if 0 < j then some (i % j) else none) : Option Int).map fun z => (W.int z, S)) Q
  rw [if_pos h]; exact q
theorem log_lt {t : Int} (h2 : t.natAbs ≤ 1000000000000000000000000000000000000) : t.natAbs.log2 < 9000 := by
  by_cases h : t.natAbs = 0
  · rw [h]; decide
  · have e : (1000000000000000000000000000000000000 : Nat) < 2 ^ 9000 := by
      calc (1000000000000000000000000000000000000 : Nat) < 2 ^ 120 := by decide
        _ ≤ 2 ^ 9000 := Nat.pow_le_pow_right (by decide) (by decide)
    exact (Nat.log2_lt h).mpr (by omega)
theorem div_int (h : 0 < j ∧ j ≤ 1000000000000000000000000000000000000) (q : Q (.dat (.int (i / j))) S) : wpo (fdivF bs (.dat (.int i)) (.dat (.int j)) S) Q := by
  show wpo (((if 0 < j ∧ j.natAbs.log2 < 9000 then some (i / j) else none) : Option Int).map fun z => (W.int z, S)) Q
  rw [if_pos ⟨h.1, log_lt (by omega)⟩]; exact q
theorem pow_int {r : Int} (h : 0 ≤ j ∧ (i.natAbs.log2 + 1) * j.toNat ≤ 100000000) (e : i ^ j.toNat = r) (q : Q (.dat (.int r)) S) : wpo (powF bs (.dat (.int i)) (.dat (.int j)) S) Q := by
  subst e
  show wpo (((if 0 ≤ j ∧ (i.natAbs.log2 + 1) * j.toNat ≤ 100000000 then some (i ^ j.toNat) else none) : Option Int).map fun z => (W.int z, S)) Q
  rw [if_pos h]; exact q
theorem mulOk_l (h : i.natAbs < 18446744073709551616) : mulOk i j = true := by unfold mulOk; rw [decide_eq_true h]; rfl
theorem mulOk_r (h : j.natAbs < 18446744073709551616) : mulOk i j = true := by unfold mulOk; rw [decide_eq_true h]; simp
theorem mul_int (h : mulOk i j = true) (q : Q (.dat (.int (i * j))) S) : wpo (mulF k bs (.dat (.int i)) (.dat (.int j)) S) Q := by
  show wpo (if mulOk i j = true then some (W.int (i * j), S) else none) Q
  rw [if_pos h]; exact q
theorem mul_tup (h : xs.length ≤ 1000 ∧ 0 < xs.length ∧ 2 ≤ j ∧ j ≤ 1000) (q : Q (.dat (.tuple (List.replicate j.toNat xs).flatten)) S) : wpo (mulF k bs (.dat (.tuple xs)) (.dat (.int j)) S) Q := by
  show wpo (if (xs.map W.dat).length ≤ 1000 ∧ 0 < (xs.map W.dat).length ∧ 2 ≤ j ∧ j ≤ 1000 then some (mkTup (List.replicate j.toNat (xs.map W.dat)).flatten, S) else none) Q
  rw [if_pos (by simpa using h)]
  show Q (mkTup (List.replicate j.toNat (xs.map W.dat)).flatten) S
  have e : (List.replicate j.toNat (xs.map W.dat)).flatten = (List.replicate j.toNat xs).flatten.map W.dat := by simp [List.map_flatten, List.map_replicate]
  rw [e, mkTup_dat]; exact q
theorem lt_int (q : Q (.dat (.bool (decide (i < j)))) S) : wpo (ordF .lt bs (.dat (.int i)) (.dat (.int j)) S) Q := q
theorem le_int (q : Q (.dat (.bool (decide (i ≤ j)))) S) : wpo (ordF .le bs (.dat (.int i)) (.dat (.int j)) S) Q := q
theorem gt_int (q : Q (.dat (.bool (decide (j < i)))) S) : wpo (ordF .gt bs (.dat (.int i)) (.dat (.int j)) S) Q := q
theorem lt_str (q : Q (.dat (.bool (decide (a.cps.toList < b.cps.toList)))) S) : wpo (ordF .lt bs (.dat (.str a)) (.dat (.str b)) S) Q := q
/-! equality -/
theorem eq_view {neg : Bool} {x y : W} {d e : PyData} (hx : viewD S x = some d) (hy : viewD S y = some e) (hd : d.plain = true) (he : e.plain = true) (hl : d.depth ≤ 64) (q : Q (.dat (.bool (PyData.eqv d e != neg))) S) : wpo (eqF neg bs x y S) Q := by
  unfold eqF
  rw [hx, hy]
  show wpo (if d.plain = true ∧ e.plain = true ∧ d.depth ≤ 64 then some (W.bl (PyData.eqv d e != neg), S) else none) Q
  rw [if_pos ⟨hd, he, hl⟩]; exact q
theorem eq_int (q : Q (.dat (.bool (decide (i = j)))) S) : wpo (eqF false bs (.dat (.int i)) (.dat (.int j)) S) Q := by
  refine eq_view rfl rfl rfl rfl (by simp [PyData.depth]) ?_
  have e : (PyData.eqv (.int i) (.int j) != false) = decide (i = j) := by
    show ((i == j) != false) = _
    by_cases h : i = j <;> simp [h]
  rw [e]; exact q
theorem ne_int (q : Q (.dat (.bool (!decide (i = j)))) S) : wpo (eqF true bs (.dat (.int i)) (.dat (.int j)) S) Q := by
  refine eq_view rfl rfl rfl rfl (by simp [PyData.depth]) ?_
  have e : (PyData.eqv (.int i) (.int j) != true) = !decide (i = j) := by
    show ((i == j) != true) = _
    by_cases h : i = j <;> simp [h]
  rw [e]; exact q
theorem ne_str (q : Q (.dat (.bool (!decide (a = b)))) S) : wpo (eqF true bs (.dat (.str a)) (.dat (.str b)) S) Q := by
  refine eq_view rfl rfl rfl rfl (by simp [PyData.depth]) ?_
  have e : (PyData.eqv (.str a) (.str b) != true) = !decide (a = b) := by
    show ((a == b) != true) = _
    by_cases h : a = b <;> simp [h]
  rw [e]; exact q
/-- is None -/
def noneB : PyData → Bool
  | .none => true
  | _ => false
theorem isn_dat {d : PyData} (q : Q (.dat (.bool (noneB d))) S) : wpo (isNF false bs (.dat d) (.dat .none) S) Q := by
  cases d <;> exact q
theorem isnt_dat {d : PyData} (q : Q (.dat (.bool (!noneB d))) S) : wpo (isNF true bs (.dat d) (.dat .none) S) Q := by
  cases d <;> exact q
/-! indices, lengths -/
theorem seq_loc {n : Nat} {ws : List W} (h : S[n]? = some (.lst ws)) : seqOf S (.loc n) = some ws := by
  simp only [seqOf, tupOf, lstOf, h]
theorem ix_seq {x w : W} {ws : List W} (h : seqOf S x = some ws) (hi : L2.atI ws i = some w) (q : Q w S) : wpo (ixF bs x (.dat (.int i)) S) Q := by
  unfold ixF
  rw [h]
  show wpo ((L2.atI ws i).map (·, S)) Q
  rw [hi]; exact q
theorem atI_ofNat {α : Type} {ws : List α} {n : Nat} {w : α} (h : ws[n]? = some w) : L2.atI ws (n : Int) = some w := by
  have hn := (List.getElem?_eq_some_iff.mp h).1
  unfold L2.atI ixN
  rw [if_pos (by omega), if_pos (by omega)]
  simpa using h
theorem ix_loc {n : Nat} {w : W} {ws : List W} (h : S[n]? = some (.lst ws)) (hi : L2.atI ws i = some w) (q : Q w S) : wpo (ixF bs (.loc n) (.dat (.int i)) S) Q := ix_seq (seq_loc h) hi q
theorem atI_map {α β : Type} (f : α → β) (l : List α) (i : Int) : L2.atI (l.map f) i = (L2.atI l i).map f := by
  unfold L2.atI
  rw [List.length_map]
  cases ixN l.length i with
  | none => rfl
  | some j => simp
theorem ix_tup {d : PyData} (hi : L2.atI xs i = some d) (q : Q (.dat d) S) : wpo (ixF bs (.dat (.tuple xs)) (.dat (.int i)) S) Q := ix_seq (ws := xs.map .dat) rfl (by rw [atI_map, hi]; rfl) q
theorem ix_lst {d : PyData} (hi : L2.atI xs i = some d) (q : Q (.dat d) S) : wpo (ixF bs (.dat (.list xs)) (.dat (.int i)) S) Q := ix_seq (ws := xs.map .dat) rfl (by rw [atI_map, hi]; rfl) q
theorem len_tup (q : Q (.dat (.int xs.length)) S) : wpo (un lenW bs [.dat (.tuple xs)] S) Q := by
  have : un lenW bs [.dat (.tuple xs)] S = some (.dat (.int xs.length), S) := by simp [un, lenW, seqOf, tupOf]
  rw [this]; exact q
theorem len_lst (q : Q (.dat (.int xs.length)) S) : wpo (un lenW bs [.dat (.list xs)] S) Q := by
  have : un lenW bs [.dat (.list xs)] S = some (.dat (.int xs.length), S) := by simp [un, lenW, seqOf, tupOf, lstOf]
  rw [this]; exact q
theorem len_loc {n : Nat} {ws : List W} (h : S[n]? = some (.lst ws)) (q : Q (.dat (.int ws.length)) S) : wpo (un lenW bs [.loc n] S) Q := by
  have : un lenW bs [.loc n] S = some (.dat (.int ws.length), S) := by simp [un, lenW, seq_loc h]
  rw [this]; exact q
theorem len_lw {ws : List W} (q : Q (.dat (.int ws.length)) S) : wpo (un lenW bs [.lw ws] S) Q := q
theorem len_str (h : a.length ≤ 100000) (q : Q (.dat (.int a.length)) S) : wpo (un lenW bs [.dat (.str a)] S) Q := by
  have : un lenW bs [.dat (.str a)] S = some (.dat (.int a.length), S) := by simp [un, lenW, seqOf, tupOf, lstOf, h]
  rw [this]; exact q
theorem int_int (q : Q (.dat (.int i)) S) : wpo (un intW bs [.dat (.int i)] S) Q := q
theorem int_bool {v : Bool} (q : Q (.dat (.int (if v then 1 else 0))) S) : wpo (un intW bs [.dat (.bool v)] S) Q := q
theorem abs_int (q : Q (.dat (.int (if i < 0 then -i else i))) S) : wpo (un absW bs [.dat (.int i)] S) Q := q
theorem max_int (q : Q (.dat (.int (if j > i then j else i))) S) : wpo (max2F bs [.dat (.int i), .dat (.int j)] S) Q := q
theorem min_int (q : Q (.dat (.int (if j < i then j else i))) S) : wpo (min2F bs [.dat (.int i), .dat (.int j)] S) Q := q
theorem all_map {α : Type} {p : α → Bool} {l : List α} (q : Q (.dat (.bool (l.all p))) S) : wpo (un allF bs [.dat (.list (l.map fun x => .bool (p x)))] S) Q := by
  have e : (l.map fun x => PyData.bool (p x)).map W.dat = (l.map p).map W.bl := by simp
  have : un allF bs [.dat (.list (l.map fun x => .bool (p x)))] S = some (.dat (.bool (l.all p)), S) := by
    simp only [un, allF, lstOf, e, bools_map, Option.map_some]
    simp [List.all_map, Function.comp_def]
  rw [this]; exact q
theorem tuple_lst (q : Q (.dat (.tuple xs)) S) : wpo (tupleF bs [.dat (.list xs)] S) Q := by
  show Q (mkTup (xs.map W.dat)) S
  rw [mkTup_dat]; exact q
theorem tuple_loc {n : Nat} {ws : List W} {ds : List PyData} (h : S[n]? = some (.lst ws)) (hw : ws = ds.map .dat) (q : Q (.dat (.tuple ds)) S) : wpo (tupleF bs [.loc n] S) Q := by
  have : tupleF bs [.loc n] S = some (.dat (.tuple ds), S) := by simp only [tupleF, tupOf, lstOf, h, hw, mkTup_dat, Option.map_some]
  rw [this]; exact q
theorem list_tup (q : Q (.dat (.list xs)) S) : wpo (listF false bs [.dat (.tuple xs)] S) Q := by
  show Q (mkLst (xs.map W.dat)) S
  rw [mkLst_dat]; exact q
/-! slices -/
theorem sl_tup {lo hi : Option Int} (q : Q (.dat (.tuple (cutW xs lo hi))) S) : wpo (slF k (.dat (.tuple xs)) lo hi S) Q := by
  have : slF k (.dat (.tuple xs)) lo hi S = some (.dat (.tuple (cutW xs lo hi)), S) := by
    unfold slF
    simp only [tupOf, List.length_map]
    split
    · rename_i h
      unfold cutW
      rw [h.1, h.2]; simp
    · have e : cutW (xs.map W.dat) lo hi = (cutW xs lo hi).map W.dat := by unfold cutW; rw [List.length_map, ← List.map_drop, ← List.map_take]
      rw [e, mkTup_dat]
  rw [this]; exact q
/-! cells -/
theorem may_d (bs : List Nat) (n : Nat) (d : PyData) : mayW bs n (.dat d) = true := by unfold mayW; simp [W.und]
theorem set_loc {P : Store → Prop} {n m : Nat} {ws : List W} {d : PyData} (h : S[n]? = some (.lst ws)) (hi : ixN ws.length i = some m) (q : P (S.set n (.lst (ws.set m (.dat d))))) : ∃ S3, setF bs (.loc n) (.dat (.int i)) (.dat d) S = some S3 ∧ P S3 := by
  refine ⟨_, ?_, q⟩
  unfold setF
  simp only [h, hi, may_d, if_true]
theorem app_loc {n : Nat} {ws : List W} {d : PyData} (h : S[n]? = some (.lst ws)) (hl : ws.length < 100000) (q : Q (.dat .none) (S.set n (.lst (ws ++ [.dat d])))) : wpo (appF bs (.loc n) [.dat d] S) Q := by
  unfold appF
  simp only [h]
  rw [if_pos ⟨hl, may_d _ _ _⟩]; exact q
theorem ext_loc {n : Nat} {ws : List W} (h : S[n]? = some (.lst ws)) (hl : ws.length + xs.length ≤ 100000) (q : Q (.dat .none) (S.set n (.lst (ws ++ xs.map .dat)))) : wpo (extF bs (.loc n) [.dat (.list xs)] S) Q := by
  unfold extF extOf
  simp only [h, List.length_map]
  rw [if_pos]
  · exact q
  · refine ⟨hl, ?_⟩
    rw [List.all_eq_true]
    intro w hw
    obtain ⟨d, _, rfl⟩ := List.mem_map.mp hw
    exact may_d _ _ _
theorem ty_loc {n : Nat} {ws : List W} (h : S[n]? = some (.lst ws)) : wTy .lst (.loc n) S = true := by simp [wTy, lstOf, h]
/-! what a walk gets -/
/-! answers -/
theorem ifT {A B : Prop} (h : A) : (true = true → A) ∧ (true = false → B) := ⟨fun _ => h, fun z => (nomatch z)⟩
theorem ifF {A B : Prop} (h : B) : (false = true → A) ∧ (false = false → B) := ⟨fun z => (nomatch z), fun _ => h⟩
theorem ifD {p A B : Prop} [Decidable p] (h : p → A) (g : ¬ p → B) : (decide p = true → A) ∧ (decide p = false → B) := ⟨fun z => h (of_decide_eq_true z), fun z => g (of_decide_eq_false z)⟩
theorem ifN {p A B : Prop} [Decidable p] (h : p → B) (g : ¬ p → A) : ((!decide p) = true → A) ∧ ((!decide p) = false → B) := ⟨fun z => g (by simpa using z), fun z => h (by simpa using z)⟩
theorem exTru {w : W} {b : Bool} {Q : Bool → Prop} (h : truW S w = some b) (q : Q b) : ∃ b, truW S w = some b ∧ Q b := ⟨b, h, q⟩
theorem exInt {Q : Int → Prop} (q : Q i) : ∃ j, W.dat (.int i) = .dat (.int j) ∧ Q j := ⟨i, rfl, q⟩
theorem ex2 {w u : W} {Q : W → W → Prop} (q : Q w u) : ∃ a b, [w, u] = [a, b] ∧ Q a b := ⟨w, u, rfl, q⟩
theorem exRng1 {Q : Int → Prop} (h : i < 4611686018427387904 ∧ -4611686018427387904 ≤ i) (q : Q i) : ∃ n, [W.dat (.int i)] = [.dat (.int n)] ∧ (n < 4611686018427387904 ∧ -4611686018427387904 ≤ n) ∧ Q n := ⟨i, rfl, h, q⟩
theorem exRng2 {Q : Int → Int → Prop} (h : (j < 4611686018427387904 ∧ -4611686018427387904 ≤ j) ∧ (i < 4611686018427387904 ∧ -4611686018427387904 ≤ i)) (q : Q i j) :
    ∃ a n, [W.dat (.int i), W.dat (.int j)] = [.dat (.int a), .dat (.int n)] ∧ ((n < 4611686018427387904 ∧ -4611686018427387904 ≤ n) ∧ (a < 4611686018427387904 ∧ -4611686018427387904 ≤ a)) ∧ Q a n := ⟨i, j, rfl, h, q⟩
end
/-! kinds -/
theorem kb1 : kitB "int" "int" = some true := by decide +kernel
theorem kb2 : kitB "bool" "int" = some true := by decide +kernel
theorem kb3 : kitB "str" "int" = some false := by decide +kernel
theorem kb4 : kitB "NoneType" "int" = some false := by decide +kernel
theorem kb5 : kitB "list" "int" = some false := by decide +kernel
theorem kb6 : kitB "tuple" "int" = some false := by decide +kernel
theorem kb7 : kitB "dict" "int" = some false := by decide +kernel
theorem kc1 : kitB "int" "bool" = some false := by decide +kernel
theorem kc2 : kitB "bool" "bool" = some true := by decide +kernel
theorem kc3 : kitB "str" "bool" = some false := by decide +kernel
theorem kc4 : kitB "NoneType" "bool" = some false := by decide +kernel
theorem kc5 : kitB "list" "bool" = some false := by decide +kernel
theorem kc6 : kitB "tuple" "bool" = some false := by decide +kernel
theorem kc7 : kitB "dict" "bool" = some false := by decide +kernel
theorem kt1 : kitB "int" "tuple" = some false := by decide +kernel
theorem kt2 : kitB "bool" "tuple" = some false := by decide +kernel
theorem kt3 : kitB "str" "tuple" = some false := by decide +kernel
theorem kt4 : kitB "NoneType" "tuple" = some false := by decide +kernel
theorem kt5 : kitB "list" "tuple" = some false := by decide +kernel
theorem kt6 : kitB "tuple" "tuple" = some true := by decide +kernel
theorem kt7 : kitB "dict" "tuple" = some false := by decide +kernel
theorem ks1 : kitB "int" "str" = some false := by decide +kernel
theorem ks2 : kitB "bool" "str" = some false := by decide +kernel
theorem ks3 : kitB "str" "str" = some true := by decide +kernel
theorem ks4 : kitB "NoneType" "str" = some false := by decide +kernel
theorem ks5 : kitB "list" "str" = some false := by decide +kernel
theorem ks6 : kitB "tuple" "str" = some false := by decide +kernel
theorem ks7 : kitB "dict" "str" = some false := by decide +kernel
def intB : PyData → Bool
  | .int _ | .bool _ => true
  | _ => false
def boolB : PyData → Bool
  | .bool _ => true
  | _ => false
def tupB : PyData → Bool
  | .tuple _ => true
  | _ => false
def strB : PyData → Bool
  | .str _ => true
  | _ => false
def dicB : PyData → Bool
  | .dict _ => true
  | _ => false
theorem isi_int {S : Store} {d : PyData} {Q : W → Prop} (q : Q (.dat (.bool (intB d)))) : ∃ u, isiW "int" S (.dat d) = some u ∧ Q u := by
  refine ⟨_, ?_, q⟩
  cases d <;> simp [isiW, tyW, kb1, kb2, kb3, kb4, kb5, kb6, kb7, intB]
theorem isi_bool {S : Store} {d : PyData} {Q : W → Prop} (q : Q (.dat (.bool (boolB d)))) : ∃ u, isiW "bool" S (.dat d) = some u ∧ Q u := by
  refine ⟨_, ?_, q⟩
  cases d <;> simp [isiW, tyW, kc1, kc2, kc3, kc4, kc5, kc6, kc7, boolB]
theorem isi_tup {S : Store} {d : PyData} {Q : W → Prop} (q : Q (.dat (.bool (tupB d)))) : ∃ u, isiW "tuple" S (.dat d) = some u ∧ Q u := by
  refine ⟨_, ?_, q⟩
  cases d <;> simp [isiW, tyW, kt1, kt2, kt3, kt4, kt5, kt6, kt7, tupB]
theorem isi_str {S : Store} {d : PyData} {Q : W → Prop} (q : Q (.dat (.bool (strB d)))) : ∃ u, isiW "str" S (.dat d) = some u ∧ Q u := by
  refine ⟨_, ?_, q⟩
  cases d <;> simp [isiW, tyW, ks1, ks2, ks3, ks4, ks5, ks6, ks7, strB]
end Rf


local macro_rules
  | `(tactic| array_get_dec) => `(tactic| ((first
    | (with_reducible refine Rf.wp_seq ?_)
    | (with_reducible refine Rf.wp_asg ?_)
    | (with_reducible refine Rf.wp_name ?_)
    | (with_reducible refine Rf.wp_ret ?_)
    | (with_reducible refine Rf.wp_sIf ?_)
    | (with_reducible refine Rf.wp_drop ?_)
    | (with_reducible refine Rf.wp_varD (by with_unfolding_all exact rfl) ?_)
    | (with_reducible refine Rf.wp_varL (by with_unfolding_all exact rfl) ?_)
    | (with_reducible refine Rf.wp_varT (by with_unfolding_all exact rfl) ?_)
    | (with_reducible refine Rf.wp_varLw (by with_unfolding_all exact rfl) ?_)
    | (with_reducible refine Rf.wp_varKt (by with_unfolding_all exact rfl) ?_)
    | (with_reducible refine Rf.wp_varK (by with_unfolding_all exact rfl) ?_)
    | (with_reducible refine Rf.wp_con ?_)
    | (with_reducible refine Rf.wp_bin ?_)
    | (with_reducible refine Rf.wp_B ?_)
    | (with_reducible refine Rf.isB_mk ?_)
    | (with_reducible refine Rf.wp_not ?_)
    | (with_reducible refine Rf.wp_if ?_)
    | (with_reducible refine Rf.wp_ok ?_)
    | (with_reducible refine Rf.nl_dat ?_)
    | (with_reducible refine Rf.nl_map ?_)
    | (with_reducible refine Rf.nl_cell ?_)
    | (with_reducible refine Rf.wp_yes ?_)
    | (with_reducible refine Rf.wp_tru ?_)
    | (with_reducible refine Rf.wp_andV ?_)
    | (with_reducible refine Rf.wp_orV ?_)
    | (with_reducible refine Rf.wp_notV ?_)
    | (with_reducible refine Rf.exTru (by with_unfolding_all exact rfl) ?_)
    | (with_reducible refine Rf.wp_neg ?_)
    | (with_reducible refine Rf.exInt ?_)
    | (with_reducible refine Rf.wp_chain ?_)
    | (with_reducible refine Rf.wp_cons ?_)
    | (with_reducible refine Rf.wp_nil ?_)
    | (with_reducible refine Rf.wp_tup ?_)
    | (with_reducible refine Rf.tp_dat (by with_unfolding_all exact rfl) (by with_unfolding_all exact rfl) ?_)
    | (with_reducible refine Rf.wp_lst ?_)
    | (with_reducible refine Rf.lp_dat (by with_unfolding_all exact rfl) (by with_unfolding_all exact rfl) ?_)
    | (with_reducible refine Rf.lp_cell (by with_unfolding_all exact rfl) ?_)
    | (with_reducible refine Rf.wp_CB ?_)
    | (with_reducible refine Rf.wp_call ?_)
    | (with_reducible refine Rf.wp_isi ?_)
    | (with_reducible refine Rf.isi_int ?_)
    | (with_reducible refine Rf.isi_bool ?_)
    | (with_reducible refine Rf.isi_tup ?_)
    | (with_reducible refine Rf.isi_str ?_)
    | (with_reducible refine Rf.isi_dic ?_)
    | (with_reducible refine Rf.wp_sl ?_)
    | (with_reducible refine Rf.wp_noPart ?_)
    | (with_reducible refine Rf.wp_part ?_)
    | (with_reducible refine Rf.wp_dic0t ?_)
    | (with_reducible refine Rf.wp_dic0f ?_)
    | (with_reducible refine Rf.wp_par ?_)
    | (with_reducible refine Rf.ex2 ?_)
    | (with_reducible refine Rf.wp_par3 ?_)
    | (with_reducible refine Rf.ex3 ?_)
    | (with_reducible refine Rf.wp_comp ?_)
    | (with_reducible refine Rf.wp_it ?_)
    | (with_reducible refine Rf.itd_tup ?_)
    | (with_reducible refine Rf.itd_lst ?_)
    | (with_reducible refine Rf.wp_for ?_)
    | (with_reducible refine Rf.wp_body ?_)
    | (with_reducible refine Rf.wp_rng1 ?_)
    | (with_reducible refine Rf.wp_rng2 ?_)
    | (with_reducible refine Rf.wp_sNil ?_)
    | (with_reducible refine Rf.wp_retN ?_)
    | (with_reducible refine Rf.wp_brk ?_)
    | (with_reducible refine Rf.wp_cnt ?_)
    | (with_reducible refine Rf.ifT ?_)
    | (with_reducible refine Rf.ifF ?_)
    | (with_reducible refine Rf.add_int ?_)
    | (with_reducible refine Rf.sub_int ?_)
    | ((with_reducible refine Rf.mod_int ?_ ?_); first | decide | omega)
    | ((with_reducible refine Rf.div_int ?_ ?_); first | decide | omega)
    | ((with_reducible refine Rf.mul_int ?_ ?_); first | (refine Rf.mulOk_l ?_; decide) | (refine Rf.mulOk_r ?_; decide) | (refine Rf.mulOk_l ?_; omega) | (refine Rf.mulOk_r ?_; omega))
    | (with_reducible refine Rf.lt_int ?_)
    | (with_reducible refine Rf.le_int ?_)
    | (with_reducible refine Rf.gt_int ?_)
    | (with_reducible refine Rf.ge_int ?_)
    | (with_reducible refine Rf.lt_str ?_)
    | (with_reducible refine Rf.eq_int ?_)
    | (with_reducible refine Rf.ne_int ?_)
    | (with_reducible refine Rf.eq_str ?_)
    | (with_reducible refine Rf.ne_str ?_)
    | (with_reducible refine Rf.isn_dat ?_)
    | (with_reducible refine Rf.isnt_dat ?_)
    | (with_reducible refine Rf.len_tup ?_)
    | (with_reducible refine Rf.len_lst ?_)
    | (with_reducible refine Rf.len_tw ?_)
    | (with_reducible refine Rf.len_lw ?_)
    | (with_reducible refine Rf.int_int ?_)
    | (with_reducible refine Rf.int_bool ?_)
    | (with_reducible refine Rf.abs_int ?_)
    | (with_reducible refine Rf.max_int ?_)
    | (with_reducible refine Rf.min_int ?_)
    | (with_reducible refine Rf.all_map ?_)
    | (with_reducible refine Rf.any_map ?_)
    | (with_reducible refine Rf.tuple_lst ?_)
    | (with_reducible refine Rf.tuple_tup ?_)
    | (with_reducible refine Rf.list_lst ?_)
    | (with_reducible refine Rf.list_tup ?_)
    | (with_reducible refine Rf.sl_tup ?_)
    | (with_reducible refine Rf.sl_lst ?_)
    | (with_reducible refine Rf.rt_same ?_)); repeat (first
    | (with_reducible refine Rf.wp_seq ?_)
    | (with_reducible refine Rf.wp_asg ?_)
    | (with_reducible refine Rf.wp_name ?_)
    | (with_reducible refine Rf.wp_ret ?_)
    | (with_reducible refine Rf.wp_sIf ?_)
    | (with_reducible refine Rf.wp_drop ?_)
    | (with_reducible refine Rf.wp_varD (by with_unfolding_all exact rfl) ?_)
    | (with_reducible refine Rf.wp_varL (by with_unfolding_all exact rfl) ?_)
    | (with_reducible refine Rf.wp_varT (by with_unfolding_all exact rfl) ?_)
    | (with_reducible refine Rf.wp_varLw (by with_unfolding_all exact rfl) ?_)
    | (with_reducible refine Rf.wp_varKt (by with_unfolding_all exact rfl) ?_)
    | (with_reducible refine Rf.wp_varK (by with_unfolding_all exact rfl) ?_)
    | (with_reducible refine Rf.wp_con ?_)
    | (with_reducible refine Rf.wp_bin ?_)
    | (with_reducible refine Rf.wp_B ?_)
    | (with_reducible refine Rf.isB_mk ?_)
    | (with_reducible refine Rf.wp_not ?_)
    | (with_reducible refine Rf.wp_if ?_)
    | (with_reducible refine Rf.wp_ok ?_)
    | (with_reducible refine Rf.nl_dat ?_)
    | (with_reducible refine Rf.nl_map ?_)
    | (with_reducible refine Rf.nl_cell ?_)
    | (with_reducible refine Rf.wp_yes ?_)
    | (with_reducible refine Rf.wp_tru ?_)
    | (with_reducible refine Rf.wp_andV ?_)
    | (with_reducible refine Rf.wp_orV ?_)
    | (with_reducible refine Rf.wp_notV ?_)
    | (with_reducible refine Rf.exTru (by with_unfolding_all exact rfl) ?_)
    | (with_reducible refine Rf.wp_neg ?_)
    | (with_reducible refine Rf.exInt ?_)
    | (with_reducible refine Rf.wp_chain ?_)
    | (with_reducible refine Rf.wp_cons ?_)
    | (with_reducible refine Rf.wp_nil ?_)
    | (with_reducible refine Rf.wp_tup ?_)
    | (with_reducible refine Rf.tp_dat (by with_unfolding_all exact rfl) (by with_unfolding_all exact rfl) ?_)
    | (with_reducible refine Rf.wp_lst ?_)
    | (with_reducible refine Rf.lp_dat (by with_unfolding_all exact rfl) (by with_unfolding_all exact rfl) ?_)
    | (with_reducible refine Rf.lp_cell (by with_unfolding_all exact rfl) ?_)
    | (with_reducible refine Rf.wp_CB ?_)
    | (with_reducible refine Rf.wp_call ?_)
    | (with_reducible refine Rf.wp_isi ?_)
    | (with_reducible refine Rf.isi_int ?_)
    | (with_reducible refine Rf.isi_bool ?_)
    | (with_reducible refine Rf.isi_tup ?_)
    | (with_reducible refine Rf.isi_str ?_)
    | (with_reducible refine Rf.isi_dic ?_)
    | (with_reducible refine Rf.wp_sl ?_)
    | (with_reducible refine Rf.wp_noPart ?_)
    | (with_reducible refine Rf.wp_part ?_)
    | (with_reducible refine Rf.wp_dic0t ?_)
    | (with_reducible refine Rf.wp_dic0f ?_)
    | (with_reducible refine Rf.wp_par ?_)
    | (with_reducible refine Rf.ex2 ?_)
    | (with_reducible refine Rf.wp_par3 ?_)
    | (with_reducible refine Rf.ex3 ?_)
    | (with_reducible refine Rf.wp_comp ?_)
    | (with_reducible refine Rf.wp_it ?_)
    | (with_reducible refine Rf.itd_tup ?_)
    | (with_reducible refine Rf.itd_lst ?_)
    | (with_reducible refine Rf.wp_for ?_)
    | (with_reducible refine Rf.wp_body ?_)
    | (with_reducible refine Rf.wp_rng1 ?_)
    | (with_reducible refine Rf.wp_rng2 ?_)
    | (with_reducible refine Rf.wp_sNil ?_)
    | (with_reducible refine Rf.wp_retN ?_)
    | (with_reducible refine Rf.wp_brk ?_)
    | (with_reducible refine Rf.wp_cnt ?_)
    | (with_reducible refine Rf.ifT ?_)
    | (with_reducible refine Rf.ifF ?_)
    | (with_reducible refine Rf.add_int ?_)
    | (with_reducible refine Rf.sub_int ?_)
    | ((with_reducible refine Rf.mod_int ?_ ?_); first | decide | omega)
    | ((with_reducible refine Rf.div_int ?_ ?_); first | decide | omega)
    | ((with_reducible refine Rf.mul_int ?_ ?_); first | (refine Rf.mulOk_l ?_; decide) | (refine Rf.mulOk_r ?_; decide) | (refine Rf.mulOk_l ?_; omega) | (refine Rf.mulOk_r ?_; omega))
    | (with_reducible refine Rf.lt_int ?_)
    | (with_reducible refine Rf.le_int ?_)
    | (with_reducible refine Rf.gt_int ?_)
    | (with_reducible refine Rf.ge_int ?_)
    | (with_reducible refine Rf.lt_str ?_)
    | (with_reducible refine Rf.eq_int ?_)
    | (with_reducible refine Rf.ne_int ?_)
    | (with_reducible refine Rf.eq_str ?_)
    | (with_reducible refine Rf.ne_str ?_)
    | (with_reducible refine Rf.isn_dat ?_)
    | (with_reducible refine Rf.isnt_dat ?_)
    | (with_reducible refine Rf.len_tup ?_)
    | (with_reducible refine Rf.len_lst ?_)
    | (with_reducible refine Rf.len_tw ?_)
    | (with_reducible refine Rf.len_lw ?_)
    | (with_reducible refine Rf.int_int ?_)
    | (with_reducible refine Rf.int_bool ?_)
    | (with_reducible refine Rf.abs_int ?_)
    | (with_reducible refine Rf.max_int ?_)
    | (with_reducible refine Rf.min_int ?_)
    | (with_reducible refine Rf.all_map ?_)
    | (with_reducible refine Rf.any_map ?_)
    | (with_reducible refine Rf.tuple_lst ?_)
    | (with_reducible refine Rf.tuple_tup ?_)
    | (with_reducible refine Rf.list_lst ?_)
    | (with_reducible refine Rf.list_tup ?_)
    | (with_reducible refine Rf.sl_tup ?_)
    | (with_reducible refine Rf.sl_lst ?_)
    | (with_reducible refine Rf.rt_same ?_))))

namespace Nm
open PySem L2 PyProof.Rows Rf

/-! ### names as rows of signs, their cells -/
def sg (l : List Nat) : Str := ⟨l.toArray⟩
theorem str_len (z : Str) : z.length = z.cps.toList.length := by cases z; simp [Str.length]
def letB (c : Nat) : Bool := decide (97 ≤ c) && decide (c ≤ 122)
/-- at most eight letters, at least one -/
def nameB (l : List Nat) : Bool := decide (1 ≤ l.length) && decide (l.length ≤ 8) && l.all letB
def figA (l : List Nat) (i : Nat) : Int := if i < l.length then (l.getD i 0 : Int) - 96 else 0
def cellStep (l : List Nat) (c : Int) (i : Nat) : Int := c * 27 + figA l i
def cellOf (l : List Nat) : Int := (List.range 8).foldl (cellStep l) 0
/-- the letters of the last figures of a cell, noughts left out -/
def lo : Nat → Int → List Nat → List Nat × Int
  | 0, c, acc => (acc, c)
  | k + 1, c, acc => lo k (c / 27) (if 0 < c % 27 then ((c % 27).toNat + 96) :: acc else acc)
def letters (c : Int) : List Nat := (lo 8 c []).1
def nameOf (c : Int) : Option (List Nat) := if letters c ≠ [] ∧ cellOf (letters c) = c then some (letters c) else none
/-! figures of a row of them -/
def val (c : Int) (D : List Nat) : Int := D.foldl (fun (c : Int) (d : Nat) => c * 27 + (d : Int)) c
def pos (D : List Nat) : List Nat := (D.filter fun d => decide (0 < d)).map (· + 96)
def figs (l : List Nat) : List Nat := (List.range 8).map fun i => if i < l.length then l.getD i 0 - 96 else 0
/-! the law's own way: figures first, then letters -/
def dg : Nat → Int → List Int → List Int × Int
  | 0, c, acc => (acc, c)
  | k + 1, c, acc => dg k (c / 27) (c % 27 :: acc)
def posI (D : List Int) : List Nat := (D.filter fun d => decide (0 < d)).map fun d => d.toNat + 96
end Nm

namespace Rf
open PySem L2 Nm

/-! ### texts, walks, fields: what a goal is led to -/
theorem alpha_cps : ("abcdefghijklmnopqrstuvwxyz" : Str).cps.toList = (List.range 26).map (· + 97) := by decide +kernel
theorem mem_alpha (c : Nat) : decide (c ∈ ("abcdefghijklmnopqrstuvwxyz" : Str).cps.toList) = letB c := by
  rw [alpha_cps]
  unfold letB
  rw [← Bool.decide_and]
  apply decide_eq_decide.mpr
  rw [List.mem_map]
  constructor
  · rintro ⟨i, hi, rfl⟩
    have := List.mem_range.mp hi
    omega
  · intro h
    exact ⟨c - 97, List.mem_range.mpr (by omega), by omega⟩
section
variable {bs : List Nat} {S : Store} {k : Bool} {i j : Int} {a b : Str} {xs ys : List PyData} {Q : W → Store → Prop} {P : W → Prop}
theorem in_sign {neg : Bool} {c : Nat} (q : Q (.dat (.bool (decide (c ∈ b.cps.toList) != neg))) S) : wpo (inAF neg bs (.dat (.str ⟨#[c]⟩)) (.dat (.str b)) S) Q := q
theorem in_alpha {c : Nat} (q : Q (.dat (.bool (letB c))) S) : wpo (inAF false bs (.dat (.str ⟨#[c]⟩)) (.dat (.str ("abcdefghijklmnopqrstuvwxyz" : Str))) S) Q := by
  refine in_sign ?_
  rw [mem_alpha]
  cases h : letB c <;> rw [h] at q <;> exact q
/-! what a walk gets -/
variable {Qi : Iter → Prop}
theorem its_str {z : Str} (q : Qi (.items (z.cps.toList.map fun c => .dat (.str ⟨#[c]⟩)))) : ∃ it, iterS S (.dat (.str z)) = some it ∧ Qi it := ⟨_, rfl, q⟩
theorem its_tup (q : Qi (.items (xs.map .dat))) : ∃ it, iterS S (.dat (.tuple xs)) = some it ∧ Qi it := ⟨_, rfl, q⟩
theorem its_lst (q : Qi (.items (xs.map .dat))) : ∃ it, iterS S (.dat (.list xs)) = some it ∧ Qi it := ⟨_, rfl, q⟩
theorem its_lw {ws : List W} (q : Qi (.items ws)) : ∃ it, iterS S (.lw ws) = some it ∧ Qi it := ⟨_, rfl, q⟩
theorem its_loc {n : Nat} {ws : List W} (h : S[n]? = some (.lst ws)) (q : Qi (.cell n)) : ∃ it, iterS S (.loc n) = some it ∧ Qi it := ⟨_, by simp only [iterS, iterA, iterT, tupOf, iterL, h, Option.map_none], q⟩
theorem wp_itS {env : Env} {m : M W} {Q : Iter → Store → Prop} {E : EK} (h : (m bs env S).wp (fun w S1 => ∃ it, iterS S1 w = some it ∧ Q it S1) E) : (mItS m bs env S).wp Q E := bind_wp (h.imp fun w S1 ⟨it, e, q⟩ => by
  show Out.wp (match iterS S1 w with | some it => Out.ok it S1 | none => .stuck) Q E
  rw [e]; exact q)
/-! texts joined -/
end
theorem tyLc {n : Nat} {ws : List W} {S : Store} {A : Prop} (hs : S[n]? = some (.lst ws)) (h : A) : wTy .lst (.loc n) S = true ∧ A := ⟨ty_loc hs, h⟩
theorem ifNT {A B : Prop} (h : B) : ((!true) = true → A) ∧ ((!true) = false → B) := ⟨fun z => (nomatch z), fun _ => h⟩
theorem ifNF {A B : Prop} (h : A) : ((!false) = true → A) ∧ ((!false) = false → B) := ⟨fun _ => h, fun z => (nomatch z)⟩
/-! classes -/
def FL (cs : List Nat) (f : Str) (Q : W → Store → Prop) (w : W) (S : Store) : Prop := ∃ n c fs v, w = .loc n ∧ S[n]? = some (.ins c fs) ∧ c ∈ cs ∧ fs.lookup f = some v ∧ Q v.weak S
def FA (cs : List Nat) (f : Str) (K : W → Store → Prop) (w : W) (S : Store) : Prop := ∃ u, fldOf cs f S w = some u ∧ K u S
def SF (cs : List Nat) (f : Str) (bs : List Nat) (P : Store → Prop) (x y : W) (S : Store) : Prop := ∃ S3, setFld cs f bs x y S = some S3 ∧ P S3
def ME (c : Nat) (m : Str) (K : Nat → Store → Prop) (w : W) (S : Store) : Prop := ∃ n fs, w = .loc n ∧ S[n]? = some (.ins c fs) ∧ fs.lookup m = none ∧ K n S
theorem wp_fld {cs : List Nat} {f : Str} {m : M W} {bs : List Nat} {env : Env} {S : Store} {Q : W → Store → Prop} {E : EK} (h : (m bs env S).wp (fun w S1 => FL cs f Q w S1) E) : (mFld cs f m bs env S).wp Q E := bind_wp (h.imp fun w S1 ⟨n, c, fs, v, e, hn, hc, hl, q⟩ => by
  subst e
  simp only [hn, if_pos hc, hl]
  exact q)
theorem fl_d {cs : List Nat} {f : Str} {n c : Nat} {fs : List (Str × W)} {d : PyData} {S : Store} {Q : W → Store → Prop} (hn : S[n]? = some (.ins c fs)) (hc : c ∈ cs) (hl : fs.lookup f = some (.dat d)) (q : Q (.dat d) S) : FL cs f Q (.loc n) S := ⟨n, c, fs, _, rfl, hn, hc, hl, q⟩
theorem fl_l {cs : List Nat} {f : Str} {n c k : Nat} {fs : List (Str × W)} {S : Store} {Q : W → Store → Prop} (hn : S[n]? = some (.ins c fs)) (hc : c ∈ cs) (hl : fs.lookup f = some (.loc k)) (q : Q (.loc k) S) : FL cs f Q (.loc n) S := ⟨n, c, fs, _, rfl, hn, hc, hl, q⟩
theorem wp_sFld {cs : List Nat} {f : Str} {mo mv : M W} {bs : List Nat} {env : Env} {S : Store} {N : Env → Store → Prop} {R : W → Store → Prop} {B C : Env → Store → Prop} {E : Nat → List W → Env → Store → Prop}
    (h : (mv bs env S).wp (fun y S1 => (mo bs env S1).wp (fun x S2 => SF cs f bs (N env) x y S2) fun c ws S1 => E c ws env S1) fun c ws S1 => E c ws env S1) : (sFld cs f mo mv bs env S).wp N R B C E := so_wp (h.imp fun y S1 h1 => so_wp (h1.imp fun x S2 ⟨S3, e, q⟩ => by
  show SO.wp (match setFld cs f bs x y S2 with | some S3 => SO.nx env S3 | none => .stuck) N R B C E
  rw [e]; exact q))
theorem wp_meth {c : Nat} {m : Str} {ff : FnT} {mo : M W} {ms : M (List W)} {bs : List Nat} {env : Env} {S : Store} {Q : W → Store → Prop} {E : EK} (h : (mo bs env S).wp (fun w S1 => ME c m (fun n S1 => (ms bs env S1).wp (fun ws S2 => (ff bs (.loc n :: ws) S2).wp Q E) E) w S1) E) : (mMeth c m ff mo ms bs env S).wp Q E := bind_wp (h.imp fun w S1 ⟨n, fs, e, hn, hl, h1⟩ => by
  subst e
  unfold methB
  simp only [hn, hl, and_self, if_true]
  exact bind_wp h1)
theorem me_mk {c : Nat} {m : Str} {n : Nat} {fs : List (Str × W)} {S : Store} {K : Nat → Store → Prop} (hn : S[n]? = some (.ins c fs)) (hl : fs.lookup m = none) (q : K n S) : ME c m K (.loc n) S := ⟨n, fs, rfl, hn, hl, q⟩
theorem rt_len {S' : Store} {k : Nat} {Q : W → Store → Prop} {d : PyData} (hl : S'.length = k) (q : Q (.dat d) S') : RT k Q (.dat d) S' := rt_dat (by rw [List.take_of_length_le (by omega)]; exact q)
theorem wp_make {c : Nat} {ff : FnT} {ms : M (List W)} {bs : List Nat} {env : Env} {S : Store} {Q : W → Store → Prop} {E : EK} (h : (ms bs env S).wp (fun ws S1 => (ff bs (.loc S1.length :: ws) (S1 ++ [.ins c []])).wp (fun r S2 => r = .dat .none ∧ Q (.loc S1.length) S2) E) E) : (mMake c ff ms bs env S).wp Q E := bind_wp (h.imp fun ws S1 h1 => bind_wp (h1.imp fun r S2 ⟨e, q⟩ => by subst e; exact q))
theorem wp_fnN {n p : Nat} {m : MS} {ws : List W} {bs : List Nat} {S : Store} {Q : W → Store → Prop} {E : EK} (hl : ws.length = p)
    (h : (m bs (startE n ws) S).wp (fun _ S1 => Q (.dat .none) S1) Q (fun _ _ => False) (fun _ _ => False) fun c ws _ S1 => E c ws S1) : (fnN n p m bs ws S).wp Q E := by
  unfold fnN
  rw [if_pos hl]
  generalize m bs (startE n ws) S = o at h
  cases o <;> exact h
/-! stores -/
theorem rt_app {S T : Store} {Q : W → Store → Prop} {d : PyData} (q : Q (.dat d) S) : RT S.length Q (.dat d) (S ++ T) := rt_dat (by rw [List.take_left']; exact q; rfl)
theorem at_app (S : Store) (c : Cell) (T : Store) : (S ++ c :: T)[S.length]? = some c := by simp
theorem at_app1 (S : Store) (c : Cell) : (S ++ [c])[S.length]? = some c := by simp
theorem set_app (S : Store) (c d : Cell) : (S ++ [c]).set S.length d = S ++ [d] := by simp
theorem at_old {S : Store} {n : Nat} {c : Cell} (h : S[n]? = some c) (T : Store) : (S ++ T)[n]? = some c := by rw [List.getElem?_append_left (List.getElem?_eq_some_iff.mp h).1]; exact h
/-! ranges -/
theorem rangeW_map (n : Int) : rangeW 0 n = (List.range n.toNat).map fun (k : Nat) => W.dat (.int (k : Int)) := by
  unfold rangeW
  rw [show (n - 0).toNat = n.toNat by omega]
  apply List.map_congr_left
  intro k _
  show W.dat (.int (0 + (k : Int))) = _
  rw [Int.zero_add]
theorem range_at {n k : Nat} {post : List Nat} {pre : List Nat} (h : List.range n = pre ++ k :: post) : pre = List.range pre.length ∧ k = pre.length ∧ pre.length < n := by
  have hl := congrArg List.length h
  simp at hl
  have hp : pre = (List.range n).take pre.length := by rw [h]; simp
  rw [List.take_range, Nat.min_eq_left (by omega)] at hp
  have hk : (List.range n)[pre.length]? = some k := by rw [h]; simp
  rw [List.getElem?_range (by omega)] at hk
  cases hk
  exact ⟨hp, rfl, by omega⟩
section
variable {bs : List Nat} {N : Env → Store → Prop} {R : W → Store → Prop} {B C : Env → Store → Prop} {E : Nat → List W → Env → Store → Prop}
theorem wp_range {n : Int} {bd : W → MS} {env : Env} {S : Store} (I : Nat → Env → Store → Prop) (h0 : I 0 env S) (step : ∀ (k : Nat) (env : Env) (S : Store), (k : Int) < n → I k env S → (bd (.dat (.int (k : Int))) bs env S).wp (I (k + 1)) R N (I (k + 1)) E) (done : ∀ env S, I n.toNat env S → N env S) :
    (forG (.items (rangeW 0 n)) bd (Iter.items (rangeW 0 n)).fuel 0 bs env S).wp N R B C E := by
  rw [rangeW_map]
  refine wp_items (fun pre => I pre.length) h0 (fun pre x post env S hx h => ?_) (fun env S h => done env S (by simpa using h))
  obtain ⟨_, rfl, hl⟩ := range_at hx
  have := step pre.length env S (by omega) h
  simpa using this
theorem wp_compRange {n : Int} {t : TM} {c : M Bool} {e : M W} {env : Env} {S : Store} {Q : List W → Store → Prop} {E' : EK} (I : Nat → List W → Store → Prop) (h0 : I 0 [] S)
    (step : ∀ (k : Nat) (acc : List W) (S : Store), (k : Int) < n → I k acc S → (t (.dat (.int (k : Int))) bs env S).wp (fun env1 S1 => (c bs env1 S1).wp (fun b S2 => (b = true → (e bs env1 S2).wp (fun y S3 => acc.length < 100000 ∧ I (k + 1) (acc ++ [y]) S3) NoE) ∧ (b = false → I (k + 1) acc S2)) NoE) NoE)
    (done : ∀ acc S, I n.toNat acc S → Q acc S) : (compG (.items (rangeW 0 n)) t c e (Iter.items (rangeW 0 n)).fuel 0 [] bs env S).wp Q E' := by
  rw [rangeW_map]
  refine wp_compG (f := fun (k : Nat) => W.dat (.int (k : Int))) (xs := List.range n.toNat) (fun pre => I pre.length) (fun pre post acc S hx _ => next_of hx) (fun pre x post acc S hx h => ?_) (fun acc S h => done acc S (by simpa using h)) _ [] (List.range n.toNat) [] S rfl (by simp [Iter.fuel]) h0
  obtain ⟨_, rfl, hl⟩ := range_at hx
  have := step pre.length acc S (by omega) h
  simpa using this
end
end Rf
local macro_rules
  | `(tactic| array_get_dec) => `(tactic| ((first
    | (with_reducible refine Rf.wp_itS ?_)
    | (with_reducible refine Rf.its_str ?_)
    | (with_reducible refine Rf.its_tup ?_)
    | (with_reducible refine Rf.its_lst ?_)
    | (with_reducible refine Rf.its_tw ?_)
    | (with_reducible refine Rf.its_lw ?_)
    | (with_reducible refine Rf.wp_conW ?_)
    | (with_reducible refine Rf.wp_mt ?_)
    | (with_reducible refine Rf.tyS ?_)
    | (with_reducible refine Rf.tyLd ?_)
    | (with_reducible refine Rf.tyLc (by assumption) ?_)
    | (with_reducible refine Rf.in_alpha ?_)
    | (with_reducible refine Rf.ifNT ?_)
    | (with_reducible refine Rf.wp_fld ?_)
    | (with_reducible refine Rf.wp_sFld ?_)
    | (with_reducible refine Rf.wp_sFldA ?_)
    | (with_reducible refine Rf.wp_meth ?_)
    | (with_reducible refine Rf.iadd_int ?_)
    | (with_reducible refine Rf.rt_app ?_)
    | ((with_reducible refine Rf.exRng1 ?_ ?_); omega)
    | ((with_reducible refine Rf.exRng2 ?_ ?_); omega)
    | (with_reducible refine Rf.ifNF ?_)
    | dsimp only [Rf.strB, Rf.intB, Rf.boolB, Rf.tupB, Rf.dicB, Rf.noneB]
    | (with_reducible refine Rf.wp_seq ?_)
    | (with_reducible refine Rf.wp_asg ?_)
    | (with_reducible refine Rf.wp_name ?_)
    | (with_reducible refine Rf.wp_ret ?_)
    | (with_reducible refine Rf.wp_sIf ?_)
    | (with_reducible refine Rf.wp_drop ?_)
    | (with_reducible refine Rf.wp_varD (by with_unfolding_all exact rfl) ?_)
    | (with_reducible refine Rf.wp_varL (by with_unfolding_all exact rfl) ?_)
    | (with_reducible refine Rf.wp_varT (by with_unfolding_all exact rfl) ?_)
    | (with_reducible refine Rf.wp_varLw (by with_unfolding_all exact rfl) ?_)
    | (with_reducible refine Rf.wp_varKt (by with_unfolding_all exact rfl) ?_)
    | (with_reducible refine Rf.wp_varK (by with_unfolding_all exact rfl) ?_)
    | (with_reducible refine Rf.wp_con ?_)
    | (with_reducible refine Rf.wp_bin ?_)
    | (with_reducible refine Rf.wp_B ?_)
    | (with_reducible refine Rf.isB_mk ?_)
    | (with_reducible refine Rf.wp_not ?_)
    | (with_reducible refine Rf.wp_if ?_)
    | (with_reducible refine Rf.wp_ok ?_)
    | (with_reducible refine Rf.nl_dat ?_)
    | (with_reducible refine Rf.nl_map ?_)
    | (with_reducible refine Rf.nl_cell ?_)
    | (with_reducible refine Rf.wp_yes ?_)
    | (with_reducible refine Rf.wp_tru ?_)
    | (with_reducible refine Rf.wp_andV ?_)
    | (with_reducible refine Rf.wp_orV ?_)
    | (with_reducible refine Rf.wp_notV ?_)
    | (with_reducible refine Rf.exTru (by with_unfolding_all exact rfl) ?_)
    | (with_reducible refine Rf.wp_neg ?_)
    | (with_reducible refine Rf.exInt ?_)
    | (with_reducible refine Rf.wp_chain ?_)
    | (with_reducible refine Rf.wp_cons ?_)
    | (with_reducible refine Rf.wp_nil ?_)
    | (with_reducible refine Rf.wp_tup ?_)
    | (with_reducible refine Rf.tp_dat (by with_unfolding_all exact rfl) (by with_unfolding_all exact rfl) ?_)
    | (with_reducible refine Rf.wp_lst ?_)
    | (with_reducible refine Rf.lp_dat (by with_unfolding_all exact rfl) (by with_unfolding_all exact rfl) ?_)
    | (with_reducible refine Rf.lp_cell (by with_unfolding_all exact rfl) ?_)
    | (with_reducible refine Rf.wp_CB ?_)
    | (with_reducible refine Rf.wp_call ?_)
    | (with_reducible refine Rf.wp_isi ?_)
    | (with_reducible refine Rf.isi_int ?_)
    | (with_reducible refine Rf.isi_bool ?_)
    | (with_reducible refine Rf.isi_tup ?_)
    | (with_reducible refine Rf.isi_str ?_)
    | (with_reducible refine Rf.isi_dic ?_)
    | (with_reducible refine Rf.wp_sl ?_)
    | (with_reducible refine Rf.wp_noPart ?_)
    | (with_reducible refine Rf.wp_part ?_)
    | (with_reducible refine Rf.wp_dic0t ?_)
    | (with_reducible refine Rf.wp_dic0f ?_)
    | (with_reducible refine Rf.wp_par ?_)
    | (with_reducible refine Rf.ex2 ?_)
    | (with_reducible refine Rf.wp_par3 ?_)
    | (with_reducible refine Rf.ex3 ?_)
    | (with_reducible refine Rf.wp_comp ?_)
    | (with_reducible refine Rf.wp_it ?_)
    | (with_reducible refine Rf.itd_tup ?_)
    | (with_reducible refine Rf.itd_lst ?_)
    | (with_reducible refine Rf.wp_for ?_)
    | (with_reducible refine Rf.wp_body ?_)
    | (with_reducible refine Rf.wp_rng1 ?_)
    | (with_reducible refine Rf.wp_rng2 ?_)
    | (with_reducible refine Rf.wp_sNil ?_)
    | (with_reducible refine Rf.wp_retN ?_)
    | (with_reducible refine Rf.wp_brk ?_)
    | (with_reducible refine Rf.wp_cnt ?_)
    | (with_reducible refine Rf.ifT ?_)
    | (with_reducible refine Rf.ifF ?_)
    | (with_reducible refine Rf.add_int ?_)
    | (with_reducible refine Rf.sub_int ?_)
    | ((with_reducible refine Rf.mod_int ?_ ?_); first | decide | omega)
    | ((with_reducible refine Rf.div_int ?_ ?_); first | decide | omega)
    | ((with_reducible refine Rf.mul_int ?_ ?_); first | (refine Rf.mulOk_l ?_; decide) | (refine Rf.mulOk_r ?_; decide) | (refine Rf.mulOk_l ?_; omega) | (refine Rf.mulOk_r ?_; omega))
    | (with_reducible refine Rf.lt_int ?_)
    | (with_reducible refine Rf.le_int ?_)
    | (with_reducible refine Rf.gt_int ?_)
    | (with_reducible refine Rf.ge_int ?_)
    | (with_reducible refine Rf.lt_str ?_)
    | (with_reducible refine Rf.eq_int ?_)
    | (with_reducible refine Rf.ne_int ?_)
    | (with_reducible refine Rf.eq_str ?_)
    | (with_reducible refine Rf.ne_str ?_)
    | (with_reducible refine Rf.isn_dat ?_)
    | (with_reducible refine Rf.isnt_dat ?_)
    | (with_reducible refine Rf.len_tup ?_)
    | (with_reducible refine Rf.len_lst ?_)
    | (with_reducible refine Rf.len_tw ?_)
    | (with_reducible refine Rf.len_lw ?_)
    | (with_reducible refine Rf.int_int ?_)
    | (with_reducible refine Rf.int_bool ?_)
    | (with_reducible refine Rf.abs_int ?_)
    | (with_reducible refine Rf.max_int ?_)
    | (with_reducible refine Rf.min_int ?_)
    | (with_reducible refine Rf.all_map ?_)
    | (with_reducible refine Rf.any_map ?_)
    | (with_reducible refine Rf.tuple_lst ?_)
    | (with_reducible refine Rf.tuple_tup ?_)
    | (with_reducible refine Rf.list_lst ?_)
    | (with_reducible refine Rf.list_tup ?_)
    | (with_reducible refine Rf.sl_tup ?_)
    | (with_reducible refine Rf.sl_lst ?_)
    | (with_reducible refine Rf.rt_same ?_)); repeat (first
    | (with_reducible refine Rf.wp_itS ?_)
    | (with_reducible refine Rf.its_str ?_)
    | (with_reducible refine Rf.its_tup ?_)
    | (with_reducible refine Rf.its_lst ?_)
    | (with_reducible refine Rf.its_tw ?_)
    | (with_reducible refine Rf.its_lw ?_)
    | (with_reducible refine Rf.wp_conW ?_)
    | (with_reducible refine Rf.wp_mt ?_)
    | (with_reducible refine Rf.tyS ?_)
    | (with_reducible refine Rf.tyLd ?_)
    | (with_reducible refine Rf.tyLc (by assumption) ?_)
    | (with_reducible refine Rf.in_alpha ?_)
    | (with_reducible refine Rf.ifNT ?_)
    | (with_reducible refine Rf.wp_fld ?_)
    | (with_reducible refine Rf.wp_sFld ?_)
    | (with_reducible refine Rf.wp_sFldA ?_)
    | (with_reducible refine Rf.wp_meth ?_)
    | (with_reducible refine Rf.iadd_int ?_)
    | (with_reducible refine Rf.rt_app ?_)
    | ((with_reducible refine Rf.exRng1 ?_ ?_); omega)
    | ((with_reducible refine Rf.exRng2 ?_ ?_); omega)
    | (with_reducible refine Rf.ifNF ?_)
    | dsimp only [Rf.strB, Rf.intB, Rf.boolB, Rf.tupB, Rf.dicB, Rf.noneB]
    | (with_reducible refine Rf.wp_seq ?_)
    | (with_reducible refine Rf.wp_asg ?_)
    | (with_reducible refine Rf.wp_name ?_)
    | (with_reducible refine Rf.wp_ret ?_)
    | (with_reducible refine Rf.wp_sIf ?_)
    | (with_reducible refine Rf.wp_drop ?_)
    | (with_reducible refine Rf.wp_varD (by with_unfolding_all exact rfl) ?_)
    | (with_reducible refine Rf.wp_varL (by with_unfolding_all exact rfl) ?_)
    | (with_reducible refine Rf.wp_varT (by with_unfolding_all exact rfl) ?_)
    | (with_reducible refine Rf.wp_varLw (by with_unfolding_all exact rfl) ?_)
    | (with_reducible refine Rf.wp_varKt (by with_unfolding_all exact rfl) ?_)
    | (with_reducible refine Rf.wp_varK (by with_unfolding_all exact rfl) ?_)
    | (with_reducible refine Rf.wp_con ?_)
    | (with_reducible refine Rf.wp_bin ?_)
    | (with_reducible refine Rf.wp_B ?_)
    | (with_reducible refine Rf.isB_mk ?_)
    | (with_reducible refine Rf.wp_not ?_)
    | (with_reducible refine Rf.wp_if ?_)
    | (with_reducible refine Rf.wp_ok ?_)
    | (with_reducible refine Rf.nl_dat ?_)
    | (with_reducible refine Rf.nl_map ?_)
    | (with_reducible refine Rf.nl_cell ?_)
    | (with_reducible refine Rf.wp_yes ?_)
    | (with_reducible refine Rf.wp_tru ?_)
    | (with_reducible refine Rf.wp_andV ?_)
    | (with_reducible refine Rf.wp_orV ?_)
    | (with_reducible refine Rf.wp_notV ?_)
    | (with_reducible refine Rf.exTru (by with_unfolding_all exact rfl) ?_)
    | (with_reducible refine Rf.wp_neg ?_)
    | (with_reducible refine Rf.exInt ?_)
    | (with_reducible refine Rf.wp_chain ?_)
    | (with_reducible refine Rf.wp_cons ?_)
    | (with_reducible refine Rf.wp_nil ?_)
    | (with_reducible refine Rf.wp_tup ?_)
    | (with_reducible refine Rf.tp_dat (by with_unfolding_all exact rfl) (by with_unfolding_all exact rfl) ?_)
    | (with_reducible refine Rf.wp_lst ?_)
    | (with_reducible refine Rf.lp_dat (by with_unfolding_all exact rfl) (by with_unfolding_all exact rfl) ?_)
    | (with_reducible refine Rf.lp_cell (by with_unfolding_all exact rfl) ?_)
    | (with_reducible refine Rf.wp_CB ?_)
    | (with_reducible refine Rf.wp_call ?_)
    | (with_reducible refine Rf.wp_isi ?_)
    | (with_reducible refine Rf.isi_int ?_)
    | (with_reducible refine Rf.isi_bool ?_)
    | (with_reducible refine Rf.isi_tup ?_)
    | (with_reducible refine Rf.isi_str ?_)
    | (with_reducible refine Rf.isi_dic ?_)
    | (with_reducible refine Rf.wp_sl ?_)
    | (with_reducible refine Rf.wp_noPart ?_)
    | (with_reducible refine Rf.wp_part ?_)
    | (with_reducible refine Rf.wp_dic0t ?_)
    | (with_reducible refine Rf.wp_dic0f ?_)
    | (with_reducible refine Rf.wp_par ?_)
    | (with_reducible refine Rf.ex2 ?_)
    | (with_reducible refine Rf.wp_par3 ?_)
    | (with_reducible refine Rf.ex3 ?_)
    | (with_reducible refine Rf.wp_comp ?_)
    | (with_reducible refine Rf.wp_it ?_)
    | (with_reducible refine Rf.itd_tup ?_)
    | (with_reducible refine Rf.itd_lst ?_)
    | (with_reducible refine Rf.wp_for ?_)
    | (with_reducible refine Rf.wp_body ?_)
    | (with_reducible refine Rf.wp_rng1 ?_)
    | (with_reducible refine Rf.wp_rng2 ?_)
    | (with_reducible refine Rf.wp_sNil ?_)
    | (with_reducible refine Rf.wp_retN ?_)
    | (with_reducible refine Rf.wp_brk ?_)
    | (with_reducible refine Rf.wp_cnt ?_)
    | (with_reducible refine Rf.ifT ?_)
    | (with_reducible refine Rf.ifF ?_)
    | (with_reducible refine Rf.add_int ?_)
    | (with_reducible refine Rf.sub_int ?_)
    | ((with_reducible refine Rf.mod_int ?_ ?_); first | decide | omega)
    | ((with_reducible refine Rf.div_int ?_ ?_); first | decide | omega)
    | ((with_reducible refine Rf.mul_int ?_ ?_); first | (refine Rf.mulOk_l ?_; decide) | (refine Rf.mulOk_r ?_; decide) | (refine Rf.mulOk_l ?_; omega) | (refine Rf.mulOk_r ?_; omega))
    | (with_reducible refine Rf.lt_int ?_)
    | (with_reducible refine Rf.le_int ?_)
    | (with_reducible refine Rf.gt_int ?_)
    | (with_reducible refine Rf.ge_int ?_)
    | (with_reducible refine Rf.lt_str ?_)
    | (with_reducible refine Rf.eq_int ?_)
    | (with_reducible refine Rf.ne_int ?_)
    | (with_reducible refine Rf.eq_str ?_)
    | (with_reducible refine Rf.ne_str ?_)
    | (with_reducible refine Rf.isn_dat ?_)
    | (with_reducible refine Rf.isnt_dat ?_)
    | (with_reducible refine Rf.len_tup ?_)
    | (with_reducible refine Rf.len_lst ?_)
    | (with_reducible refine Rf.len_tw ?_)
    | (with_reducible refine Rf.len_lw ?_)
    | (with_reducible refine Rf.int_int ?_)
    | (with_reducible refine Rf.int_bool ?_)
    | (with_reducible refine Rf.abs_int ?_)
    | (with_reducible refine Rf.max_int ?_)
    | (with_reducible refine Rf.min_int ?_)
    | (with_reducible refine Rf.all_map ?_)
    | (with_reducible refine Rf.any_map ?_)
    | (with_reducible refine Rf.tuple_lst ?_)
    | (with_reducible refine Rf.tuple_tup ?_)
    | (with_reducible refine Rf.list_lst ?_)
    | (with_reducible refine Rf.list_tup ?_)
    | (with_reducible refine Rf.sl_tup ?_)
    | (with_reducible refine Rf.sl_lst ?_)
    | (with_reducible refine Rf.rt_same ?_))))

namespace Rf
open PySem L2 Nm

/-! ### comprehensions of two generators -/
section
variable {α : Type} {bs : List Nat} {env : Env} {S : Store} {E : EK}
theorem wp_comp2 {k : Bool} {mi mi1 : M Iter} {vs vs1 : List Nat} {t t1 : TM} {c c1 : M Bool} {e : M W} {Q : W → Store → Prop} (h : (mi bs env S).wp (fun it S1 => (compG2 it t c mi1 vs1 t1 c1 e it.fuel 0 [] bs (wipeE env vs) S1).wp (fun ws S2 => NL k Q ws S2) E) E) : (mComp2 k mi vs t c mi1 vs1 t1 c1 e bs env S).wp Q E :=
  bind_wp (h.imp fun it S1 h1 => bind_wp h1)
end
/-! ### others -/
section
variable {bs : List Nat} {env : Env} {S : Store} {E : EK}
theorem ints_of (ns : List Int) : intsW ((ns.map PyData.int).map W.dat) = some ns := by
  induction ns with
  | nil => rfl
  | cons n ns ih => simp only [List.map_cons, intsW, ih, Option.map_some]
/-- x[::-1] of what is known later -/
def BK (k : Bool) (Q : W → Store → Prop) (w : W) (S : Store) : Prop := (mBack k (fun _ _ S => .ok w S) [] [] S).wp Q NoE
end
end Rf
local macro_rules
  | `(tactic| array_get_dec) => `(tactic| ((first
    | (with_reducible refine Rf.wp_comp2 ?_)
    | (with_reducible refine Rf.wp_conIx ?_)
    | (with_reducible refine Rf.wp_back ?_)
    | (with_reducible refine Rf.bk_tup ?_)
    | (with_reducible refine Rf.bk_lst ?_)
    | (with_reducible refine Rf.wp_itS ?_)
    | (with_reducible refine Rf.its_str ?_)
    | (with_reducible refine Rf.its_tup ?_)
    | (with_reducible refine Rf.its_lst ?_)
    | (with_reducible refine Rf.its_tw ?_)
    | (with_reducible refine Rf.its_lw ?_)
    | (with_reducible refine Rf.wp_conW ?_)
    | (with_reducible refine Rf.wp_mt ?_)
    | (with_reducible refine Rf.tyS ?_)
    | (with_reducible refine Rf.tyLd ?_)
    | (with_reducible refine Rf.tyLc (by assumption) ?_)
    | (with_reducible refine Rf.in_alpha ?_)
    | (with_reducible refine Rf.ifNT ?_)
    | (with_reducible refine Rf.wp_fld ?_)
    | (with_reducible refine Rf.wp_sFld ?_)
    | (with_reducible refine Rf.wp_sFldA ?_)
    | (with_reducible refine Rf.wp_meth ?_)
    | (with_reducible refine Rf.iadd_int ?_)
    | (with_reducible refine Rf.rt_app ?_)
    | ((with_reducible refine Rf.exRng1 ?_ ?_); omega)
    | ((with_reducible refine Rf.exRng2 ?_ ?_); omega)
    | (with_reducible refine Rf.ifNF ?_)
    | dsimp only [Rf.strB, Rf.intB, Rf.boolB, Rf.tupB, Rf.dicB, Rf.noneB]
    | (with_reducible refine Rf.wp_seq ?_)
    | (with_reducible refine Rf.wp_asg ?_)
    | (with_reducible refine Rf.wp_name ?_)
    | (with_reducible refine Rf.wp_ret ?_)
    | (with_reducible refine Rf.wp_sIf ?_)
    | (with_reducible refine Rf.wp_drop ?_)
    | (with_reducible refine Rf.wp_varD (by with_unfolding_all exact rfl) ?_)
    | (with_reducible refine Rf.wp_varL (by with_unfolding_all exact rfl) ?_)
    | (with_reducible refine Rf.wp_varT (by with_unfolding_all exact rfl) ?_)
    | (with_reducible refine Rf.wp_varLw (by with_unfolding_all exact rfl) ?_)
    | (with_reducible refine Rf.wp_varKt (by with_unfolding_all exact rfl) ?_)
    | (with_reducible refine Rf.wp_varK (by with_unfolding_all exact rfl) ?_)
    | (with_reducible refine Rf.wp_con ?_)
    | (with_reducible refine Rf.wp_bin ?_)
    | (with_reducible refine Rf.wp_B ?_)
    | (with_reducible refine Rf.isB_mk ?_)
    | (with_reducible refine Rf.wp_not ?_)
    | (with_reducible refine Rf.wp_if ?_)
    | (with_reducible refine Rf.wp_ok ?_)
    | (with_reducible refine Rf.nl_dat ?_)
    | (with_reducible refine Rf.nl_map ?_)
    | (with_reducible refine Rf.nl_cell ?_)
    | (with_reducible refine Rf.wp_yes ?_)
    | (with_reducible refine Rf.wp_tru ?_)
    | (with_reducible refine Rf.wp_andV ?_)
    | (with_reducible refine Rf.wp_orV ?_)
    | (with_reducible refine Rf.wp_notV ?_)
    | (with_reducible refine Rf.exTru (by with_unfolding_all exact rfl) ?_)
    | (with_reducible refine Rf.wp_neg ?_)
    | (with_reducible refine Rf.exInt ?_)
    | (with_reducible refine Rf.wp_chain ?_)
    | (with_reducible refine Rf.wp_cons ?_)
    | (with_reducible refine Rf.wp_nil ?_)
    | (with_reducible refine Rf.wp_tup ?_)
    | (with_reducible refine Rf.tp_dat (by with_unfolding_all exact rfl) (by with_unfolding_all exact rfl) ?_)
    | (with_reducible refine Rf.wp_lst ?_)
    | (with_reducible refine Rf.lp_dat (by with_unfolding_all exact rfl) (by with_unfolding_all exact rfl) ?_)
    | (with_reducible refine Rf.lp_cell (by with_unfolding_all exact rfl) ?_)
    | (with_reducible refine Rf.wp_CB ?_)
    | (with_reducible refine Rf.wp_call ?_)
    | (with_reducible refine Rf.wp_isi ?_)
    | (with_reducible refine Rf.isi_int ?_)
    | (with_reducible refine Rf.isi_bool ?_)
    | (with_reducible refine Rf.isi_tup ?_)
    | (with_reducible refine Rf.isi_str ?_)
    | (with_reducible refine Rf.isi_dic ?_)
    | (with_reducible refine Rf.wp_sl ?_)
    | (with_reducible refine Rf.wp_noPart ?_)
    | (with_reducible refine Rf.wp_part ?_)
    | (with_reducible refine Rf.wp_dic0t ?_)
    | (with_reducible refine Rf.wp_dic0f ?_)
    | (with_reducible refine Rf.wp_par ?_)
    | (with_reducible refine Rf.ex2 ?_)
    | (with_reducible refine Rf.wp_par3 ?_)
    | (with_reducible refine Rf.ex3 ?_)
    | (with_reducible refine Rf.wp_comp ?_)
    | (with_reducible refine Rf.wp_it ?_)
    | (with_reducible refine Rf.itd_tup ?_)
    | (with_reducible refine Rf.itd_lst ?_)
    | (with_reducible refine Rf.wp_for ?_)
    | (with_reducible refine Rf.wp_body ?_)
    | (with_reducible refine Rf.wp_rng1 ?_)
    | (with_reducible refine Rf.wp_rng2 ?_)
    | (with_reducible refine Rf.wp_sNil ?_)
    | (with_reducible refine Rf.wp_retN ?_)
    | (with_reducible refine Rf.wp_brk ?_)
    | (with_reducible refine Rf.wp_cnt ?_)
    | (with_reducible refine Rf.ifT ?_)
    | (with_reducible refine Rf.ifF ?_)
    | (with_reducible refine Rf.add_int ?_)
    | (with_reducible refine Rf.sub_int ?_)
    | ((with_reducible refine Rf.mod_int ?_ ?_); first | decide | omega)
    | ((with_reducible refine Rf.div_int ?_ ?_); first | decide | omega)
    | ((with_reducible refine Rf.mul_int ?_ ?_); first | (refine Rf.mulOk_l ?_; decide) | (refine Rf.mulOk_r ?_; decide) | (refine Rf.mulOk_l ?_; omega) | (refine Rf.mulOk_r ?_; omega))
    | (with_reducible refine Rf.lt_int ?_)
    | (with_reducible refine Rf.le_int ?_)
    | (with_reducible refine Rf.gt_int ?_)
    | (with_reducible refine Rf.ge_int ?_)
    | (with_reducible refine Rf.lt_str ?_)
    | (with_reducible refine Rf.eq_int ?_)
    | (with_reducible refine Rf.ne_int ?_)
    | (with_reducible refine Rf.eq_str ?_)
    | (with_reducible refine Rf.ne_str ?_)
    | (with_reducible refine Rf.isn_dat ?_)
    | (with_reducible refine Rf.isnt_dat ?_)
    | (with_reducible refine Rf.len_tup ?_)
    | (with_reducible refine Rf.len_lst ?_)
    | (with_reducible refine Rf.len_tw ?_)
    | (with_reducible refine Rf.len_lw ?_)
    | (with_reducible refine Rf.int_int ?_)
    | (with_reducible refine Rf.int_bool ?_)
    | (with_reducible refine Rf.abs_int ?_)
    | (with_reducible refine Rf.max_int ?_)
    | (with_reducible refine Rf.min_int ?_)
    | (with_reducible refine Rf.all_map ?_)
    | (with_reducible refine Rf.any_map ?_)
    | (with_reducible refine Rf.tuple_lst ?_)
    | (with_reducible refine Rf.tuple_tup ?_)
    | (with_reducible refine Rf.list_lst ?_)
    | (with_reducible refine Rf.list_tup ?_)
    | (with_reducible refine Rf.sl_tup ?_)
    | (with_reducible refine Rf.sl_lst ?_)
    | (with_reducible refine Rf.rt_same ?_)); repeat (first
    | (with_reducible refine Rf.wp_comp2 ?_)
    | (with_reducible refine Rf.wp_conIx ?_)
    | (with_reducible refine Rf.wp_back ?_)
    | (with_reducible refine Rf.bk_tup ?_)
    | (with_reducible refine Rf.bk_lst ?_)
    | (with_reducible refine Rf.wp_itS ?_)
    | (with_reducible refine Rf.its_str ?_)
    | (with_reducible refine Rf.its_tup ?_)
    | (with_reducible refine Rf.its_lst ?_)
    | (with_reducible refine Rf.its_tw ?_)
    | (with_reducible refine Rf.its_lw ?_)
    | (with_reducible refine Rf.wp_conW ?_)
    | (with_reducible refine Rf.wp_mt ?_)
    | (with_reducible refine Rf.tyS ?_)
    | (with_reducible refine Rf.tyLd ?_)
    | (with_reducible refine Rf.tyLc (by assumption) ?_)
    | (with_reducible refine Rf.in_alpha ?_)
    | (with_reducible refine Rf.ifNT ?_)
    | (with_reducible refine Rf.wp_fld ?_)
    | (with_reducible refine Rf.wp_sFld ?_)
    | (with_reducible refine Rf.wp_sFldA ?_)
    | (with_reducible refine Rf.wp_meth ?_)
    | (with_reducible refine Rf.iadd_int ?_)
    | (with_reducible refine Rf.rt_app ?_)
    | ((with_reducible refine Rf.exRng1 ?_ ?_); omega)
    | ((with_reducible refine Rf.exRng2 ?_ ?_); omega)
    | (with_reducible refine Rf.ifNF ?_)
    | dsimp only [Rf.strB, Rf.intB, Rf.boolB, Rf.tupB, Rf.dicB, Rf.noneB]
    | (with_reducible refine Rf.wp_seq ?_)
    | (with_reducible refine Rf.wp_asg ?_)
    | (with_reducible refine Rf.wp_name ?_)
    | (with_reducible refine Rf.wp_ret ?_)
    | (with_reducible refine Rf.wp_sIf ?_)
    | (with_reducible refine Rf.wp_drop ?_)
    | (with_reducible refine Rf.wp_varD (by with_unfolding_all exact rfl) ?_)
    | (with_reducible refine Rf.wp_varL (by with_unfolding_all exact rfl) ?_)
    | (with_reducible refine Rf.wp_varT (by with_unfolding_all exact rfl) ?_)
    | (with_reducible refine Rf.wp_varLw (by with_unfolding_all exact rfl) ?_)
    | (with_reducible refine Rf.wp_varKt (by with_unfolding_all exact rfl) ?_)
    | (with_reducible refine Rf.wp_varK (by with_unfolding_all exact rfl) ?_)
    | (with_reducible refine Rf.wp_con ?_)
    | (with_reducible refine Rf.wp_bin ?_)
    | (with_reducible refine Rf.wp_B ?_)
    | (with_reducible refine Rf.isB_mk ?_)
    | (with_reducible refine Rf.wp_not ?_)
    | (with_reducible refine Rf.wp_if ?_)
    | (with_reducible refine Rf.wp_ok ?_)
    | (with_reducible refine Rf.nl_dat ?_)
    | (with_reducible refine Rf.nl_map ?_)
    | (with_reducible refine Rf.nl_cell ?_)
    | (with_reducible refine Rf.wp_yes ?_)
    | (with_reducible refine Rf.wp_tru ?_)
    | (with_reducible refine Rf.wp_andV ?_)
    | (with_reducible refine Rf.wp_orV ?_)
    | (with_reducible refine Rf.wp_notV ?_)
    | (with_reducible refine Rf.exTru (by with_unfolding_all exact rfl) ?_)
    | (with_reducible refine Rf.wp_neg ?_)
    | (with_reducible refine Rf.exInt ?_)
    | (with_reducible refine Rf.wp_chain ?_)
    | (with_reducible refine Rf.wp_cons ?_)
    | (with_reducible refine Rf.wp_nil ?_)
    | (with_reducible refine Rf.wp_tup ?_)
    | (with_reducible refine Rf.tp_dat (by with_unfolding_all exact rfl) (by with_unfolding_all exact rfl) ?_)
    | (with_reducible refine Rf.wp_lst ?_)
    | (with_reducible refine Rf.lp_dat (by with_unfolding_all exact rfl) (by with_unfolding_all exact rfl) ?_)
    | (with_reducible refine Rf.lp_cell (by with_unfolding_all exact rfl) ?_)
    | (with_reducible refine Rf.wp_CB ?_)
    | (with_reducible refine Rf.wp_call ?_)
    | (with_reducible refine Rf.wp_isi ?_)
    | (with_reducible refine Rf.isi_int ?_)
    | (with_reducible refine Rf.isi_bool ?_)
    | (with_reducible refine Rf.isi_tup ?_)
    | (with_reducible refine Rf.isi_str ?_)
    | (with_reducible refine Rf.isi_dic ?_)
    | (with_reducible refine Rf.wp_sl ?_)
    | (with_reducible refine Rf.wp_noPart ?_)
    | (with_reducible refine Rf.wp_part ?_)
    | (with_reducible refine Rf.wp_dic0t ?_)
    | (with_reducible refine Rf.wp_dic0f ?_)
    | (with_reducible refine Rf.wp_par ?_)
    | (with_reducible refine Rf.ex2 ?_)
    | (with_reducible refine Rf.wp_par3 ?_)
    | (with_reducible refine Rf.ex3 ?_)
    | (with_reducible refine Rf.wp_comp ?_)
    | (with_reducible refine Rf.wp_it ?_)
    | (with_reducible refine Rf.itd_tup ?_)
    | (with_reducible refine Rf.itd_lst ?_)
    | (with_reducible refine Rf.wp_for ?_)
    | (with_reducible refine Rf.wp_body ?_)
    | (with_reducible refine Rf.wp_rng1 ?_)
    | (with_reducible refine Rf.wp_rng2 ?_)
    | (with_reducible refine Rf.wp_sNil ?_)
    | (with_reducible refine Rf.wp_retN ?_)
    | (with_reducible refine Rf.wp_brk ?_)
    | (with_reducible refine Rf.wp_cnt ?_)
    | (with_reducible refine Rf.ifT ?_)
    | (with_reducible refine Rf.ifF ?_)
    | (with_reducible refine Rf.add_int ?_)
    | (with_reducible refine Rf.sub_int ?_)
    | ((with_reducible refine Rf.mod_int ?_ ?_); first | decide | omega)
    | ((with_reducible refine Rf.div_int ?_ ?_); first | decide | omega)
    | ((with_reducible refine Rf.mul_int ?_ ?_); first | (refine Rf.mulOk_l ?_; decide) | (refine Rf.mulOk_r ?_; decide) | (refine Rf.mulOk_l ?_; omega) | (refine Rf.mulOk_r ?_; omega))
    | (with_reducible refine Rf.lt_int ?_)
    | (with_reducible refine Rf.le_int ?_)
    | (with_reducible refine Rf.gt_int ?_)
    | (with_reducible refine Rf.ge_int ?_)
    | (with_reducible refine Rf.lt_str ?_)
    | (with_reducible refine Rf.eq_int ?_)
    | (with_reducible refine Rf.ne_int ?_)
    | (with_reducible refine Rf.eq_str ?_)
    | (with_reducible refine Rf.ne_str ?_)
    | (with_reducible refine Rf.isn_dat ?_)
    | (with_reducible refine Rf.isnt_dat ?_)
    | (with_reducible refine Rf.len_tup ?_)
    | (with_reducible refine Rf.len_lst ?_)
    | (with_reducible refine Rf.len_tw ?_)
    | (with_reducible refine Rf.len_lw ?_)
    | (with_reducible refine Rf.int_int ?_)
    | (with_reducible refine Rf.int_bool ?_)
    | (with_reducible refine Rf.abs_int ?_)
    | (with_reducible refine Rf.max_int ?_)
    | (with_reducible refine Rf.min_int ?_)
    | (with_reducible refine Rf.all_map ?_)
    | (with_reducible refine Rf.any_map ?_)
    | (with_reducible refine Rf.tuple_lst ?_)
    | (with_reducible refine Rf.tuple_tup ?_)
    | (with_reducible refine Rf.list_lst ?_)
    | (with_reducible refine Rf.list_tup ?_)
    | (with_reducible refine Rf.sl_tup ?_)
    | (with_reducible refine Rf.sl_lst ?_)
    | (with_reducible refine Rf.rt_same ?_))))

namespace Rf
open PySem L2 Nm

/-! ### draws: three whole numbers in a cell -/
def Vat (S : Store) (n : Nat) : Prop := ∃ a b c : Int, S[n]? = some (.lst [.int a, .int b, .int c])
/-- the same store but for the draws -/
structure Drawn (n : Nat) (S S' : Store) : Prop where
  len : S'.length = S.length
  vat : Vat S' n
  rest : ∀ m, m ≠ n → S'[m]? = S[m]?
theorem Drawn.trans {n : Nat} {S S1 S2 : Store} (a : Drawn n S S1) (b : Drawn n S1 S2) : Drawn n S S2 := ⟨b.len.trans a.len, b.vat, fun m h => (b.rest m h).trans (a.rest m h)⟩
theorem Drawn.refl {n : Nat} {S : Store} (h : Vat S n) : Drawn n S S := ⟨rfl, h, fun _ _ => rfl⟩
theorem Vat.lt {S : Store} {n : Nat} (h : Vat S n) : n < S.length := by
  obtain ⟨a, b, c, e⟩ := h
  exact (List.getElem?_eq_some_iff.mp e).1
theorem drawn_set {S : Store} {n : Nat} (h : n < S.length) (a b c : Int) : Drawn n S (S.set n (.lst [.int a, .int b, .int c])) := ⟨by simp, ⟨a, b, c, by rw [List.getElem?_set_self h]⟩, fun m hm => by rw [List.getElem?_set_ne (Ne.symm hm)]⟩
theorem Vat.app {S : Store} {n : Nat} (h : Vat S n) (T : Store) : Vat (S ++ T) n := by
  obtain ⟨a, b, c, e⟩ := h
  exact ⟨a, b, c, at_old e T⟩
/-- cells laid behind: what is drawn leaves them -/
theorem Drawn.split {n : Nat} {S T S' : Store} (hn : n < S.length) (h : Drawn n (S ++ T) S') : ∃ S1, S' = S1 ++ T ∧ Drawn n S S1 := by
  refine ⟨S'.take S.length, ?_, ?_⟩
  · refine List.ext_getElem? fun i => ?_
    by_cases hi : i < S.length
    · rw [List.getElem?_append_left (by rw [List.length_take, h.len, List.length_append]; omega), List.getElem?_take_of_lt hi]
    · rw [h.rest i (by omega)]
      have hl : (S'.take S.length).length = S.length := by rw [List.length_take, h.len, List.length_append]; omega
      rw [List.getElem?_append_right (by omega), List.getElem?_append_right (by omega), hl]
  · obtain ⟨a, b, c, e⟩ := h.vat
    refine ⟨by rw [List.length_take, h.len, List.length_append]; omega, ⟨a, b, c, by rw [List.getElem?_take_of_lt hn]; exact e⟩, fun m hm => ?_⟩
    by_cases hi : m < S.length
    · rw [List.getElem?_take_of_lt hi, h.rest m hm, List.getElem?_append_left hi]
    · rw [List.getElem?_eq_none (by rw [List.length_take]; omega), List.getElem?_eq_none (by omega)]
/-- what an answer is that leaves the store but for the draws -/
def DW (n : Nat) (S : Store) (P : W → Prop) (w : W) (S' : Store) : Prop := P w ∧ Drawn n S S'
theorem cut_to {α : Type} (xs : List α) (j : Nat) : cutW xs none (some (j : Int)) = xs.take j := by
  unfold cutW
  rw [HT.sIx_none, HT.sIx_nat, List.drop_zero, Nat.sub_zero]
  by_cases h : j ≤ xs.length
  · rw [Nat.min_eq_left h]
  · rw [Nat.min_eq_right (by omega), List.take_of_length_le (Nat.le_refl _), List.take_of_length_le (by omega)]
end Rf

namespace Rf
open PySem L2 Nm

/-! ### try, lambdas: weakest preconditions -/
section
variable {bs : List Nat} {env : Env} {S : Store} {E' : EK} {N : Env → Store → Prop} {R : W → Store → Prop} {B C : Env → Store → Prop} {E : Nat → List W → Env → Store → Prop}
/-- what follows an exception of a try's body -/
def XP (errs : List Nat) (cat : Nat → Nat → Bool) (hs : List Hd) (bs : List Nat) (N : Env → Store → Prop) (R : W → Store → Prop) (B C : Env → Store → Prop) (E : Nat → List W → Env → Store → Prop) (c : Nat) (ws : List W) (e : Env) (S : Store) : Prop :=
  c ∈ errs ∧ SO.wp (match hs.find? fun h => cat c h.c with
    | some h => sSuite h ws bs e S
    | none => .ex c ws e S) N R B C E
end
end Rf
local macro_rules
  | `(tactic| array_get_dec) => `(tactic| ((first
    | (with_reducible refine Rf.wp_try ?_)
    | (with_reducible refine Rf.wp_suite ?_)
    | (with_reducible refine Rf.wp_thunk ?_)
    | (with_reducible refine Rf.wp_kept ?_)
    | (with_reducible refine Rf.wp_lam ?_)
    | (with_reducible refine Rf.wp_raise ?_)
    | (with_reducible refine Rf.wp_raise1 ?_)
    | (with_reducible refine Rf.ex1 ?_)
    | (with_reducible refine Rf.ex_nil' ?_)
    | (with_reducible refine Rf.ex_dat' ?_)
    | (with_reducible refine Rf.wp_comp2 ?_)
    | (with_reducible refine Rf.wp_conIx ?_)
    | (with_reducible refine Rf.wp_back ?_)
    | (with_reducible refine Rf.bk_tup ?_)
    | (with_reducible refine Rf.bk_lst ?_)
    | (with_reducible refine Rf.wp_itS ?_)
    | (with_reducible refine Rf.its_str ?_)
    | (with_reducible refine Rf.its_tup ?_)
    | (with_reducible refine Rf.its_lst ?_)
    | (with_reducible refine Rf.its_tw ?_)
    | (with_reducible refine Rf.its_lw ?_)
    | (with_reducible refine Rf.wp_conW ?_)
    | (with_reducible refine Rf.wp_mt ?_)
    | (with_reducible refine Rf.tyS ?_)
    | (with_reducible refine Rf.tyLd ?_)
    | (with_reducible refine Rf.tyLc (by assumption) ?_)
    | (with_reducible refine Rf.in_alpha ?_)
    | (with_reducible refine Rf.ifNT ?_)
    | (with_reducible refine Rf.wp_fld ?_)
    | (with_reducible refine Rf.wp_sFld ?_)
    | (with_reducible refine Rf.wp_sFldA ?_)
    | (with_reducible refine Rf.wp_meth ?_)
    | (with_reducible refine Rf.iadd_int ?_)
    | (with_reducible refine Rf.rt_app ?_)
    | ((with_reducible refine Rf.exRng1 ?_ ?_); omega)
    | ((with_reducible refine Rf.exRng2 ?_ ?_); omega)
    | (with_reducible refine Rf.ifNF ?_)
    | dsimp only [Rf.strB, Rf.intB, Rf.boolB, Rf.tupB, Rf.dicB, Rf.noneB]
    | (with_reducible refine Rf.wp_seq ?_)
    | (with_reducible refine Rf.wp_asg ?_)
    | (with_reducible refine Rf.wp_name ?_)
    | (with_reducible refine Rf.wp_ret ?_)
    | (with_reducible refine Rf.wp_sIf ?_)
    | (with_reducible refine Rf.wp_drop ?_)
    | (with_reducible refine Rf.wp_varD (by with_unfolding_all exact rfl) ?_)
    | (with_reducible refine Rf.wp_varL (by with_unfolding_all exact rfl) ?_)
    | (with_reducible refine Rf.wp_varT (by with_unfolding_all exact rfl) ?_)
    | (with_reducible refine Rf.wp_varLw (by with_unfolding_all exact rfl) ?_)
    | (with_reducible refine Rf.wp_varKt (by with_unfolding_all exact rfl) ?_)
    | (with_reducible refine Rf.wp_varK (by with_unfolding_all exact rfl) ?_)
    | (with_reducible refine Rf.wp_con ?_)
    | (with_reducible refine Rf.wp_bin ?_)
    | (with_reducible refine Rf.wp_B ?_)
    | (with_reducible refine Rf.isB_mk ?_)
    | (with_reducible refine Rf.wp_not ?_)
    | (with_reducible refine Rf.wp_if ?_)
    | (with_reducible refine Rf.wp_ok ?_)
    | (with_reducible refine Rf.nl_dat ?_)
    | (with_reducible refine Rf.nl_map ?_)
    | (with_reducible refine Rf.nl_cell ?_)
    | (with_reducible refine Rf.wp_yes ?_)
    | (with_reducible refine Rf.wp_tru ?_)
    | (with_reducible refine Rf.wp_andV ?_)
    | (with_reducible refine Rf.wp_orV ?_)
    | (with_reducible refine Rf.wp_notV ?_)
    | (with_reducible refine Rf.exTru (by with_unfolding_all exact rfl) ?_)
    | (with_reducible refine Rf.wp_neg ?_)
    | (with_reducible refine Rf.exInt ?_)
    | (with_reducible refine Rf.wp_chain ?_)
    | (with_reducible refine Rf.wp_cons ?_)
    | (with_reducible refine Rf.wp_nil ?_)
    | (with_reducible refine Rf.wp_tup ?_)
    | (with_reducible refine Rf.tp_dat (by with_unfolding_all exact rfl) (by with_unfolding_all exact rfl) ?_)
    | (with_reducible refine Rf.wp_lst ?_)
    | (with_reducible refine Rf.lp_dat (by with_unfolding_all exact rfl) (by with_unfolding_all exact rfl) ?_)
    | (with_reducible refine Rf.lp_cell (by with_unfolding_all exact rfl) ?_)
    | (with_reducible refine Rf.wp_CB ?_)
    | (with_reducible refine Rf.wp_call ?_)
    | (with_reducible refine Rf.wp_isi ?_)
    | (with_reducible refine Rf.isi_int ?_)
    | (with_reducible refine Rf.isi_bool ?_)
    | (with_reducible refine Rf.isi_tup ?_)
    | (with_reducible refine Rf.isi_str ?_)
    | (with_reducible refine Rf.isi_dic ?_)
    | (with_reducible refine Rf.wp_sl ?_)
    | (with_reducible refine Rf.wp_noPart ?_)
    | (with_reducible refine Rf.wp_part ?_)
    | (with_reducible refine Rf.wp_dic0t ?_)
    | (with_reducible refine Rf.wp_dic0f ?_)
    | (with_reducible refine Rf.wp_par ?_)
    | (with_reducible refine Rf.ex2 ?_)
    | (with_reducible refine Rf.wp_par3 ?_)
    | (with_reducible refine Rf.ex3 ?_)
    | (with_reducible refine Rf.wp_comp ?_)
    | (with_reducible refine Rf.wp_it ?_)
    | (with_reducible refine Rf.itd_tup ?_)
    | (with_reducible refine Rf.itd_lst ?_)
    | (with_reducible refine Rf.wp_for ?_)
    | (with_reducible refine Rf.wp_body ?_)
    | (with_reducible refine Rf.wp_rng1 ?_)
    | (with_reducible refine Rf.wp_rng2 ?_)
    | (with_reducible refine Rf.wp_sNil ?_)
    | (with_reducible refine Rf.wp_retN ?_)
    | (with_reducible refine Rf.wp_brk ?_)
    | (with_reducible refine Rf.wp_cnt ?_)
    | (with_reducible refine Rf.ifT ?_)
    | (with_reducible refine Rf.ifF ?_)
    | (with_reducible refine Rf.add_int ?_)
    | (with_reducible refine Rf.sub_int ?_)
    | ((with_reducible refine Rf.mod_int ?_ ?_); first | decide | omega)
    | ((with_reducible refine Rf.div_int ?_ ?_); first | decide | omega)
    | ((with_reducible refine Rf.mul_int ?_ ?_); first | (refine Rf.mulOk_l ?_; decide) | (refine Rf.mulOk_r ?_; decide) | (refine Rf.mulOk_l ?_; omega) | (refine Rf.mulOk_r ?_; omega))
    | (with_reducible refine Rf.lt_int ?_)
    | (with_reducible refine Rf.le_int ?_)
    | (with_reducible refine Rf.gt_int ?_)
    | (with_reducible refine Rf.ge_int ?_)
    | (with_reducible refine Rf.lt_str ?_)
    | (with_reducible refine Rf.eq_int ?_)
    | (with_reducible refine Rf.ne_int ?_)
    | (with_reducible refine Rf.eq_str ?_)
    | (with_reducible refine Rf.ne_str ?_)
    | (with_reducible refine Rf.isn_dat ?_)
    | (with_reducible refine Rf.isnt_dat ?_)
    | (with_reducible refine Rf.len_tup ?_)
    | (with_reducible refine Rf.len_lst ?_)
    | (with_reducible refine Rf.len_tw ?_)
    | (with_reducible refine Rf.len_lw ?_)
    | (with_reducible refine Rf.int_int ?_)
    | (with_reducible refine Rf.int_bool ?_)
    | (with_reducible refine Rf.abs_int ?_)
    | (with_reducible refine Rf.max_int ?_)
    | (with_reducible refine Rf.min_int ?_)
    | (with_reducible refine Rf.all_map ?_)
    | (with_reducible refine Rf.any_map ?_)
    | (with_reducible refine Rf.tuple_lst ?_)
    | (with_reducible refine Rf.tuple_tup ?_)
    | (with_reducible refine Rf.list_lst ?_)
    | (with_reducible refine Rf.list_tup ?_)
    | (with_reducible refine Rf.sl_tup ?_)
    | (with_reducible refine Rf.sl_lst ?_)
    | (with_reducible refine Rf.rt_same ?_)); repeat (first
    | (with_reducible refine Rf.wp_try ?_)
    | (with_reducible refine Rf.wp_suite ?_)
    | (with_reducible refine Rf.wp_thunk ?_)
    | (with_reducible refine Rf.wp_kept ?_)
    | (with_reducible refine Rf.wp_lam ?_)
    | (with_reducible refine Rf.wp_raise ?_)
    | (with_reducible refine Rf.wp_raise1 ?_)
    | (with_reducible refine Rf.ex1 ?_)
    | (with_reducible refine Rf.ex_nil' ?_)
    | (with_reducible refine Rf.ex_dat' ?_)
    | (with_reducible refine Rf.wp_comp2 ?_)
    | (with_reducible refine Rf.wp_conIx ?_)
    | (with_reducible refine Rf.wp_back ?_)
    | (with_reducible refine Rf.bk_tup ?_)
    | (with_reducible refine Rf.bk_lst ?_)
    | (with_reducible refine Rf.wp_itS ?_)
    | (with_reducible refine Rf.its_str ?_)
    | (with_reducible refine Rf.its_tup ?_)
    | (with_reducible refine Rf.its_lst ?_)
    | (with_reducible refine Rf.its_tw ?_)
    | (with_reducible refine Rf.its_lw ?_)
    | (with_reducible refine Rf.wp_conW ?_)
    | (with_reducible refine Rf.wp_mt ?_)
    | (with_reducible refine Rf.tyS ?_)
    | (with_reducible refine Rf.tyLd ?_)
    | (with_reducible refine Rf.tyLc (by assumption) ?_)
    | (with_reducible refine Rf.in_alpha ?_)
    | (with_reducible refine Rf.ifNT ?_)
    | (with_reducible refine Rf.wp_fld ?_)
    | (with_reducible refine Rf.wp_sFld ?_)
    | (with_reducible refine Rf.wp_sFldA ?_)
    | (with_reducible refine Rf.wp_meth ?_)
    | (with_reducible refine Rf.iadd_int ?_)
    | (with_reducible refine Rf.rt_app ?_)
    | ((with_reducible refine Rf.exRng1 ?_ ?_); omega)
    | ((with_reducible refine Rf.exRng2 ?_ ?_); omega)
    | (with_reducible refine Rf.ifNF ?_)
    | dsimp only [Rf.strB, Rf.intB, Rf.boolB, Rf.tupB, Rf.dicB, Rf.noneB]
    | (with_reducible refine Rf.wp_seq ?_)
    | (with_reducible refine Rf.wp_asg ?_)
    | (with_reducible refine Rf.wp_name ?_)
    | (with_reducible refine Rf.wp_ret ?_)
    | (with_reducible refine Rf.wp_sIf ?_)
    | (with_reducible refine Rf.wp_drop ?_)
    | (with_reducible refine Rf.wp_varD (by with_unfolding_all exact rfl) ?_)
    | (with_reducible refine Rf.wp_varL (by with_unfolding_all exact rfl) ?_)
    | (with_reducible refine Rf.wp_varT (by with_unfolding_all exact rfl) ?_)
    | (with_reducible refine Rf.wp_varLw (by with_unfolding_all exact rfl) ?_)
    | (with_reducible refine Rf.wp_varKt (by with_unfolding_all exact rfl) ?_)
    | (with_reducible refine Rf.wp_varK (by with_unfolding_all exact rfl) ?_)
    | (with_reducible refine Rf.wp_con ?_)
    | (with_reducible refine Rf.wp_bin ?_)
    | (with_reducible refine Rf.wp_B ?_)
    | (with_reducible refine Rf.isB_mk ?_)
    | (with_reducible refine Rf.wp_not ?_)
    | (with_reducible refine Rf.wp_if ?_)
    | (with_reducible refine Rf.wp_ok ?_)
    | (with_reducible refine Rf.nl_dat ?_)
    | (with_reducible refine Rf.nl_map ?_)
    | (with_reducible refine Rf.nl_cell ?_)
    | (with_reducible refine Rf.wp_yes ?_)
    | (with_reducible refine Rf.wp_tru ?_)
    | (with_reducible refine Rf.wp_andV ?_)
    | (with_reducible refine Rf.wp_orV ?_)
    | (with_reducible refine Rf.wp_notV ?_)
    | (with_reducible refine Rf.exTru (by with_unfolding_all exact rfl) ?_)
    | (with_reducible refine Rf.wp_neg ?_)
    | (with_reducible refine Rf.exInt ?_)
    | (with_reducible refine Rf.wp_chain ?_)
    | (with_reducible refine Rf.wp_cons ?_)
    | (with_reducible refine Rf.wp_nil ?_)
    | (with_reducible refine Rf.wp_tup ?_)
    | (with_reducible refine Rf.tp_dat (by with_unfolding_all exact rfl) (by with_unfolding_all exact rfl) ?_)
    | (with_reducible refine Rf.wp_lst ?_)
    | (with_reducible refine Rf.lp_dat (by with_unfolding_all exact rfl) (by with_unfolding_all exact rfl) ?_)
    | (with_reducible refine Rf.lp_cell (by with_unfolding_all exact rfl) ?_)
    | (with_reducible refine Rf.wp_CB ?_)
    | (with_reducible refine Rf.wp_call ?_)
    | (with_reducible refine Rf.wp_isi ?_)
    | (with_reducible refine Rf.isi_int ?_)
    | (with_reducible refine Rf.isi_bool ?_)
    | (with_reducible refine Rf.isi_tup ?_)
    | (with_reducible refine Rf.isi_str ?_)
    | (with_reducible refine Rf.isi_dic ?_)
    | (with_reducible refine Rf.wp_sl ?_)
    | (with_reducible refine Rf.wp_noPart ?_)
    | (with_reducible refine Rf.wp_part ?_)
    | (with_reducible refine Rf.wp_dic0t ?_)
    | (with_reducible refine Rf.wp_dic0f ?_)
    | (with_reducible refine Rf.wp_par ?_)
    | (with_reducible refine Rf.ex2 ?_)
    | (with_reducible refine Rf.wp_par3 ?_)
    | (with_reducible refine Rf.ex3 ?_)
    | (with_reducible refine Rf.wp_comp ?_)
    | (with_reducible refine Rf.wp_it ?_)
    | (with_reducible refine Rf.itd_tup ?_)
    | (with_reducible refine Rf.itd_lst ?_)
    | (with_reducible refine Rf.wp_for ?_)
    | (with_reducible refine Rf.wp_body ?_)
    | (with_reducible refine Rf.wp_rng1 ?_)
    | (with_reducible refine Rf.wp_rng2 ?_)
    | (with_reducible refine Rf.wp_sNil ?_)
    | (with_reducible refine Rf.wp_retN ?_)
    | (with_reducible refine Rf.wp_brk ?_)
    | (with_reducible refine Rf.wp_cnt ?_)
    | (with_reducible refine Rf.ifT ?_)
    | (with_reducible refine Rf.ifF ?_)
    | (with_reducible refine Rf.add_int ?_)
    | (with_reducible refine Rf.sub_int ?_)
    | ((with_reducible refine Rf.mod_int ?_ ?_); first | decide | omega)
    | ((with_reducible refine Rf.div_int ?_ ?_); first | decide | omega)
    | ((with_reducible refine Rf.mul_int ?_ ?_); first | (refine Rf.mulOk_l ?_; decide) | (refine Rf.mulOk_r ?_; decide) | (refine Rf.mulOk_l ?_; omega) | (refine Rf.mulOk_r ?_; omega))
    | (with_reducible refine Rf.lt_int ?_)
    | (with_reducible refine Rf.le_int ?_)
    | (with_reducible refine Rf.gt_int ?_)
    | (with_reducible refine Rf.ge_int ?_)
    | (with_reducible refine Rf.lt_str ?_)
    | (with_reducible refine Rf.eq_int ?_)
    | (with_reducible refine Rf.ne_int ?_)
    | (with_reducible refine Rf.eq_str ?_)
    | (with_reducible refine Rf.ne_str ?_)
    | (with_reducible refine Rf.isn_dat ?_)
    | (with_reducible refine Rf.isnt_dat ?_)
    | (with_reducible refine Rf.len_tup ?_)
    | (with_reducible refine Rf.len_lst ?_)
    | (with_reducible refine Rf.len_tw ?_)
    | (with_reducible refine Rf.len_lw ?_)
    | (with_reducible refine Rf.int_int ?_)
    | (with_reducible refine Rf.int_bool ?_)
    | (with_reducible refine Rf.abs_int ?_)
    | (with_reducible refine Rf.max_int ?_)
    | (with_reducible refine Rf.min_int ?_)
    | (with_reducible refine Rf.all_map ?_)
    | (with_reducible refine Rf.any_map ?_)
    | (with_reducible refine Rf.tuple_lst ?_)
    | (with_reducible refine Rf.tuple_tup ?_)
    | (with_reducible refine Rf.list_lst ?_)
    | (with_reducible refine Rf.list_tup ?_)
    | (with_reducible refine Rf.sl_tup ?_)
    | (with_reducible refine Rf.sl_lst ?_)
    | (with_reducible refine Rf.rt_same ?_))))
namespace Rf
end Rf

namespace Rf
open PySem L2 Nm

/-! ### plain data: how deep, when equal -/
def PD (n : Nat) (d : PyData) : Prop := d.plain = true ∧ d.depth ≤ n
theorem PD.mono {m n : Nat} {d : PyData} (h : PD m d) (hmn : m ≤ n) : PD n d := ⟨h.1, Nat.le_trans h.2 hmn⟩
theorem pd_int {n : Nat} (z : Int) : PD n (.int z) := ⟨rfl, by simp [PyData.depth]⟩
theorem pd_bool {n : Nat} (z : Bool) : PD n (.bool z) := ⟨rfl, by simp [PyData.depth]⟩
theorem pd_all {n : Nat} : ∀ {xs : List PyData}, (∀ x ∈ xs, PD n x) → PyData.plainAll xs = true ∧ PyData.depthAll xs ≤ n
  | [], _ => by simp [PyData.plainAll, PyData.depthAll]
  | x :: xs, h => by
    obtain ⟨a, b⟩ := h x (by simp)
    obtain ⟨c, d⟩ := pd_all (xs := xs) fun y hy => h y (by simp [hy])
    refine ⟨by simp [PyData.plainAll, a, c], ?_⟩
    simp only [PyData.depthAll]
    omega
theorem pd_tup {n : Nat} {xs : List PyData} (h : ∀ x ∈ xs, PD n x) : PD (n + 1) (.tuple xs) := by
  obtain ⟨a, b⟩ := pd_all h
  exact ⟨by rw [PyData.plain]; exact a, by rw [PyData.depth]; omega⟩
theorem pd_lst {n : Nat} {xs : List PyData} (h : ∀ x ∈ xs, PD n x) : PD (n + 1) (.list xs) := by
  obtain ⟨a, b⟩ := pd_all h
  exact ⟨by rw [PyData.plain]; exact a, by rw [PyData.depth]; omega⟩
theorem eqv_self {d : PyData} (h : d.plain = true) : PyData.eqv d d = true := SeqAt.eqv_refl_plain d h
mutual
/-- no truth values, no dicts -/
def strictD : PyData → Bool
  | .none => true
  | .int _ => true
  | .str _ => true
  | .list xs => strictAll xs
  | .tuple xs => strictAll xs
  | _ => false
def strictAll : List PyData → Bool
  | [] => true
  | x :: xs => strictD x && strictAll xs
end
mutual
theorem strict_eq : ∀ {d e : PyData}, strictD d = true → strictD e = true → PyData.eqv d e = true → d = e
  | .none, e, _, he, h => by cases e <;> simp_all [PyData.eqv, strictD]
  | .int i, e, _, he, h => by cases e <;> simp_all [PyData.eqv, strictD]
  | .str x, e, _, he, h => by cases e <;> simp_all [PyData.eqv, strictD]
  | .list xs, .list ys, hd, he, h => by
    rw [PyData.eqv] at h
    rw [strict_eqAll (by rw [strictD] at hd; exact hd) (by rw [strictD] at he; exact he) h]
  | .tuple xs, .tuple ys, hd, he, h => by
    rw [PyData.eqv] at h
    rw [strict_eqAll (by rw [strictD] at hd; exact hd) (by rw [strictD] at he; exact he) h]
  | .list xs, .none, _, _, h => by simp [PyData.eqv] at h
  | .list xs, .int _, _, _, h => by simp [PyData.eqv] at h
  | .list xs, .str _, _, _, h => by simp [PyData.eqv] at h
  | .list xs, .bool _, _, _, h => by simp [PyData.eqv] at h
  | .list xs, .tuple _, _, _, h => by simp [PyData.eqv] at h
  | .list xs, .dict _, _, _, h => by simp [PyData.eqv] at h
  | .tuple xs, .none, _, _, h => by simp [PyData.eqv] at h
  | .tuple xs, .int _, _, _, h => by simp [PyData.eqv] at h
  | .tuple xs, .str _, _, _, h => by simp [PyData.eqv] at h
  | .tuple xs, .bool _, _, _, h => by simp [PyData.eqv] at h
  | .tuple xs, .list _, _, _, h => by simp [PyData.eqv] at h
  | .tuple xs, .dict _, _, _, h => by simp [PyData.eqv] at h
  | .bool _, _, hd, _, _ => by simp [strictD] at hd
  | .dict _, _, hd, _, _ => by simp [strictD] at hd
theorem strict_eqAll : ∀ {xs ys : List PyData}, strictAll xs = true → strictAll ys = true → PyData.eqvAll xs ys = true → xs = ys
  | [], [], _, _, _ => rfl
  | x :: xs, y :: ys, hd, he, h => by
    rw [PyData.eqvAll, Bool.and_eq_true] at h
    rw [strictAll, Bool.and_eq_true] at hd he
    rw [strict_eq hd.1 he.1 h.1, strict_eqAll hd.2 he.2 h.2]
  | [], _ :: _, _, _, h => by simp [PyData.eqvAll] at h
  | _ :: _, [], _, _, h => by simp [PyData.eqvAll] at h
end
mutual
theorem strict_plain : ∀ {d : PyData}, strictD d = true → d.plain = true
  | .none, _ => rfl
  | .int _, _ => rfl
  | .str _, _ => rfl
  | .list xs, h => by rw [PyData.plain]; exact strict_plainAll (by rw [strictD] at h; exact h)
  | .tuple xs, h => by rw [PyData.plain]; exact strict_plainAll (by rw [strictD] at h; exact h)
  | .bool _, _ => rfl
  | .dict _, h => by simp [strictD] at h
theorem strict_plainAll : ∀ {xs : List PyData}, strictAll xs = true → PyData.plainAll xs = true
  | [], _ => rfl
  | x :: xs, h => by
    rw [strictAll, Bool.and_eq_true] at h
    rw [PyData.plainAll, strict_plain h.1, strict_plainAll h.2]; rfl
end
section
variable {bs : List Nat} {S : Store} {Q : W → Store → Prop}
theorem eq_pd {neg : Bool} {m n : Nat} {d e : PyData} (hd : PD m d) (he : PD n e) (hm : m ≤ 64) (q : Q (.dat (.bool (PyData.eqv d e != neg))) S) : wpo (eqF neg bs (.dat d) (.dat e) S) Q := eq_view rfl rfl hd.1 he.1 (Nat.le_trans hd.2 hm) q
/-- equal, and known so -/
theorem eq_same {neg : Bool} {n : Nat} {d : PyData} (hd : PD n d) (hn : n ≤ 64) (q : Q (.dat (.bool (!neg))) S) : wpo (eqF neg bs (.dat d) (.dat d) S) Q := eq_pd hd hd hn (by rw [eqv_self hd.1]; cases neg <;> exact q)
end
end Rf

namespace Rf
open PySem L2 Nm
section
variable {bs : List Nat} {S : Store} {Q : W → Store → Prop} {x y : W}
end
end Rf
local macro_rules
  | `(tactic| array_get_dec) => `(tactic| ((first
    | (with_reducible refine Rf.eqA_tup ?_)
    | (with_reducible refine Rf.eqA_lst ?_)
    | (with_reducible refine Rf.wp_try ?_)
    | (with_reducible refine Rf.wp_suite ?_)
    | (with_reducible refine Rf.wp_thunk ?_)
    | (with_reducible refine Rf.wp_kept ?_)
    | (with_reducible refine Rf.wp_lam ?_)
    | (with_reducible refine Rf.wp_raise ?_)
    | (with_reducible refine Rf.wp_raise1 ?_)
    | (with_reducible refine Rf.ex1 ?_)
    | (with_reducible refine Rf.ex_nil' ?_)
    | (with_reducible refine Rf.ex_dat' ?_)
    | (with_reducible refine Rf.wp_comp2 ?_)
    | (with_reducible refine Rf.wp_conIx ?_)
    | (with_reducible refine Rf.wp_back ?_)
    | (with_reducible refine Rf.bk_tup ?_)
    | (with_reducible refine Rf.bk_lst ?_)
    | (with_reducible refine Rf.wp_itS ?_)
    | (with_reducible refine Rf.its_str ?_)
    | (with_reducible refine Rf.its_tup ?_)
    | (with_reducible refine Rf.its_lst ?_)
    | (with_reducible refine Rf.its_tw ?_)
    | (with_reducible refine Rf.its_lw ?_)
    | (with_reducible refine Rf.wp_conW ?_)
    | (with_reducible refine Rf.wp_mt ?_)
    | (with_reducible refine Rf.tyS ?_)
    | (with_reducible refine Rf.tyLd ?_)
    | (with_reducible refine Rf.tyLc (by assumption) ?_)
    | (with_reducible refine Rf.in_alpha ?_)
    | (with_reducible refine Rf.ifNT ?_)
    | (with_reducible refine Rf.wp_fld ?_)
    | (with_reducible refine Rf.wp_sFld ?_)
    | (with_reducible refine Rf.wp_sFldA ?_)
    | (with_reducible refine Rf.wp_meth ?_)
    | (with_reducible refine Rf.iadd_int ?_)
    | (with_reducible refine Rf.rt_app ?_)
    | ((with_reducible refine Rf.exRng1 ?_ ?_); omega)
    | ((with_reducible refine Rf.exRng2 ?_ ?_); omega)
    | (with_reducible refine Rf.ifNF ?_)
    | dsimp only [Rf.strB, Rf.intB, Rf.boolB, Rf.tupB, Rf.dicB, Rf.noneB]
    | (with_reducible refine Rf.wp_seq ?_)
    | (with_reducible refine Rf.wp_asg ?_)
    | (with_reducible refine Rf.wp_name ?_)
    | (with_reducible refine Rf.wp_ret ?_)
    | (with_reducible refine Rf.wp_sIf ?_)
    | (with_reducible refine Rf.wp_drop ?_)
    | (with_reducible refine Rf.wp_varD (by with_unfolding_all exact rfl) ?_)
    | (with_reducible refine Rf.wp_varL (by with_unfolding_all exact rfl) ?_)
    | (with_reducible refine Rf.wp_varT (by with_unfolding_all exact rfl) ?_)
    | (with_reducible refine Rf.wp_varLw (by with_unfolding_all exact rfl) ?_)
    | (with_reducible refine Rf.wp_varKt (by with_unfolding_all exact rfl) ?_)
    | (with_reducible refine Rf.wp_varK (by with_unfolding_all exact rfl) ?_)
    | (with_reducible refine Rf.wp_con ?_)
    | (with_reducible refine Rf.wp_bin ?_)
    | (with_reducible refine Rf.wp_B ?_)
    | (with_reducible refine Rf.isB_mk ?_)
    | (with_reducible refine Rf.wp_not ?_)
    | (with_reducible refine Rf.wp_if ?_)
    | (with_reducible refine Rf.wp_ok ?_)
    | (with_reducible refine Rf.nl_dat ?_)
    | (with_reducible refine Rf.nl_map ?_)
    | (with_reducible refine Rf.nl_cell ?_)
    | (with_reducible refine Rf.wp_yes ?_)
    | (with_reducible refine Rf.wp_tru ?_)
    | (with_reducible refine Rf.wp_andV ?_)
    | (with_reducible refine Rf.wp_orV ?_)
    | (with_reducible refine Rf.wp_notV ?_)
    | (with_reducible refine Rf.exTru (by with_unfolding_all exact rfl) ?_)
    | (with_reducible refine Rf.wp_neg ?_)
    | (with_reducible refine Rf.exInt ?_)
    | (with_reducible refine Rf.wp_chain ?_)
    | (with_reducible refine Rf.wp_cons ?_)
    | (with_reducible refine Rf.wp_nil ?_)
    | (with_reducible refine Rf.wp_tup ?_)
    | (with_reducible refine Rf.tp_dat (by with_unfolding_all exact rfl) (by with_unfolding_all exact rfl) ?_)
    | (with_reducible refine Rf.wp_lst ?_)
    | (with_reducible refine Rf.lp_dat (by with_unfolding_all exact rfl) (by with_unfolding_all exact rfl) ?_)
    | (with_reducible refine Rf.lp_cell (by with_unfolding_all exact rfl) ?_)
    | (with_reducible refine Rf.wp_CB ?_)
    | (with_reducible refine Rf.wp_call ?_)
    | (with_reducible refine Rf.wp_isi ?_)
    | (with_reducible refine Rf.isi_int ?_)
    | (with_reducible refine Rf.isi_bool ?_)
    | (with_reducible refine Rf.isi_tup ?_)
    | (with_reducible refine Rf.isi_str ?_)
    | (with_reducible refine Rf.isi_dic ?_)
    | (with_reducible refine Rf.wp_sl ?_)
    | (with_reducible refine Rf.wp_noPart ?_)
    | (with_reducible refine Rf.wp_part ?_)
    | (with_reducible refine Rf.wp_dic0t ?_)
    | (with_reducible refine Rf.wp_dic0f ?_)
    | (with_reducible refine Rf.wp_par ?_)
    | (with_reducible refine Rf.ex2 ?_)
    | (with_reducible refine Rf.wp_par3 ?_)
    | (with_reducible refine Rf.ex3 ?_)
    | (with_reducible refine Rf.wp_comp ?_)
    | (with_reducible refine Rf.wp_it ?_)
    | (with_reducible refine Rf.itd_tup ?_)
    | (with_reducible refine Rf.itd_lst ?_)
    | (with_reducible refine Rf.wp_for ?_)
    | (with_reducible refine Rf.wp_body ?_)
    | (with_reducible refine Rf.wp_rng1 ?_)
    | (with_reducible refine Rf.wp_rng2 ?_)
    | (with_reducible refine Rf.wp_sNil ?_)
    | (with_reducible refine Rf.wp_retN ?_)
    | (with_reducible refine Rf.wp_brk ?_)
    | (with_reducible refine Rf.wp_cnt ?_)
    | (with_reducible refine Rf.ifT ?_)
    | (with_reducible refine Rf.ifF ?_)
    | (with_reducible refine Rf.add_int ?_)
    | (with_reducible refine Rf.sub_int ?_)
    | ((with_reducible refine Rf.mod_int ?_ ?_); first | decide | omega)
    | ((with_reducible refine Rf.div_int ?_ ?_); first | decide | omega)
    | ((with_reducible refine Rf.mul_int ?_ ?_); first | (refine Rf.mulOk_l ?_; decide) | (refine Rf.mulOk_r ?_; decide) | (refine Rf.mulOk_l ?_; omega) | (refine Rf.mulOk_r ?_; omega))
    | (with_reducible refine Rf.lt_int ?_)
    | (with_reducible refine Rf.le_int ?_)
    | (with_reducible refine Rf.gt_int ?_)
    | (with_reducible refine Rf.ge_int ?_)
    | (with_reducible refine Rf.lt_str ?_)
    | (with_reducible refine Rf.eq_int ?_)
    | (with_reducible refine Rf.ne_int ?_)
    | (with_reducible refine Rf.eq_str ?_)
    | (with_reducible refine Rf.ne_str ?_)
    | (with_reducible refine Rf.isn_dat ?_)
    | (with_reducible refine Rf.isnt_dat ?_)
    | (with_reducible refine Rf.len_tup ?_)
    | (with_reducible refine Rf.len_lst ?_)
    | (with_reducible refine Rf.len_tw ?_)
    | (with_reducible refine Rf.len_lw ?_)
    | (with_reducible refine Rf.int_int ?_)
    | (with_reducible refine Rf.int_bool ?_)
    | (with_reducible refine Rf.abs_int ?_)
    | (with_reducible refine Rf.max_int ?_)
    | (with_reducible refine Rf.min_int ?_)
    | (with_reducible refine Rf.all_map ?_)
    | (with_reducible refine Rf.any_map ?_)
    | (with_reducible refine Rf.tuple_lst ?_)
    | (with_reducible refine Rf.tuple_tup ?_)
    | (with_reducible refine Rf.list_lst ?_)
    | (with_reducible refine Rf.list_tup ?_)
    | (with_reducible refine Rf.sl_tup ?_)
    | (with_reducible refine Rf.sl_lst ?_)
    | (with_reducible refine Rf.rt_same ?_)); repeat (first
    | (with_reducible refine Rf.eqA_tup ?_)
    | (with_reducible refine Rf.eqA_lst ?_)
    | (with_reducible refine Rf.wp_try ?_)
    | (with_reducible refine Rf.wp_suite ?_)
    | (with_reducible refine Rf.wp_thunk ?_)
    | (with_reducible refine Rf.wp_kept ?_)
    | (with_reducible refine Rf.wp_lam ?_)
    | (with_reducible refine Rf.wp_raise ?_)
    | (with_reducible refine Rf.wp_raise1 ?_)
    | (with_reducible refine Rf.ex1 ?_)
    | (with_reducible refine Rf.ex_nil' ?_)
    | (with_reducible refine Rf.ex_dat' ?_)
    | (with_reducible refine Rf.wp_comp2 ?_)
    | (with_reducible refine Rf.wp_conIx ?_)
    | (with_reducible refine Rf.wp_back ?_)
    | (with_reducible refine Rf.bk_tup ?_)
    | (with_reducible refine Rf.bk_lst ?_)
    | (with_reducible refine Rf.wp_itS ?_)
    | (with_reducible refine Rf.its_str ?_)
    | (with_reducible refine Rf.its_tup ?_)
    | (with_reducible refine Rf.its_lst ?_)
    | (with_reducible refine Rf.its_tw ?_)
    | (with_reducible refine Rf.its_lw ?_)
    | (with_reducible refine Rf.wp_conW ?_)
    | (with_reducible refine Rf.wp_mt ?_)
    | (with_reducible refine Rf.tyS ?_)
    | (with_reducible refine Rf.tyLd ?_)
    | (with_reducible refine Rf.tyLc (by assumption) ?_)
    | (with_reducible refine Rf.in_alpha ?_)
    | (with_reducible refine Rf.ifNT ?_)
    | (with_reducible refine Rf.wp_fld ?_)
    | (with_reducible refine Rf.wp_sFld ?_)
    | (with_reducible refine Rf.wp_sFldA ?_)
    | (with_reducible refine Rf.wp_meth ?_)
    | (with_reducible refine Rf.iadd_int ?_)
    | (with_reducible refine Rf.rt_app ?_)
    | ((with_reducible refine Rf.exRng1 ?_ ?_); omega)
    | ((with_reducible refine Rf.exRng2 ?_ ?_); omega)
    | (with_reducible refine Rf.ifNF ?_)
    | dsimp only [Rf.strB, Rf.intB, Rf.boolB, Rf.tupB, Rf.dicB, Rf.noneB]
    | (with_reducible refine Rf.wp_seq ?_)
    | (with_reducible refine Rf.wp_asg ?_)
    | (with_reducible refine Rf.wp_name ?_)
    | (with_reducible refine Rf.wp_ret ?_)
    | (with_reducible refine Rf.wp_sIf ?_)
    | (with_reducible refine Rf.wp_drop ?_)
    | (with_reducible refine Rf.wp_varD (by with_unfolding_all exact rfl) ?_)
    | (with_reducible refine Rf.wp_varL (by with_unfolding_all exact rfl) ?_)
    | (with_reducible refine Rf.wp_varT (by with_unfolding_all exact rfl) ?_)
    | (with_reducible refine Rf.wp_varLw (by with_unfolding_all exact rfl) ?_)
    | (with_reducible refine Rf.wp_varKt (by with_unfolding_all exact rfl) ?_)
    | (with_reducible refine Rf.wp_varK (by with_unfolding_all exact rfl) ?_)
    | (with_reducible refine Rf.wp_con ?_)
    | (with_reducible refine Rf.wp_bin ?_)
    | (with_reducible refine Rf.wp_B ?_)
    | (with_reducible refine Rf.isB_mk ?_)
    | (with_reducible refine Rf.wp_not ?_)
    | (with_reducible refine Rf.wp_if ?_)
    | (with_reducible refine Rf.wp_ok ?_)
    | (with_reducible refine Rf.nl_dat ?_)
    | (with_reducible refine Rf.nl_map ?_)
    | (with_reducible refine Rf.nl_cell ?_)
    | (with_reducible refine Rf.wp_yes ?_)
    | (with_reducible refine Rf.wp_tru ?_)
    | (with_reducible refine Rf.wp_andV ?_)
    | (with_reducible refine Rf.wp_orV ?_)
    | (with_reducible refine Rf.wp_notV ?_)
    | (with_reducible refine Rf.exTru (by with_unfolding_all exact rfl) ?_)
    | (with_reducible refine Rf.wp_neg ?_)
    | (with_reducible refine Rf.exInt ?_)
    | (with_reducible refine Rf.wp_chain ?_)
    | (with_reducible refine Rf.wp_cons ?_)
    | (with_reducible refine Rf.wp_nil ?_)
    | (with_reducible refine Rf.wp_tup ?_)
    | (with_reducible refine Rf.tp_dat (by with_unfolding_all exact rfl) (by with_unfolding_all exact rfl) ?_)
    | (with_reducible refine Rf.wp_lst ?_)
    | (with_reducible refine Rf.lp_dat (by with_unfolding_all exact rfl) (by with_unfolding_all exact rfl) ?_)
    | (with_reducible refine Rf.lp_cell (by with_unfolding_all exact rfl) ?_)
    | (with_reducible refine Rf.wp_CB ?_)
    | (with_reducible refine Rf.wp_call ?_)
    | (with_reducible refine Rf.wp_isi ?_)
    | (with_reducible refine Rf.isi_int ?_)
    | (with_reducible refine Rf.isi_bool ?_)
    | (with_reducible refine Rf.isi_tup ?_)
    | (with_reducible refine Rf.isi_str ?_)
    | (with_reducible refine Rf.isi_dic ?_)
    | (with_reducible refine Rf.wp_sl ?_)
    | (with_reducible refine Rf.wp_noPart ?_)
    | (with_reducible refine Rf.wp_part ?_)
    | (with_reducible refine Rf.wp_dic0t ?_)
    | (with_reducible refine Rf.wp_dic0f ?_)
    | (with_reducible refine Rf.wp_par ?_)
    | (with_reducible refine Rf.ex2 ?_)
    | (with_reducible refine Rf.wp_par3 ?_)
    | (with_reducible refine Rf.ex3 ?_)
    | (with_reducible refine Rf.wp_comp ?_)
    | (with_reducible refine Rf.wp_it ?_)
    | (with_reducible refine Rf.itd_tup ?_)
    | (with_reducible refine Rf.itd_lst ?_)
    | (with_reducible refine Rf.wp_for ?_)
    | (with_reducible refine Rf.wp_body ?_)
    | (with_reducible refine Rf.wp_rng1 ?_)
    | (with_reducible refine Rf.wp_rng2 ?_)
    | (with_reducible refine Rf.wp_sNil ?_)
    | (with_reducible refine Rf.wp_retN ?_)
    | (with_reducible refine Rf.wp_brk ?_)
    | (with_reducible refine Rf.wp_cnt ?_)
    | (with_reducible refine Rf.ifT ?_)
    | (with_reducible refine Rf.ifF ?_)
    | (with_reducible refine Rf.add_int ?_)
    | (with_reducible refine Rf.sub_int ?_)
    | ((with_reducible refine Rf.mod_int ?_ ?_); first | decide | omega)
    | ((with_reducible refine Rf.div_int ?_ ?_); first | decide | omega)
    | ((with_reducible refine Rf.mul_int ?_ ?_); first | (refine Rf.mulOk_l ?_; decide) | (refine Rf.mulOk_r ?_; decide) | (refine Rf.mulOk_l ?_; omega) | (refine Rf.mulOk_r ?_; omega))
    | (with_reducible refine Rf.lt_int ?_)
    | (with_reducible refine Rf.le_int ?_)
    | (with_reducible refine Rf.gt_int ?_)
    | (with_reducible refine Rf.ge_int ?_)
    | (with_reducible refine Rf.lt_str ?_)
    | (with_reducible refine Rf.eq_int ?_)
    | (with_reducible refine Rf.ne_int ?_)
    | (with_reducible refine Rf.eq_str ?_)
    | (with_reducible refine Rf.ne_str ?_)
    | (with_reducible refine Rf.isn_dat ?_)
    | (with_reducible refine Rf.isnt_dat ?_)
    | (with_reducible refine Rf.len_tup ?_)
    | (with_reducible refine Rf.len_lst ?_)
    | (with_reducible refine Rf.len_tw ?_)
    | (with_reducible refine Rf.len_lw ?_)
    | (with_reducible refine Rf.int_int ?_)
    | (with_reducible refine Rf.int_bool ?_)
    | (with_reducible refine Rf.abs_int ?_)
    | (with_reducible refine Rf.max_int ?_)
    | (with_reducible refine Rf.min_int ?_)
    | (with_reducible refine Rf.all_map ?_)
    | (with_reducible refine Rf.any_map ?_)
    | (with_reducible refine Rf.tuple_lst ?_)
    | (with_reducible refine Rf.tuple_tup ?_)
    | (with_reducible refine Rf.list_lst ?_)
    | (with_reducible refine Rf.list_tup ?_)
    | (with_reducible refine Rf.sl_tup ?_)
    | (with_reducible refine Rf.sl_lst ?_)
    | (with_reducible refine Rf.rt_same ?_))))
namespace Rf
/-- a and b, known to be false: what follows is asked once -/
theorem and_false {p : Bool} {m : M Bool} {bs : List Nat} {env : Env} {S : Store} {K : Bool → Store → Prop} {E : EK} (hK : K false S) (h : p = true → (m bs env S).wp (fun v S' => v = false ∧ S' = S) E) : (p = true → (m bs env S).wp K E) ∧ (p = false → (Out.ok false S).wp K E) :=
  ⟨fun z => (h z).imp fun v S' ⟨a, b⟩ => by subst a b; exact hK, fun _ => hK⟩
end Rf

namespace Rf
open PySem L2
section
variable {bs : List Nat} {E : EK} {N : Env → Store → Prop} {R : W → Store → Prop} {B C : Env → Store → Prop} {E' : Nat → List W → Env → Store → Prop}
theorem zip_at (a b : List W) (S : Store) (i : Nat) : (Iter.zip (.items a) (.items b)).next i S = some (((a.zip b)[i]?).map fun p => mkTup [p.1, p.2]) := by
  have e : (a.zip b)[i]? = match a[i]?, b[i]? with | some x, some y => some (x, y) | _, _ => none := by
    rw [List.zip, List.getElem?_zipWith]
    cases a[i]? <;> cases b[i]? <;> rfl
  rw [e]
  show (match some a[i]?, some b[i]? with | some (some x), some (some y) => _ | some none, some _ => _ | some _, some none => _ | _, _ => _) = _
  cases a[i]? <;> cases b[i]? <;> rfl
theorem zip_next_of {a b : List W} {pre post : List (W × W)} {S : Store} (h : a.zip b = pre ++ post) : (Iter.zip (.items a) (.items b)).next pre.length S = some (post.head?.map fun p => mkTup [p.1, p.2]) := by
  rw [zip_at, h]
  cases post <;> simp
def ZP (S : Store) (x y : W) (Q : Iter → Prop) : Prop := ∃ it, zipO S x y = some it ∧ Q it
theorem zp_tup {xs ys : List PyData} {S : Store} {Q : Iter → Prop} (q : Q (.zip (.items (xs.map .dat)) (.items (ys.map .dat)))) : ZP S (.dat (.tuple xs)) (.dat (.tuple ys)) Q := ⟨_, rfl, q⟩
theorem wp_mZip {ms : M (List W)} {env : Env} {S : Store} {Q : Iter → Store → Prop} (h : (ms bs env S).wp (fun ws S1 => ∃ x y, ws = [x, y] ∧ ZP S1 x y fun it => Q it S1) E) : (mZip ms bs env S).wp Q E := bind_wp (h.imp fun ws S1 ⟨x, y, e, it, e2, q⟩ => by
  subst e
  dsimp only
  rw [e2]; exact q)
/-- two generators, nothing changed -/
theorem wp_comp2U {α : Type} {f : α → W} {t t1 : TM} {c c1 : M Bool} {mi1 : M Iter} {vs1 : List Nat} {e : M W} {env : Env} {S : Store} (g : α → List W) {xs : List α} (hl : (xs.map g).flatten.length ≤ 100000)
    (step : ∀ x ∈ xs, ∀ acc : List W, acc.length + (g x).length ≤ 100000 → (t (f x) bs env S).wp (fun env1 S1 => (c bs env1 S1).wp (fun b S2 => b = true ∧ (mi1 bs env1 S2).wp (fun it1 S3 => (compG it1 t1 c1 e it1.fuel 0 acc bs (wipeE env1 vs1) S3).wp (fun a S4 => a = acc ++ g x ∧ S4 = S) NoE) NoE) NoE) NoE)
    {Q : List W → Store → Prop} (q : Q (xs.map g).flatten S) :
    ∀ (fuel : Nat) (pre post : List α), xs = pre ++ post → post.length < fuel → (compG2 (.items (xs.map f)) t c mi1 vs1 t1 c1 e fuel pre.length (pre.map g).flatten bs env S).wp Q E
  | 0, pre, post, hx, hf => by omega
  | fuel + 1, pre, post, hx, hf => by
    unfold compG2
    have hn : (Iter.items (xs.map f)).next pre.length S = some (post.head?.map f) := next_of hx
    simp only [hn]
    cases post with
    | nil =>
      rw [List.append_nil] at hx
      subst hx
      exact q
    | cons x post =>
      have hm : x ∈ xs := by rw [hx]; simp
      have e1 : (pre.map g).flatten.length + (g x).length ≤ 100000 := by
        have : ((xs.map g).flatten).length = (pre.map g).flatten.length + ((g x).length + ((post.map g).flatten).length) := by rw [hx]; simp
        omega
      refine bindC_wp ((step x hm _ e1).imp fun env1 S1 h1 => bindC_wp (h1.imp fun b S2 ⟨hb, h2⟩ => ?_))
      rw [if_pos hb]
      refine bindC_wp (h2.imp fun it1 S3 h3 => bindC_wp (h3.imp fun a S4 ⟨ha, hS⟩ => ?_))
      rw [ha, hS]
      have := wp_comp2U g hl step q fuel (pre ++ [x]) post (by simp [hx]) (by simp at hf; omega)
      simpa using this
theorem wp_comp2T {α : Type} {f : α → W} {t t1 : TM} {c c1 : M Bool} {mi1 : M Iter} {vs1 : List Nat} {e : M W} {env : Env} {S : Store} (g : α → List W) {xs : List α} (hl : (xs.map g).flatten.length ≤ 100000)
    (step : ∀ x ∈ xs, ∀ acc : List W, acc.length + (g x).length ≤ 100000 → (t (f x) bs env S).wp (fun env1 S1 => (c bs env1 S1).wp (fun b S2 => b = true ∧ (mi1 bs env1 S2).wp (fun it1 S3 => (compG it1 t1 c1 e it1.fuel 0 acc bs (wipeE env1 vs1) S3).wp (fun a S4 => a = acc ++ g x ∧ S4 = S) NoE) NoE) NoE) NoE)
    {Q : List W → Store → Prop} (q : Q (xs.map g).flatten S) : (compG2 (.items (xs.map f)) t c mi1 vs1 t1 c1 e (Iter.items (xs.map f)).fuel 0 [] bs env S).wp Q E :=
  wp_comp2U g hl step q _ [] xs rfl (by simp [Iter.fuel])
/-- ranges -/
def RG3 (Q : Int → Int → Int → Store → Prop) (ws : List W) (S : Store) : Prop := ∃ i j d, ws = [.dat (.int i), .dat (.int j), .dat (.int d)] ∧ L2.RgC i j d (rgN i j d) ∧ Q i j d S
def RGW (Q : Int → Int → Int → Store → Prop) (w : W) (S : Store) : Prop := ∃ i j d, w = .rg i j d ∧ L2.RgC i j d (rgN i j d) ∧ Q i j d S
end
end Rf

namespace V
open PySem L2 PyProof.Rows Rf
def top (i : Nat) : Stmt := PySem.Challenge.pw_everycut_k87_whole_promises_kept_or_brok.main.body.getD i (.Pass ⟨0, 0, 0, 0⟩)
structure Txt (g : Gx) (mg : Str → Option Value) (base : Heap) (a : Nat → Addr) (fd : Nat → FuncData) : Prop where
  b_isinstance : mg "isinstance" = none
  b_bool : mg "bool" = none
  b_int : mg "int" = none
  b_len : mg "len" = none
  c_MAX_NAME : ∃ u, mg "MAX_NAME" = some u ∧ RelV (.int 8) u
  b_str : mg "str" = none
  c_LETTERS : ∃ u, mg "LETTERS" = some u ∧ RelV (.str "abcdefghijklmnopqrstuvwxyz") u
  b_all : mg "all" = none
  c_MOST_FIGURE : ∃ u, mg "MOST_FIGURE" = some u ∧ RelV (.int 9) u
  c_MAX_CELLS : ∃ u, mg "MAX_CELLS" = some u ∧ RelV (.int 6) u
  b_tuple : mg "tuple" = none
  c_MAX_WRITES : ∃ u, mg "MAX_WRITES" = some u ∧ RelV (.int 8) u
  b_range : mg "range" = none
  c_MAX_RULES : ∃ u, mg "MAX_RULES" = some u ∧ RelV (.int 24) u
  b_max : mg "max" = none
  b_list : mg "list" = none
  b_enumerate : mg "enumerate" = none
  b_zip : mg "zip" = none
  b_abs : mg "abs" = none
  b_sorted : mg "sorted" = none
  b_set : mg "set" = none
  b_min : mg "min" = none
  f_is_number : Fun g.K "is_number" "is_number" (top 5) (a 0) (fd 0)
  n_is_number : Binds g.K (fd 0) ["value", "low", "high"] []
  g_is_number : mg "is_number" = some (.ref (a 0))
  f_is_name : Fun g.K "is_name" "is_name" (top 9) (a 1) (fd 1)
  n_is_name : Binds g.K (fd 1) ["value"] []
  g_is_name : mg "is_name" = some (.ref (a 1))
  f__is_figure : Fun g.K "_is_figure" "_is_figure" (top 15) (a 2) (fd 2)
  n__is_figure : Binds g.K (fd 2) ["value"] []
  g__is_figure : mg "_is_figure" = some (.ref (a 2))
  f__check_picture : Fun g.K "_check_picture" "_check_picture" (top 16) (a 3) (fd 3)
  n__check_picture : Binds g.K (fd 3) ["picture"] []
  g__check_picture : mg "_check_picture" = some (.ref (a 3))
  f__is_write : Fun g.K "_is_write" "_is_write" (top 17) (a 4) (fd 4)
  n__is_write : Binds g.K (fd 4) ["cells", "value"] []
  g__is_write : mg "_is_write" = some (.ref (a 4))
  f__check_writes : Fun g.K "_check_writes" "_check_writes" (top 18) (a 5) (fd 5)
  n__check_writes : Binds g.K (fd 5) ["picture", "writes"] []
  g__check_writes : mg "_check_writes" = some (.ref (a 5))
  f__check_gaps : Fun g.K "_check_gaps" "_check_gaps" (top 19) (a 6) (fd 6)
  n__check_gaps : Binds g.K (fd 6) ["writes", "gaps"] []
  g__check_gaps : mg "_check_gaps" = some (.ref (a 6))
  f__is_pattern : Fun g.K "_is_pattern" "_is_pattern" (top 20) (a 7) (fd 7)
  n__is_pattern : Binds g.K (fd 7) ["cells", "value"] []
  g__is_pattern : mg "_is_pattern" = some (.ref (a 7))
  f__is_rule : Fun g.K "_is_rule" "_is_rule" (top 21) (a 8) (fd 8)
  n__is_rule : Binds g.K (fd 8) ["cells", "value"] []
  g__is_rule : mg "_is_rule" = some (.ref (a 8))
  f__check_rules : Fun g.K "_check_rules" "_check_rules" (top 22) (a 9) (fd 9)
  n__check_rules : Binds g.K (fd 9) ["picture", "rules"] []
  g__check_rules : mg "_check_rules" = some (.ref (a 9))
  f__are_ascending_names : Fun g.K "_are_ascending_names" "_are_ascending_names" (top 23) (a 10) (fd 10)
  n__are_ascending_names : Binds g.K (fd 10) ["value"] []
  g__are_ascending_names : mg "_are_ascending_names" = some (.ref (a 10))
  f__check_promise : Fun g.K "_check_promise" "_check_promise" (top 24) (a 11) (fd 11)
  n__check_promise : Binds g.K (fd 11) ["writes", "promise"] []
  g__check_promise : mg "_check_promise" = some (.ref (a 11))
  f__check_told : Fun g.K "_check_told" "_check_told" (top 25) (a 12) (fd 12)
  n__check_told : Binds g.K (fd 12) ["picture", "writes", "gaps"] []
  g__check_told : mg "_check_told" = some (.ref (a 12))
  f__check_plan : Fun g.K "_check_plan" "_check_plan" (top 26) (a 13) (fd 13)
  n__check_plan : Binds g.K (fd 13) ["picture", "writes", "gaps", "rules", "promise"] []
  g__check_plan : mg "_check_plan" = some (.ref (a 13))
  f__last_gap : Fun g.K "_last_gap" "_last_gap" (top 27) (a 14) (fd 14)
  n__last_gap : Binds g.K (fd 14) ["gaps", "moment"] []
  g__last_gap : mg "_last_gap" = some (.ref (a 14))
  f__versions : Fun g.K "_versions" "_versions" (top 28) (a 15) (fd 15)
  n__versions : Binds g.K (fd 15) ["picture", "writes", "last", "moment"] []
  g__versions : mg "_versions" = some (.ref (a 15))
  f__cuts_with_pictures : Fun g.K "_cuts_with_pictures" "_cuts_with_pictures" (top 29) (a 16) (fd 16)
  n__cuts_with_pictures : Binds g.K (fd 16) ["versions"] []
  g__cuts_with_pictures : mg "_cuts_with_pictures" = some (.ref (a 16))
  f__picture_left : Fun g.K "_picture_left" "_picture_left" (top 30) (a 17) (fd 17)
  n__picture_left : Binds g.K (fd 17) ["versions", "cut"] []
  g__picture_left : mg "_picture_left" = some (.ref (a 17))
  f__fits : Fun g.K "_fits" "_fits" (top 31) (a 18) (fd 18)
  n__fits : Binds g.K (fd 18) ["picture", "pattern"] []
  g__fits : mg "_fits" = some (.ref (a 18))
  f__meaning : Fun g.K "_meaning" "_meaning" (top 32) (a 19) (fd 19)
  n__meaning : Binds g.K (fd 19) ["picture", "rules"] []
  g__meaning : mg "_meaning" = some (.ref (a 19))
  f_Plan____init__ : Fun g.K "__init__" "Plan.__init__" (inClass (top 33) 0) (a 20) (fd 20)
  n_Plan____init__ : Binds g.K (fd 20) ["self", "picture", "writes", "rules", "promise"] []
  me_Plan____init__ : Meth g.K (g.cls 0) "__init__" (a 20)
  f_Plan__look : Fun g.K "look" "Plan.look" (inClass (top 33) 2) (a 22) (fd 22)
  n_Plan__look : Binds g.K (fd 22) ["self", "last", "moment"] []
  me_Plan__look : Meth g.K (g.cls 0) "look" (a 22)
  f_Plan__broken : Fun g.K "broken" "Plan.broken" (inClass (top 33) 1) (a 21) (fd 21)
  n_Plan__broken : Binds g.K (fd 21) ["self", "last", "moment"] []
  me_Plan__broken : Meth g.K (g.cls 0) "broken" (a 21)
  f_Plan__broken_by : Fun g.K "broken_by" "Plan.broken_by" (inClass (top 33) 3) (a 23) (fd 23)
  n_Plan__broken_by : Binds g.K (fd 23) ["self", "gaps"] []
  me_Plan__broken_by : Meth g.K (g.cls 0) "broken_by" (a 23)
  f_break_of : Fun g.K "break_of" "break_of" (top 34) (a 24) (fd 24)
  n_break_of : Binds g.K (fd 24) ["picture", "writes", "gaps", "rules", "promise"] []
  g_break_of : mg "break_of" = some (.ref (a 24))
  f_keeps : Fun g.K "keeps" "keeps" (top 35) (a 25) (fd 25)
  n_keeps : Binds g.K (fd 25) ["picture", "writes", "gaps", "rules", "promise"] []
  g_keeps : mg "keeps" = some (.ref (a 25))
  f_is_break : Fun g.K "is_break" "is_break" (top 36) (a 26) (fd 26)
  n_is_break : Binds g.K (fd 26) ["picture", "writes", "gaps", "rules", "promise", "value"] []
  g_is_break : mg "is_break" = some (.ref (a 26))
  f__law_bowl : Fun g.K "_law_bowl" "_law_bowl" (top 38) (a 27) (fd 27)
  n__law_bowl : Binds g.K (fd 27) ["script", "spot"] []
  g__law_bowl : mg "_law_bowl" = some (.ref (a 27))
  f__law_dip : Fun g.K "_law_dip" "_law_dip" (top 39) (a 28) (fd 28)
  n__law_dip : Binds g.K (fd 28) ["bowl", "total"] []
  g__law_dip : mg "_law_dip" = some (.ref (a 28))
  f__law_taste : Fun g.K "_law_taste" "_law_taste" (top 40) (a 29) (fd 29)
  n__law_taste : Binds g.K (fd 29) ["bowl", "items"] []
  g__law_taste : mg "_law_taste" = some (.ref (a 29))
  f__law_drawn : Fun g.K "_law_drawn" "_law_drawn" (top 41) (a 30) (fd 30)
  n__law_drawn : Binds g.K (fd 30) ["bowl"] []
  g__law_drawn : mg "_law_drawn" = some (.ref (a 30))
  f__law_gaps : Fun g.K "_law_gaps" "_law_gaps" (top 42) (a 31) (fd 31)
  n__law_gaps : Binds g.K (fd 31) ["bowl", "many"] []
  g__law_gaps : mg "_law_gaps" = some (.ref (a 31))
  f__law_rows : Fun g.K "_law_rows" "_law_rows" (top 43) (a 32) (fd 32)
  n__law_rows : Binds g.K (fd 32) ["picture", "writes", "gaps", "moment"] []
  g__law_rows : mg "_law_rows" = some (.ref (a 32))
  f__law_all : Fun g.K "_law_all" "_law_all" (top 44) (a 33) (fd 33)
  n__law_all : Binds g.K (fd 33) ["rows"] []
  g__law_all : mg "_law_all" = some (.ref (a 33))
  f__law_rules : Fun g.K "_law_rules" "_law_rules" (top 45) (a 34) (fd 34)
  n__law_rules : Binds g.K (fd 34) ["bowl", "size"] []
  g__law_rules : mg "_law_rules" = some (.ref (a 34))
  f__law_meaning : Fun g.K "_law_meaning" "_law_meaning" (top 46) (a 35) (fd 35)
  n__law_meaning : Binds g.K (fd 35) ["picture", "rules"] []
  g__law_meaning : mg "_law_meaning" = some (.ref (a 35))
  f__law_names : Fun g.K "_law_names" "_law_names" (top 47) (a 36) (fd 36)
  n__law_names : Binds g.K (fd 36) ["picture", "writes", "gaps", "rules", "moment"] []
  g__law_names : mg "_law_names" = some (.ref (a 36))
  f__law_promise : Fun g.K "_law_promise" "_law_promise" (top 48) (a 37) (fd 37)
  n__law_promise : Binds g.K (fd 37) ["bowl", "picture", "writes", "gaps", "rules"] []
  g__law_promise : mg "_law_promise" = some (.ref (a 37))
  f__law_is_kept : Fun g.K "_law_is_kept" "_law_is_kept" (top 49) (a 38) (fd 38)
  n__law_is_kept : Binds g.K (fd 38) ["picture", "writes", "gaps", "rules", "promise"] []
  g__law_is_kept : mg "_law_is_kept" = some (.ref (a 38))
  f__law_is_whole : Fun g.K "_law_is_whole" "_law_is_whole" (top 50) (a 39) (fd 39)
  n__law_is_whole : Binds g.K (fd 39) ["value", "most"] []
  g__law_is_whole : mg "_law_is_whole" = some (.ref (a 39))
  f__law_is_due : Fun g.K "_law_is_due" "_law_is_due" (top 51) (a 40) (fd 40)
  n__law_is_due : Binds g.K (fd 40) ["picture", "writes", "gaps", "rules", "promise", "value"] []
  g__law_is_due : mg "_law_is_due" = some (.ref (a 40))
  f__law_near : Fun g.K "_law_near" "_law_near" (top 52) (a 41) (fd 41)
  n__law_near : Binds g.K (fd 41) ["bowl", "picture", "writes", "gaps", "told"] []
  g__law_near : mg "_law_near" = some (.ref (a 41))
  f__law_right : Fun g.K "_law_right" "_law_right" (top 53) (a 42) (fd 42)
  n__law_right : Binds g.K (fd 42) ["bowl"] []
  g__law_right : mg "_law_right" = some (.ref (a 42))
  f_law : Fun g.K "law" "law" (top 54) (a 43) (fd 43)
  n_law : Binds g.K (fd 43) ["script"] []
  g_law : mg "law" = some (.ref (a 43))
  cl_Plan : Cls g.K (g.cls 0)
  mg_Plan : mg "Plan" = some (.ref (g.cls 0))
  mk_Plan : Mk g.K (g.cls 0) (a 20)
  gx_InvalidPicture : mg "InvalidPicture" = some (.ref (g.cls 50))
  kx_InvalidPicture : PySem.W.keepIn g.K (.ref (g.cls 50)) = true
  qx_InvalidPicture : PySem.W.excIn g.K (g.cls 50) [.type "ValueError", .type "Exception", .type "BaseException", .type "object"] "ValueError.__new__" = true
  bx_InvalidPicture : PySem.W.subIn g.K (.ref (g.cls 50)) (.type "BaseException") = some true
  tx_InvalidPicture : PySem.W.typeIn g.K (.ref (g.cls 50)) = some (.type "type")
  gx_InvalidOperation : mg "InvalidOperation" = some (.ref (g.cls 51))
  kx_InvalidOperation : PySem.W.keepIn g.K (.ref (g.cls 51)) = true
  qx_InvalidOperation : PySem.W.excIn g.K (g.cls 51) [.type "ValueError", .type "Exception", .type "BaseException", .type "object"] "ValueError.__new__" = true
  bx_InvalidOperation : PySem.W.subIn g.K (.ref (g.cls 51)) (.type "BaseException") = some true
  tx_InvalidOperation : PySem.W.typeIn g.K (.ref (g.cls 51)) = some (.type "type")
  na_Plan_begun : NoAttr g.K (g.cls 0) "begun"
  na_Plan_writes : NoAttr g.K (g.cls 0) "writes"
  na_Plan_rules : NoAttr g.K (g.cls 0) "rules"
  na_Plan_promise : NoAttr g.K (g.cls 0) "promise"
  na_Plan_known : NoAttr g.K (g.cls 0) "known"
section
variable {P : Program} {w : World} {g : Gx} {mg : Str → Option Value} {base : Heap} {a : Nat → Addr} {fd : Nat → FuncData}
theorem at_begun (T : Txt g mg base a fd) : ∀ c ∈ ([0] : List Nat), Cls g.K (g.cls c) ∧ NoAttr g.K (g.cls c) "begun" := by
  intro c hc
  simp only [List.mem_cons, List.not_mem_nil, or_false] at hc
  rcases hc with rfl
  · exact ⟨T.cl_Plan, T.na_Plan_begun⟩
theorem at_writes (T : Txt g mg base a fd) : ∀ c ∈ ([0] : List Nat), Cls g.K (g.cls c) ∧ NoAttr g.K (g.cls c) "writes" := by
  intro c hc
  simp only [List.mem_cons, List.not_mem_nil, or_false] at hc
  rcases hc with rfl
  · exact ⟨T.cl_Plan, T.na_Plan_writes⟩
theorem at_rules (T : Txt g mg base a fd) : ∀ c ∈ ([0] : List Nat), Cls g.K (g.cls c) ∧ NoAttr g.K (g.cls c) "rules" := by
  intro c hc
  simp only [List.mem_cons, List.not_mem_nil, or_false] at hc
  rcases hc with rfl
  · exact ⟨T.cl_Plan, T.na_Plan_rules⟩
theorem at_promise (T : Txt g mg base a fd) : ∀ c ∈ ([0] : List Nat), Cls g.K (g.cls c) ∧ NoAttr g.K (g.cls c) "promise" := by
  intro c hc
  simp only [List.mem_cons, List.not_mem_nil, or_false] at hc
  rcases hc with rfl
  · exact ⟨T.cl_Plan, T.na_Plan_promise⟩
theorem at_known (T : Txt g mg base a fd) : ∀ c ∈ ([0] : List Nat), Cls g.K (g.cls c) ∧ NoAttr g.K (g.cls c) "known" := by
  intro c hc
  simp only [List.mem_cons, List.not_mem_nil, or_false] at hc
  rcases hc with rfl
  · exact ⟨T.cl_Plan, T.na_Plan_known⟩
theorem sc_is_number : FnScope ["value", "low", "high"] ["value", "low", "high"] (defScope (top 5)) := ⟨rfl, rfl, rfl, by decide +kernel, rfl, by decide +kernel, by decide +kernel⟩
def m_is_number : MS := (sRet (mAndV (mIsi "int" (mVar 0)) (mAndV (mNotV (mIsi "bool" (mVar 0))) (mChain (ordF .le) (ordF .le) (mVar 1) (mVar 0) (mVar 2)))))
def F_is_number : FnT := fnM 3 3 m_is_number
theorem ok_is_number (T : Txt g mg base a fd) : FnG P w g.K mg base 1 (a 0) (fd 0) ["value", "low", "high"] (spF g F_is_number) := fn_ok T.f_is_number sc_is_number fun cdv A outer s H E hr hc =>
  (rss_one (rs_ret (re_and rfl (re_isi rfl rfl T.b_isinstance rfl (re_var (i := 0)) rfl T.b_int rfl) (re_and rfl (re_not rfl (re_isi rfl rfl T.b_isinstance rfl (re_var (i := 0)) rfl T.b_bool rfl)) (re_one (re_chain (ro_ord .le rfl (un100 hr)) (ro_ord .le rfl (un100 hr)) (re_var (i := 1)) (re_var (i := 0)) (re_var (i := 2))))))))
theorem sc_is_name : FnScope ["value", "letter"] ["value"] (defScope (top 9)) := ⟨rfl, rfl, rfl, by decide +kernel, rfl, by decide +kernel, by decide +kernel⟩
def m_is_name : MS := (sSeq (sIf (mOr (mNot (mTru (mIsi "str" (mVar 0)))) (mNot (mB (mChain (ordF .le) (ordF .le) (mCon (.int 1)) (mCB (un lenW) (mCons (mVar 0) mNil)) (mCon (.int 8)))))) (sRet (mCon (.bool false))) sNil) (sRet (mCB (un allF) (mCons (mComp false (mItS (mVar 0)) [1] (tName 1) mYes (mBin (inAF false) (mVar 1) (mCon (.str "abcdefghijklmnopqrstuvwxyz")))) mNil))))
def F_is_name : FnT := fnM 2 1 m_is_name
theorem ok_is_name (T : Txt g mg base a fd) : FnG P w g.K mg base 1 (a 1) (fd 1) ["value"] (spF g F_is_name) := fn_ok T.f_is_name sc_is_name fun cdv A outer s H E hr hc =>
  (rss_cons (rs_if (PW.pt (rw_or (rt_not (rt_tru rfl (re_isi rfl rfl T.b_isinstance rfl (re_var (i := 0)) rfl T.b_str rfl))) (rw_or1 (rt_not (rt_chain (ro_ord .le rfl (un100 hr)) (ro_ord .le rfl (un100 hr)) re_int (re_callB (rc_len rfl) rfl T.b_len rfl (ra_cons (re_var (i := 0)) ra_nil)) (re_globE rfl T.c_MAX_NAME fun _ => .int _)))))) (rss_one (rs_ret re_bl)) rss_nil)
    (rss_one (rs_ret (re_callB (rc_all rfl rfl) rfl T.b_all rfl (ra_cons (re_lc (k := false) rfl sc_is_name.nd (own := [("letter", 1)]) (blkOk_by (by rfl)) (ri_all rfl (re_var (i := 0))) (fun s H C cl fp => (rc_name (i := 1) sc_is_name.nd)) (fun s H C cl fp => rts_nil) (fun s H C cl fp => (re_cmp (ro_inA rfl (un100 hr)) (re_var (i := 1)) (re_globE rfl T.c_LETTERS fun _ => .str _)))) ra_nil)))))
theorem sc__is_figure : FnScope ["value"] ["value"] (defScope (top 15)) := ⟨rfl, rfl, rfl, by decide +kernel, rfl, by decide +kernel, by decide +kernel⟩
def m__is_figure : MS := (sRet (mCall F_is_number (mCons (mVar 0) (mCons (mCon (.int 0)) (mCons (mCon (.int 9)) mNil)))))
def F__is_figure : FnT := fnM 1 1 m__is_figure
theorem ok__is_figure (T : Txt g mg base a fd) : FnG P w g.K mg base 2 (a 2) (fd 2) ["value"] (spF g F__is_figure) := fn_ok T.f__is_figure sc__is_figure fun cdv A outer s H E hr hc =>
  (rss_one (rs_ret (re_call (takes_of rfl rfl rfl rfl) (ok_is_number T) (hr.mono (by decide)) rfl T.g_is_number T.f_is_number.kp T.n_is_number (ra_cons (re_var (i := 0)) (ra_cons re_int (ra_cons (re_globE rfl T.c_MOST_FIGURE fun _ => .int _) ra_nil))))))
theorem sc__check_picture : FnScope ["picture", "figure"] ["picture"] (defScope (top 16)) := ⟨rfl, rfl, rfl, by decide +kernel, rfl, by decide +kernel, by decide +kernel⟩
def m__check_picture : MS := (sSeq (sIf (mOr (mNot (mTru (mIsi "tuple" (mVar 0)))) (mNot (mB (mChain (ordF .le) (ordF .le) (mCon (.int 1)) (mCB (un lenW) (mCons (mVar 0) mNil)) (mCon (.int 6)))))) (sRaise 50) sNil) (sIf (mNot (mTru (mCB (un allF) (mCons (mComp false (mItS (mVar 0)) [1] (tName 1) mYes (mCall F__is_figure (mCons (mVar 1) mNil))) mNil)))) (sRaise 50) sNil))
def F__check_picture : FnT := fnM 2 1 m__check_picture
theorem ok__check_picture (T : Txt g mg base a fd) : FnG P w g.K mg base 3 (a 3) (fd 3) ["picture"] (spF g F__check_picture) := fn_ok T.f__check_picture sc__check_picture fun cdv A outer s H E hr hc =>
  (rss_cons (rs_if (PW.pt (rw_or (rt_not (rt_tru rfl (re_isi rfl rfl T.b_isinstance rfl (re_var (i := 0)) rfl T.b_tuple rfl))) (rw_or1 (rt_not (rt_chain (ro_ord .le rfl (un100 hr)) (ro_ord .le rfl (un100 hr)) re_int (re_callB (rc_len rfl) rfl T.b_len rfl (ra_cons (re_var (i := 0)) ra_nil)) (re_globE rfl T.c_MAX_CELLS fun _ => .int _)))))) (rss_one (rs_raiseT (c := 50) rfl (takes_of rfl rfl rfl rfl) PySem.F.excBase_ValueError T.qx_InvalidPicture T.gx_InvalidPicture T.kx_InvalidPicture (raises_own T.bx_InvalidPicture T.tx_InvalidPicture) rfl)) rss_nil)
    (rss_one (rs_if (rt_not (rt_tru rfl (re_callB (rc_all rfl rfl) rfl T.b_all rfl (ra_cons (re_lc (k := false) rfl sc__check_picture.nd (own := [("figure", 1)]) (blkOk_by (by rfl)) (ri_all rfl (re_var (i := 0))) (fun s H C cl fp => (rc_name (i := 1) sc__check_picture.nd)) (fun s H C cl fp => rts_nil) (fun s H C cl fp => (re_call takes0 (ok__is_figure T) (hr.mono (by decide)) rfl T.g__is_figure T.f__is_figure.kp T.n__is_figure (ra_cons (re_var (i := 1)) ra_nil)))) ra_nil)))) (rss_one (rs_raiseT (c := 50) rfl (takes_of rfl rfl rfl rfl) PySem.F.excBase_ValueError T.qx_InvalidPicture T.gx_InvalidPicture T.kx_InvalidPicture (raises_own T.bx_InvalidPicture T.tx_InvalidPicture) rfl)) rss_nil)))
theorem sc__is_write : FnScope ["cells", "value"] ["cells", "value"] (defScope (top 17)) := ⟨rfl, rfl, rfl, by decide +kernel, rfl, by decide +kernel, by decide +kernel⟩
def m__is_write : MS := (sSeq (sIf (mOr (mNot (mTru (mIsi "tuple" (mVar 1)))) (mB (mBin (eqF true) (mCB (un lenW) (mCons (mVar 1) mNil)) (mCon (.int 2))))) (sRet (mCon (.bool false))) sNil) (sRet (mAndV (mCall F_is_number (mCons (mBin ixF (mVar 1) (mCon (.int 0))) (mCons (mCon (.int 0)) (mCons (mBin subF (mVar 0) (mCon (.int 1))) mNil)))) (mCall F__is_figure (mCons (mBin ixF (mVar 1) (mCon (.int 1))) mNil)))))
def F__is_write : FnT := fnM 2 2 m__is_write
theorem ok__is_write (T : Txt g mg base a fd) : FnG P w g.K mg base 3 (a 4) (fd 4) ["cells", "value"] (spF g F__is_write) := fn_ok T.f__is_write sc__is_write fun cdv A outer s H E hr hc =>
  (rss_cons (rs_if (PW.pt (rw_or (rt_not (rt_tru rfl (re_isi rfl rfl T.b_isinstance rfl (re_var (i := 1)) rfl T.b_tuple rfl))) (rw_or1 (rt_cmp (ro_ne rfl (un100 hr)) (re_callB (rc_len rfl) rfl T.b_len rfl (ra_cons (re_var (i := 1)) ra_nil)) re_int)))) (rss_one (rs_ret re_bl)) rss_nil)
    (rss_one (rs_ret (re_and rfl (re_call (takes_of rfl rfl rfl rfl) (ok_is_number T) (hr.mono (by decide)) rfl T.g_is_number T.f_is_number.kp T.n_is_number (ra_cons (re_ix rfl (un100 hr) (re_var (i := 1)) re_int) (ra_cons re_int (ra_cons (re_bin ro_sub (re_var (i := 0)) re_int) ra_nil)))) (re_one (re_call (takes_of rfl rfl rfl rfl) (ok__is_figure T) (hr.mono (by decide)) rfl T.g__is_figure T.f__is_figure.kp T.n__is_figure (ra_cons (re_ix rfl (un100 hr) (re_var (i := 1)) re_int) ra_nil)))))))
theorem sc__check_writes : FnScope ["picture", "writes", "write"] ["picture", "writes"] (defScope (top 18)) := ⟨rfl, rfl, rfl, by decide +kernel, rfl, by decide +kernel, by decide +kernel⟩
def m__check_writes : MS := (sSeq (sIf (mOr (mNot (mTru (mIsi "tuple" (mVar 1)))) (mB (mBin (ordF .gt) (mCB (un lenW) (mCons (mVar 1) mNil)) (mCon (.int 8))))) (sRaise 51) sNil) (sIf (mNot (mTru (mCB (un allF) (mCons (mComp false (mItS (mVar 1)) [2] (tName 2) mYes (mCall F__is_write (mCons (mCB (un lenW) (mCons (mVar 0) mNil)) (mCons (mVar 2) mNil)))) mNil)))) (sRaise 51) sNil))
def F__check_writes : FnT := fnM 3 2 m__check_writes
theorem ok__check_writes (T : Txt g mg base a fd) : FnG P w g.K mg base 4 (a 5) (fd 5) ["picture", "writes"] (spF g F__check_writes) := fn_ok T.f__check_writes sc__check_writes fun cdv A outer s H E hr hc =>
  (rss_cons (rs_if (PW.pt (rw_or (rt_not (rt_tru rfl (re_isi rfl rfl T.b_isinstance rfl (re_var (i := 1)) rfl T.b_tuple rfl))) (rw_or1 (rt_cmp (ro_ord .gt rfl (un100 hr)) (re_callB (rc_len rfl) rfl T.b_len rfl (ra_cons (re_var (i := 1)) ra_nil)) (re_globE rfl T.c_MAX_WRITES fun _ => .int _))))) (rss_one (rs_raiseT (c := 51) rfl (takes_of rfl rfl rfl rfl) PySem.F.excBase_ValueError T.qx_InvalidOperation T.gx_InvalidOperation T.kx_InvalidOperation (raises_own T.bx_InvalidOperation T.tx_InvalidOperation) rfl)) rss_nil)
    (rss_one (rs_if (rt_not (rt_tru rfl (re_callB (rc_all rfl rfl) rfl T.b_all rfl (ra_cons (re_lc (k := false) rfl sc__check_writes.nd (own := [("write", 2)]) (blkOk_by (by rfl)) (ri_all rfl (re_var (i := 1))) (fun s H C cl fp => (rc_name (i := 2) sc__check_writes.nd)) (fun s H C cl fp => rts_nil) (fun s H C cl fp => (re_call takes0 (ok__is_write T) (hr.mono (by decide)) rfl T.g__is_write T.f__is_write.kp T.n__is_write (ra_cons (re_callB (rc_len rfl) rfl T.b_len rfl (ra_cons (re_var (i := 0)) ra_nil)) (ra_cons (re_var (i := 2)) ra_nil))))) ra_nil)))) (rss_one (rs_raiseT (c := 51) rfl (takes_of rfl rfl rfl rfl) PySem.F.excBase_ValueError T.qx_InvalidOperation T.gx_InvalidOperation T.kx_InvalidOperation (raises_own T.bx_InvalidOperation T.tx_InvalidOperation) rfl)) rss_nil)))
theorem sc__check_gaps : FnScope ["writes", "gaps", "at", "gap"] ["writes", "gaps"] (defScope (top 19)) := ⟨rfl, rfl, rfl, by decide +kernel, rfl, by decide +kernel, by decide +kernel⟩
def m__check_gaps : MS := (sSeq (sIf (mOr (mNot (mTru (mIsi "tuple" (mVar 1)))) (mNot (mTru (mCB (un allF) (mCons (mComp false (mItS (mVar 1)) [3] (tName 3) mYes (mCall F_is_number (mCons (mVar 3) (mCons (mCon (.int 1)) (mCons (mCB (un lenW) (mCons (mVar 0) mNil)) mNil))))) mNil))))) (sRaise 51) sNil) (sIf (mNot (mTru (mCB (un allF) (mCons (mComp false (mRng2 (mCons (mCon (.int 1)) (mCons (mCB (un lenW) (mCons (mVar 1) mNil)) mNil))) [2] (tName 2) mYes (mBin (ordF .lt) (mBin ixF (mVar 1) (mBin subF (mVar 2) (mCon (.int 1)))) (mBin ixF (mVar 1) (mVar 2)))) mNil)))) (sRaise 51) sNil))
def F__check_gaps : FnT := fnM 4 2 m__check_gaps
theorem ok__check_gaps (T : Txt g mg base a fd) : FnG P w g.K mg base 2 (a 6) (fd 6) ["writes", "gaps"] (spF g F__check_gaps) := fn_ok T.f__check_gaps sc__check_gaps fun cdv A outer s H E hr hc =>
  (rss_cons (rs_if (PW.pt (rw_or (rt_not (rt_tru rfl (re_isi rfl rfl T.b_isinstance rfl (re_var (i := 1)) rfl T.b_tuple rfl))) (rw_or1 (rt_not (rt_tru rfl (re_callB (rc_all rfl rfl) rfl T.b_all rfl (ra_cons (re_lc (k := false) rfl sc__check_gaps.nd (own := [("gap", 3)]) (blkOk_by (by rfl)) (ri_all rfl (re_var (i := 1))) (fun s H C cl fp => (rc_name (i := 3) sc__check_gaps.nd)) (fun s H C cl fp => rts_nil) (fun s H C cl fp => (re_call takes0 (ok_is_number T) (hr.mono (by decide)) rfl T.g_is_number T.f_is_number.kp T.n_is_number (ra_cons (re_var (i := 3)) (ra_cons re_int (ra_cons (re_callB (rc_len rfl) rfl T.b_len rfl (ra_cons (re_var (i := 0)) ra_nil)) ra_nil)))))) ra_nil))))))) (rss_one (rs_raiseT (c := 51) rfl (takes_of rfl rfl rfl rfl) PySem.F.excBase_ValueError T.qx_InvalidOperation T.gx_InvalidOperation T.kx_InvalidOperation (raises_own T.bx_InvalidOperation T.tx_InvalidOperation) rfl)) rss_nil)
    (rss_one (rs_if (rt_not (rt_tru rfl (re_callB (rc_all rfl rfl) rfl T.b_all rfl (ra_cons (re_lc (k := false) rfl sc__check_gaps.nd (own := [("at", 2)]) (blkOk_by (by rfl)) (ri_range2 rfl T.b_range (ra_cons re_int (ra_cons (re_callB (rc_len rfl) rfl T.b_len rfl (ra_cons (re_var (i := 1)) ra_nil)) ra_nil))) (fun s H C cl fp => (rc_name (i := 2) sc__check_gaps.nd)) (fun s H C cl fp => rts_nil) (fun s H C cl fp => (re_cmp (ro_ord .lt rfl (un100 hr)) (re_ix rfl (un100 hr) (re_var (i := 1)) (re_bin ro_sub (re_var (i := 2)) re_int)) (re_ix rfl (un100 hr) (re_var (i := 1)) (re_var (i := 2)))))) ra_nil)))) (rss_one (rs_raiseT (c := 51) rfl (takes_of rfl rfl rfl rfl) PySem.F.excBase_ValueError T.qx_InvalidOperation T.gx_InvalidOperation T.kx_InvalidOperation (raises_own T.bx_InvalidOperation T.tx_InvalidOperation) rfl)) rss_nil)))
theorem sc__is_pattern : FnScope ["cells", "value", "figure"] ["cells", "value"] (defScope (top 20)) := ⟨rfl, rfl, rfl, by decide +kernel, rfl, by decide +kernel, by decide +kernel⟩
def m__is_pattern : MS := (sSeq (sIf (mOr (mNot (mTru (mIsi "tuple" (mVar 1)))) (mB (mBin (eqF true) (mCB (un lenW) (mCons (mVar 1) mNil)) (mVar 0)))) (sRet (mCon (.bool false))) sNil) (sRet (mCB (un allF) (mCons (mComp false (mItS (mVar 1)) [2] (tName 2) mYes (mOrV (mBin (isNF false) (mVar 2) (mCon .none)) (mCall F__is_figure (mCons (mVar 2) mNil)))) mNil))))
def F__is_pattern : FnT := fnM 3 2 m__is_pattern
theorem ok__is_pattern (T : Txt g mg base a fd) : FnG P w g.K mg base 3 (a 7) (fd 7) ["cells", "value"] (spF g F__is_pattern) := fn_ok T.f__is_pattern sc__is_pattern fun cdv A outer s H E hr hc =>
  (rss_cons (rs_if (PW.pt (rw_or (rt_not (rt_tru rfl (re_isi rfl rfl T.b_isinstance rfl (re_var (i := 1)) rfl T.b_tuple rfl))) (rw_or1 (rt_cmp (ro_ne rfl (un100 hr)) (re_callB (rc_len rfl) rfl T.b_len rfl (ra_cons (re_var (i := 1)) ra_nil)) (re_var (i := 0)))))) (rss_one (rs_ret re_bl)) rss_nil)
    (rss_one (rs_ret (re_callB (rc_all rfl rfl) rfl T.b_all rfl (ra_cons (re_lc (k := false) rfl sc__is_pattern.nd (own := [("figure", 2)]) (blkOk_by (by rfl)) (ri_all rfl (re_var (i := 1))) (fun s H C cl fp => (rc_name (i := 2) sc__is_pattern.nd)) (fun s H C cl fp => rts_nil) (fun s H C cl fp => (re_or rfl (re_cmp ro_isN (re_var (i := 2)) re_non) (re_one (re_call takes0 (ok__is_figure T) (hr.mono (by decide)) rfl T.g__is_figure T.f__is_figure.kp T.n__is_figure (ra_cons (re_var (i := 2)) ra_nil)))))) ra_nil)))))
theorem sc__is_rule : FnScope ["cells", "value"] ["cells", "value"] (defScope (top 21)) := ⟨rfl, rfl, rfl, by decide +kernel, rfl, by decide +kernel, by decide +kernel⟩
def m__is_rule : MS := (sSeq (sIf (mOr (mNot (mTru (mIsi "tuple" (mVar 1)))) (mB (mBin (eqF true) (mCB (un lenW) (mCons (mVar 1) mNil)) (mCon (.int 2))))) (sRet (mCon (.bool false))) sNil) (sRet (mAndV (mCall F__is_pattern (mCons (mVar 0) (mCons (mBin ixF (mVar 1) (mCon (.int 0))) mNil))) (mCall F_is_name (mCons (mBin ixF (mVar 1) (mCon (.int 1))) mNil)))))
def F__is_rule : FnT := fnM 2 2 m__is_rule
theorem ok__is_rule (T : Txt g mg base a fd) : FnG P w g.K mg base 4 (a 8) (fd 8) ["cells", "value"] (spF g F__is_rule) := fn_ok T.f__is_rule sc__is_rule fun cdv A outer s H E hr hc =>
  (rss_cons (rs_if (PW.pt (rw_or (rt_not (rt_tru rfl (re_isi rfl rfl T.b_isinstance rfl (re_var (i := 1)) rfl T.b_tuple rfl))) (rw_or1 (rt_cmp (ro_ne rfl (un100 hr)) (re_callB (rc_len rfl) rfl T.b_len rfl (ra_cons (re_var (i := 1)) ra_nil)) re_int)))) (rss_one (rs_ret re_bl)) rss_nil)
    (rss_one (rs_ret (re_and rfl (re_call (takes_of rfl rfl rfl rfl) (ok__is_pattern T) (hr.mono (by decide)) rfl T.g__is_pattern T.f__is_pattern.kp T.n__is_pattern (ra_cons (re_var (i := 0)) (ra_cons (re_ix rfl (un100 hr) (re_var (i := 1)) re_int) ra_nil))) (re_one (re_call (takes_of rfl rfl rfl rfl) (ok_is_name T) (hr.mono (by decide)) rfl T.g_is_name T.f_is_name.kp T.n_is_name (ra_cons (re_ix rfl (un100 hr) (re_var (i := 1)) re_int) ra_nil)))))))
theorem sc__check_rules : FnScope ["picture", "rules", "rule"] ["picture", "rules"] (defScope (top 22)) := ⟨rfl, rfl, rfl, by decide +kernel, rfl, by decide +kernel, by decide +kernel⟩
def m__check_rules : MS := (sSeq (sIf (mOr (mNot (mTru (mIsi "tuple" (mVar 1)))) (mB (mBin (ordF .gt) (mCB (un lenW) (mCons (mVar 1) mNil)) (mCon (.int 24))))) (sRaise 51) sNil) (sIf (mNot (mTru (mCB (un allF) (mCons (mComp false (mItS (mVar 1)) [2] (tName 2) mYes (mCall F__is_rule (mCons (mCB (un lenW) (mCons (mVar 0) mNil)) (mCons (mVar 2) mNil)))) mNil)))) (sRaise 51) sNil))
def F__check_rules : FnT := fnM 3 2 m__check_rules
theorem ok__check_rules (T : Txt g mg base a fd) : FnG P w g.K mg base 5 (a 9) (fd 9) ["picture", "rules"] (spF g F__check_rules) := fn_ok T.f__check_rules sc__check_rules fun cdv A outer s H E hr hc =>
  (rss_cons (rs_if (PW.pt (rw_or (rt_not (rt_tru rfl (re_isi rfl rfl T.b_isinstance rfl (re_var (i := 1)) rfl T.b_tuple rfl))) (rw_or1 (rt_cmp (ro_ord .gt rfl (un100 hr)) (re_callB (rc_len rfl) rfl T.b_len rfl (ra_cons (re_var (i := 1)) ra_nil)) (re_globE rfl T.c_MAX_RULES fun _ => .int _))))) (rss_one (rs_raiseT (c := 51) rfl (takes_of rfl rfl rfl rfl) PySem.F.excBase_ValueError T.qx_InvalidOperation T.gx_InvalidOperation T.kx_InvalidOperation (raises_own T.bx_InvalidOperation T.tx_InvalidOperation) rfl)) rss_nil)
    (rss_one (rs_if (rt_not (rt_tru rfl (re_callB (rc_all rfl rfl) rfl T.b_all rfl (ra_cons (re_lc (k := false) rfl sc__check_rules.nd (own := [("rule", 2)]) (blkOk_by (by rfl)) (ri_all rfl (re_var (i := 1))) (fun s H C cl fp => (rc_name (i := 2) sc__check_rules.nd)) (fun s H C cl fp => rts_nil) (fun s H C cl fp => (re_call takes0 (ok__is_rule T) (hr.mono (by decide)) rfl T.g__is_rule T.f__is_rule.kp T.n__is_rule (ra_cons (re_callB (rc_len rfl) rfl T.b_len rfl (ra_cons (re_var (i := 0)) ra_nil)) (ra_cons (re_var (i := 2)) ra_nil))))) ra_nil)))) (rss_one (rs_raiseT (c := 51) rfl (takes_of rfl rfl rfl rfl) PySem.F.excBase_ValueError T.qx_InvalidOperation T.gx_InvalidOperation T.kx_InvalidOperation (raises_own T.bx_InvalidOperation T.tx_InvalidOperation) rfl)) rss_nil)))
theorem sc__are_ascending_names : FnScope ["value", "at", "name"] ["value"] (defScope (top 23)) := ⟨rfl, rfl, rfl, by decide +kernel, rfl, by decide +kernel, by decide +kernel⟩
def m__are_ascending_names : MS := (sSeq (sIf (mOr (mNot (mTru (mIsi "tuple" (mVar 0)))) (mNot (mTru (mCB (un allF) (mCons (mComp false (mItS (mVar 0)) [2] (tName 2) mYes (mCall F_is_name (mCons (mVar 2) mNil))) mNil))))) (sRet (mCon (.bool false))) sNil) (sRet (mCB (un allF) (mCons (mComp false (mRng2 (mCons (mCon (.int 1)) (mCons (mCB (un lenW) (mCons (mVar 0) mNil)) mNil))) [1] (tName 1) mYes (mBin (ordF .lt) (mBin ixF (mVar 0) (mBin subF (mVar 1) (mCon (.int 1)))) (mBin ixF (mVar 0) (mVar 1)))) mNil))))
def F__are_ascending_names : FnT := fnM 3 1 m__are_ascending_names
theorem ok__are_ascending_names (T : Txt g mg base a fd) : FnG P w g.K mg base 2 (a 10) (fd 10) ["value"] (spF g F__are_ascending_names) := fn_ok T.f__are_ascending_names sc__are_ascending_names fun cdv A outer s H E hr hc =>
  (rss_cons (rs_if (PW.pt (rw_or (rt_not (rt_tru rfl (re_isi rfl rfl T.b_isinstance rfl (re_var (i := 0)) rfl T.b_tuple rfl))) (rw_or1 (rt_not (rt_tru rfl (re_callB (rc_all rfl rfl) rfl T.b_all rfl (ra_cons (re_lc (k := false) rfl sc__are_ascending_names.nd (own := [("name", 2)]) (blkOk_by (by rfl)) (ri_all rfl (re_var (i := 0))) (fun s H C cl fp => (rc_name (i := 2) sc__are_ascending_names.nd)) (fun s H C cl fp => rts_nil) (fun s H C cl fp => (re_call takes0 (ok_is_name T) (hr.mono (by decide)) rfl T.g_is_name T.f_is_name.kp T.n_is_name (ra_cons (re_var (i := 2)) ra_nil)))) ra_nil))))))) (rss_one (rs_ret re_bl)) rss_nil)
    (rss_one (rs_ret (re_callB (rc_all rfl rfl) rfl T.b_all rfl (ra_cons (re_lc (k := false) rfl sc__are_ascending_names.nd (own := [("at", 1)]) (blkOk_by (by rfl)) (ri_range2 rfl T.b_range (ra_cons re_int (ra_cons (re_callB (rc_len rfl) rfl T.b_len rfl (ra_cons (re_var (i := 0)) ra_nil)) ra_nil))) (fun s H C cl fp => (rc_name (i := 1) sc__are_ascending_names.nd)) (fun s H C cl fp => rts_nil) (fun s H C cl fp => (re_cmp (ro_ord .lt rfl (un100 hr)) (re_ix rfl (un100 hr) (re_var (i := 0)) (re_bin ro_sub (re_var (i := 1)) re_int)) (re_ix rfl (un100 hr) (re_var (i := 0)) (re_var (i := 1)))))) ra_nil)))))
theorem sc__check_promise : FnScope ["writes", "promise", "names"] ["writes", "promise"] (defScope (top 24)) := ⟨rfl, rfl, rfl, by decide +kernel, rfl, by decide +kernel, by decide +kernel⟩
def m__check_promise : MS := (sSeq (sIf (mOr (mNot (mTru (mIsi "tuple" (mVar 1)))) (mB (mBin (eqF true) (mCB (un lenW) (mCons (mVar 1) mNil)) (mBin (addF false) (mCB (un lenW) (mCons (mVar 0) mNil)) (mCon (.int 1)))))) (sRaise 51) sNil) (sIf (mNot (mTru (mCB (un allF) (mCons (mComp false (mItS (mVar 1)) [2] (tName 2) mYes (mCall F__are_ascending_names (mCons (mVar 2) mNil))) mNil)))) (sRaise 51) sNil))
def F__check_promise : FnT := fnM 3 2 m__check_promise
theorem ok__check_promise (T : Txt g mg base a fd) : FnG P w g.K mg base 3 (a 11) (fd 11) ["writes", "promise"] (spF g F__check_promise) := fn_ok T.f__check_promise sc__check_promise fun cdv A outer s H E hr hc =>
  (rss_cons (rs_if (PW.pt (rw_or (rt_not (rt_tru rfl (re_isi rfl rfl T.b_isinstance rfl (re_var (i := 1)) rfl T.b_tuple rfl))) (rw_or1 (rt_cmp (ro_ne rfl (un100 hr)) (re_callB (rc_len rfl) rfl T.b_len rfl (ra_cons (re_var (i := 1)) ra_nil)) (re_bin (ro_add rfl) (re_callB (rc_len rfl) rfl T.b_len rfl (ra_cons (re_var (i := 0)) ra_nil)) re_int))))) (rss_one (rs_raiseT (c := 51) rfl (takes_of rfl rfl rfl rfl) PySem.F.excBase_ValueError T.qx_InvalidOperation T.gx_InvalidOperation T.kx_InvalidOperation (raises_own T.bx_InvalidOperation T.tx_InvalidOperation) rfl)) rss_nil)
    (rss_one (rs_if (rt_not (rt_tru rfl (re_callB (rc_all rfl rfl) rfl T.b_all rfl (ra_cons (re_lc (k := false) rfl sc__check_promise.nd (own := [("names", 2)]) (blkOk_by (by rfl)) (ri_all rfl (re_var (i := 1))) (fun s H C cl fp => (rc_name (i := 2) sc__check_promise.nd)) (fun s H C cl fp => rts_nil) (fun s H C cl fp => (re_call takes0 (ok__are_ascending_names T) (hr.mono (by decide)) rfl T.g__are_ascending_names T.f__are_ascending_names.kp T.n__are_ascending_names (ra_cons (re_var (i := 2)) ra_nil)))) ra_nil)))) (rss_one (rs_raiseT (c := 51) rfl (takes_of rfl rfl rfl rfl) PySem.F.excBase_ValueError T.qx_InvalidOperation T.gx_InvalidOperation T.kx_InvalidOperation (raises_own T.bx_InvalidOperation T.tx_InvalidOperation) rfl)) rss_nil)))
theorem sc__check_told : FnScope ["picture", "writes", "gaps"] ["picture", "writes", "gaps"] (defScope (top 25)) := ⟨rfl, rfl, rfl, by decide +kernel, rfl, by decide +kernel, by decide +kernel⟩
def m__check_told : MS := (sSeq (sDrop (mCall F__check_picture (mCons (mVar 0) mNil))) (sSeq (sDrop (mCall F__check_writes (mCons (mVar 0) (mCons (mVar 1) mNil)))) (sDrop (mCall F__check_gaps (mCons (mVar 1) (mCons (mVar 2) mNil))))))
def F__check_told : FnT := fnM 3 3 m__check_told
theorem ok__check_told (T : Txt g mg base a fd) : FnG P w g.K mg base 5 (a 12) (fd 12) ["picture", "writes", "gaps"] (spF g F__check_told) := fn_ok T.f__check_told sc__check_told fun cdv A outer s H E hr hc =>
  (rss_cons (rs_expr (re_call (takes_of rfl rfl rfl rfl) (ok__check_picture T) (hr.mono (by decide)) rfl T.g__check_picture T.f__check_picture.kp T.n__check_picture (ra_cons (re_var (i := 0)) ra_nil)))
    (rss_cons (rs_expr (re_call (takes_of rfl rfl rfl rfl) (ok__check_writes T) (hr.mono (by decide)) rfl T.g__check_writes T.f__check_writes.kp T.n__check_writes (ra_cons (re_var (i := 0)) (ra_cons (re_var (i := 1)) ra_nil))))
    (rss_one (rs_expr (re_call (takes_of rfl rfl rfl rfl) (ok__check_gaps T) (hr.mono (by decide)) rfl T.g__check_gaps T.f__check_gaps.kp T.n__check_gaps (ra_cons (re_var (i := 1)) (ra_cons (re_var (i := 2)) ra_nil)))))))
theorem sc__check_plan : FnScope ["picture", "writes", "gaps", "rules", "promise"] ["picture", "writes", "gaps", "rules", "promise"] (defScope (top 26)) := ⟨rfl, rfl, rfl, by decide +kernel, rfl, by decide +kernel, by decide +kernel⟩
def m__check_plan : MS := (sSeq (sDrop (mCall F__check_told (mCons (mVar 0) (mCons (mVar 1) (mCons (mVar 2) mNil))))) (sSeq (sDrop (mCall F__check_rules (mCons (mVar 0) (mCons (mVar 3) mNil)))) (sDrop (mCall F__check_promise (mCons (mVar 1) (mCons (mVar 4) mNil))))))
def F__check_plan : FnT := fnM 5 5 m__check_plan
theorem ok__check_plan (T : Txt g mg base a fd) : FnG P w g.K mg base 6 (a 13) (fd 13) ["picture", "writes", "gaps", "rules", "promise"] (spF g F__check_plan) := fn_ok T.f__check_plan sc__check_plan fun cdv A outer s H E hr hc =>
  (rss_cons (rs_expr (re_call (takes_of rfl rfl rfl rfl) (ok__check_told T) (hr.mono (by decide)) rfl T.g__check_told T.f__check_told.kp T.n__check_told (ra_cons (re_var (i := 0)) (ra_cons (re_var (i := 1)) (ra_cons (re_var (i := 2)) ra_nil)))))
    (rss_cons (rs_expr (re_call (takes_of rfl rfl rfl rfl) (ok__check_rules T) (hr.mono (by decide)) rfl T.g__check_rules T.f__check_rules.kp T.n__check_rules (ra_cons (re_var (i := 0)) (ra_cons (re_var (i := 3)) ra_nil))))
    (rss_one (rs_expr (re_call (takes_of rfl rfl rfl rfl) (ok__check_promise T) (hr.mono (by decide)) rfl T.g__check_promise T.f__check_promise.kp T.n__check_promise (ra_cons (re_var (i := 1)) (ra_cons (re_var (i := 4)) ra_nil)))))))
theorem sc__last_gap : FnScope ["gaps", "moment", "gap"] ["gaps", "moment"] (defScope (top 27)) := ⟨rfl, rfl, rfl, by decide +kernel, rfl, by decide +kernel, by decide +kernel⟩
def m__last_gap : MS := (sRet (mCB (un maxTF) (mCons (mBin (addF false) (mLst false (mCons (mCon (.int 0)) mNil)) (mComp false (mItS (mVar 0)) [2] (tName 2) (mB (mBin (ordF .lt) (mVar 2) (mVar 1))) (mVar 2))) mNil)))
def F__last_gap : FnT := fnM 3 2 m__last_gap
theorem ok__last_gap (T : Txt g mg base a fd) : FnG P w g.K mg base 1 (a 14) (fd 14) ["gaps", "moment"] (spF g F__last_gap) := fn_ok T.f__last_gap sc__last_gap fun cdv A outer s H E hr hc =>
  (rss_one (rs_ret (re_callB (rc_maxT rfl rfl (un100 hr)) rfl T.b_max rfl (ra_cons (re_bin (ro_add rfl) (re_lst (k := false) (ra_cons re_int ra_nil)) (re_lc (k := false) rfl sc__last_gap.nd (own := [("gap", 2)]) (blkOk_by (by rfl)) (ri_all rfl (re_var (i := 0))) (fun s H C cl fp => (rc_name (i := 2) sc__last_gap.nd)) (fun s H C cl fp => (rts_one (rt_cmp (ro_ord .lt rfl (un100 hr)) (re_var (i := 2)) (re_var (i := 1))))) (fun s H C cl fp => (re_var (i := 2))))) ra_nil))))
theorem sc__versions : FnScope ["picture", "writes", "last", "moment", "held", "found", "cell", "figure", "versions"] ["picture", "writes", "last", "moment"] (defScope (top 28)) := ⟨rfl, rfl, rfl, by decide +kernel, rfl, by decide +kernel, by decide +kernel⟩
def m__versions : MS := (sSeq (sAsg (mCB (listF true) (mCons (mVar 0) mNil)) (tName 4)) (sSeq (sFor (mItS (mSl (slF false) (mVar 1) mNoPart (mPart (mVar 2)))) (tTup 2 (tCons (tName 6) (tCons (tName 7) tNil))) (sAsg (mVar 7) (tSub (mVar 4) (mVar 6) setF))) (sSeq (sAsg (mComp false (mItS (mVar 4)) [7] (tName 7) mYes (mLst true (mCons (mVar 7) mNil))) (tName 5)) (sSeq (sFor (mItS (mSl (slF false) (mVar 1) (mPart (mVar 2)) (mPart (mVar 3)))) (tTup 2 (tCons (tName 6) (tCons (tName 7) tNil))) (sDrop (mMt .lst appF (mBin ixF (mVar 5) (mVar 6)) (mCons (mVar 7) mNil)))) (sRet (mCB (tupleF) (mCons (mComp false (mItS (mVar 5)) [8] (tName 8) mYes (mCB (tupleF) (mCons (mVar 8) mNil))) mNil)))))))
def F__versions : FnT := fnM 9 4 m__versions
theorem ok__versions (T : Txt g mg base a fd) : FnG P w g.K mg base 1 (a 15) (fd 15) ["picture", "writes", "last", "moment"] (spF g F__versions) := fn_ok T.f__versions sc__versions fun cdv A outer s H E hr hc =>
  (rss_cons (rs_set sc__versions.nd (re_callTy (rc_list rfl) rfl T.b_list rfl (ra_cons (re_var (i := 0)) ra_nil)))
    (rss_cons (rs_for (passes_of rfl) rfl (ri_all rfl (re_sl (slr rfl) (re_var (i := 1)) ro_noPart (ro_part (re_var (i := 2))))) (rg_tup rfl rfl (rgs_cons (rg_name (i := 6) sc__versions.nd) (rgs_cons (rg_name (i := 7) sc__versions.nd) rgs_nil calm_nil) (calm_cons calm_name calm_nil))) (rss_one (rs_asg (re_var (i := 7)) (rg_sub (re_var (i := 4)) (re_var (i := 6)) (set_ok (un1 hr))))))
    (rss_cons (rs_setLc (k := false) rfl sc__versions.nd rfl rfl rfl (own := [("figure", 7)]) (blkOk_by (by rfl)) (ri_all rfl (re_var (i := 4))) (fun s H C cl fp => (rc_name (i := 7) sc__versions.nd)) (fun s H C cl fp => rts_nil) (fun s H C cl fp => (re_lst (k := true) (ra_cons (re_var (i := 7)) ra_nil))))
    (rss_cons (rs_for (passes_of rfl) rfl (ri_all rfl (re_sl (slr rfl) (re_var (i := 1)) (ro_part (re_var (i := 2))) (ro_part (re_var (i := 3))))) (rg_tup rfl rfl (rgs_cons (rg_name (i := 6) sc__versions.nd) (rgs_cons (rg_name (i := 7) sc__versions.nd) rgs_nil calm_nil) (calm_cons calm_name calm_nil))) (rss_one (rs_expr (re_mt rfl (T := .lst) PySem.F.plainAttrs_list PySem.F.slot_list_append PySem.F.type_list_append (mt_app) (re_ix rfl (un100 hr) (re_var (i := 5)) (re_var (i := 6))) (ra_cons (re_var (i := 7)) ra_nil)))))
    (rss_one (rs_ret (re_callTy (rc_tuple rfl) rfl T.b_tuple rfl (ra_cons (re_lc (k := false) rfl sc__versions.nd (own := [("versions", 8)]) (blkOk_by (by rfl)) (ri_all rfl (re_var (i := 5))) (fun s H C cl fp => (rc_name (i := 8) sc__versions.nd)) (fun s H C cl fp => rts_nil) (fun s H C cl fp => (re_callTy (rc_tuple rfl) rfl T.b_tuple rfl (ra_cons (re_var (i := 8)) ra_nil)))) ra_nil))))))))
theorem sc__cuts_with_pictures : FnScope ["versions", "found", "there", "cut", "picture", "index", "figure"] ["versions"] (defScope (top 29)) := ⟨rfl, rfl, rfl, by decide +kernel, rfl, by decide +kernel, by decide +kernel⟩
def m__cuts_with_pictures : MS := (sSeq (sAsg (mLst false (mCons (mTup (mCons (mTup mNil) (mCons (mTup mNil) mNil))) mNil)) (tName 1)) (sSeq (sFor (mItS (mVar 0)) (tName 2) (sAsg (mComp2 false (mItS (mVar 1)) [3, 4, 5, 6] (tTup 2 (tCons (tName 3) (tCons (tName 4) tNil))) mYes (mEnmA (mCons (mVar 2) mNil)) [5, 6] (tTup 2 (tCons (tName 5) (tCons (tName 6) tNil))) mYes (mTup (mCons (mBin (addF false) (mVar 3) (mTup (mCons (mVar 5) mNil))) (mCons (mBin (addF false) (mVar 4) (mTup (mCons (mVar 6) mNil))) mNil)))) (tName 1))) (sRet (mVar 1))))
def F__cuts_with_pictures : FnT := fnM 7 1 m__cuts_with_pictures
theorem ok__cuts_with_pictures (T : Txt g mg base a fd) : FnG P w g.K mg base 1 (a 16) (fd 16) ["versions"] (spF g F__cuts_with_pictures) := fn_ok T.f__cuts_with_pictures sc__cuts_with_pictures fun cdv A outer s H E hr hc =>
  (rss_cons (rs_set sc__cuts_with_pictures.nd (re_lst (k := false) (ra_cons (re_tup (ra_cons (re_tup ra_nil) (ra_cons (re_tup ra_nil) ra_nil))) ra_nil)))
    (rss_cons (rs_for (passes_of rfl) rfl (ri_all rfl (re_var (i := 0))) (rg_name (i := 2) sc__cuts_with_pictures.nd) (rss_one (rs_setLc2 (k := false) rfl sc__cuts_with_pictures.nd rfl rfl rfl (own := [("cut", 3), ("picture", 4), ("index", 5), ("figure", 6)]) (vs1 := [5, 6]) (blkOk_by (by rfl)) (ri_all rfl (re_var (i := 1))) (fun s H C cl fp => (rc_tup rfl rfl (rcs_cons (rc_name (i := 3) sc__cuts_with_pictures.nd) (rcs_cons (rc_name (i := 4) sc__cuts_with_pictures.nd) rcs_nil calm_nil) (calm_cons calm_name calm_nil)))) (fun s H C cl fp => rts_nil) (fun s H C cl fp => (ri_enmA rfl rfl T.b_enumerate (ra_cons (re_var (i := 2)) ra_nil))) (fun s H C cl fp => (rc_tup rfl rfl (rcs_cons (rc_name (i := 5) sc__cuts_with_pictures.nd) (rcs_cons (rc_name (i := 6) sc__cuts_with_pictures.nd) rcs_nil calm_nil) (calm_cons calm_name calm_nil)))) (fun s H C cl fp => rts_nil) (fun s H C cl fp => (re_tup (ra_cons (re_bin (ro_add rfl) (re_var (i := 3)) (re_tup (ra_cons (re_var (i := 5)) ra_nil))) (ra_cons (re_bin (ro_add rfl) (re_var (i := 4)) (re_tup (ra_cons (re_var (i := 6)) ra_nil))) ra_nil)))))))
    (rss_one (rs_ret (re_var (i := 1))))))
theorem sc__picture_left : FnScope ["versions", "cut", "index", "there"] ["versions", "cut"] (defScope (top 30)) := ⟨rfl, rfl, rfl, by decide +kernel, rfl, by decide +kernel, by decide +kernel⟩
def m__picture_left : MS := (sSeq (sIf (mOr (mNot (mTru (mIsi "tuple" (mVar 1)))) (mB (mBin (eqF true) (mCB (un lenW) (mCons (mVar 1) mNil)) (mCB (un lenW) (mCons (mVar 0) mNil))))) (sRet (mCon .none)) sNil) (sSeq (sIf (mNot (mTru (mCB (un allF) (mCons (mComp false (mZip (mCons (mVar 1) (mCons (mVar 0) mNil))) [2, 3] (tTup 2 (tCons (tName 2) (tCons (tName 3) tNil))) mYes (mCall F_is_number (mCons (mVar 2) (mCons (mCon (.int 0)) (mCons (mBin subF (mCB (un lenW) (mCons (mVar 3) mNil)) (mCon (.int 1))) mNil))))) mNil)))) (sRet (mCon .none)) sNil) (sRet (mCB (tupleF) (mCons (mComp false (mZip (mCons (mVar 1) (mCons (mVar 0) mNil))) [2, 3] (tTup 2 (tCons (tName 2) (tCons (tName 3) tNil))) mYes (mBin ixF (mVar 3) (mVar 2))) mNil)))))
def F__picture_left : FnT := fnM 4 2 m__picture_left
theorem ok__picture_left (T : Txt g mg base a fd) : FnG P w g.K mg base 2 (a 17) (fd 17) ["versions", "cut"] (spF g F__picture_left) := fn_ok T.f__picture_left sc__picture_left fun cdv A outer s H E hr hc =>
  (rss_cons (rs_if (PW.pt (rw_or (rt_not (rt_tru rfl (re_isi rfl rfl T.b_isinstance rfl (re_var (i := 1)) rfl T.b_tuple rfl))) (rw_or1 (rt_cmp (ro_ne rfl (un100 hr)) (re_callB (rc_len rfl) rfl T.b_len rfl (ra_cons (re_var (i := 1)) ra_nil)) (re_callB (rc_len rfl) rfl T.b_len rfl (ra_cons (re_var (i := 0)) ra_nil)))))) (rss_one (rs_ret re_non)) rss_nil)
    (rss_cons (rs_if (rt_not (rt_tru rfl (re_callB (rc_all rfl rfl) rfl T.b_all rfl (ra_cons (re_lc (k := false) rfl sc__picture_left.nd (own := [("index", 2), ("there", 3)]) (blkOk_by (by rfl)) (ri_zip rfl rfl T.b_zip (ra_cons (re_var (i := 1)) (ra_cons (re_var (i := 0)) ra_nil))) (fun s H C cl fp => (rc_tup rfl rfl (rcs_cons (rc_name (i := 2) sc__picture_left.nd) (rcs_cons (rc_name (i := 3) sc__picture_left.nd) rcs_nil calm_nil) (calm_cons calm_name calm_nil)))) (fun s H C cl fp => rts_nil) (fun s H C cl fp => (re_call takes0 (ok_is_number T) (hr.mono (by decide)) rfl T.g_is_number T.f_is_number.kp T.n_is_number (ra_cons (re_var (i := 2)) (ra_cons re_int (ra_cons (re_bin ro_sub (re_callB (rc_len rfl) rfl T.b_len rfl (ra_cons (re_var (i := 3)) ra_nil)) re_int) ra_nil)))))) ra_nil)))) (rss_one (rs_ret re_non)) rss_nil)
    (rss_one (rs_ret (re_callTy (rc_tuple rfl) rfl T.b_tuple rfl (ra_cons (re_lc (k := false) rfl sc__picture_left.nd (own := [("index", 2), ("there", 3)]) (blkOk_by (by rfl)) (ri_zip rfl rfl T.b_zip (ra_cons (re_var (i := 1)) (ra_cons (re_var (i := 0)) ra_nil))) (fun s H C cl fp => (rc_tup rfl rfl (rcs_cons (rc_name (i := 2) sc__picture_left.nd) (rcs_cons (rc_name (i := 3) sc__picture_left.nd) rcs_nil calm_nil) (calm_cons calm_name calm_nil)))) (fun s H C cl fp => rts_nil) (fun s H C cl fp => (re_ix rfl (un100 hr) (re_var (i := 3)) (re_var (i := 2))))) ra_nil))))))
theorem sc__fits : FnScope ["picture", "pattern", "figure", "there"] ["picture", "pattern"] (defScope (top 31)) := ⟨rfl, rfl, rfl, by decide +kernel, rfl, by decide +kernel, by decide +kernel⟩
def m__fits : MS := (sRet (mCB (un allF) (mCons (mComp false (mZip (mCons (mVar 1) (mCons (mVar 0) mNil))) [2, 3] (tTup 2 (tCons (tName 2) (tCons (tName 3) tNil))) mYes (mOrV (mBin (isNF false) (mVar 2) (mCon .none)) (mBin (eqF false) (mVar 2) (mVar 3)))) mNil)))
def F__fits : FnT := fnM 4 2 m__fits
theorem ok__fits (T : Txt g mg base a fd) : FnG P w g.K mg base 1 (a 18) (fd 18) ["picture", "pattern"] (spF g F__fits) := fn_ok T.f__fits sc__fits fun cdv A outer s H E hr hc =>
  (rss_one (rs_ret (re_callB (rc_all rfl rfl) rfl T.b_all rfl (ra_cons (re_lc (k := false) rfl sc__fits.nd (own := [("figure", 2), ("there", 3)]) (blkOk_by (by rfl)) (ri_zip rfl rfl T.b_zip (ra_cons (re_var (i := 1)) (ra_cons (re_var (i := 0)) ra_nil))) (fun s H C cl fp => (rc_tup rfl rfl (rcs_cons (rc_name (i := 2) sc__fits.nd) (rcs_cons (rc_name (i := 3) sc__fits.nd) rcs_nil calm_nil) (calm_cons calm_name calm_nil)))) (fun s H C cl fp => rts_nil) (fun s H C cl fp => (re_or rfl (re_cmp ro_isN (re_var (i := 2)) re_non) (re_one (re_cmp (ro_eq rfl (un100 hr)) (re_var (i := 2)) (re_var (i := 3))))))) ra_nil))))
theorem sc__meaning : FnScope ["picture", "rules", "pattern", "name"] ["picture", "rules"] (defScope (top 32)) := ⟨rfl, rfl, rfl, by decide +kernel, rfl, by decide +kernel, by decide +kernel⟩
def m__meaning : MS := (sSeq (sFor (mItS (mVar 1)) (tTup 2 (tCons (tName 2) (tCons (tName 3) tNil))) (sIf (mTru (mCall F__fits (mCons (mVar 0) (mCons (mVar 2) mNil)))) (sRet (mVar 3)) sNil)) (sRet (mCon .none)))
def F__meaning : FnT := fnM 4 2 m__meaning
theorem ok__meaning (T : Txt g mg base a fd) : FnG P w g.K mg base 2 (a 19) (fd 19) ["picture", "rules"] (spF g F__meaning) := fn_ok T.f__meaning sc__meaning fun cdv A outer s H E hr hc =>
  (rss_cons (rs_for (passes_of rfl) rfl (ri_all rfl (re_var (i := 1))) (rg_tup rfl rfl (rgs_cons (rg_name (i := 2) sc__meaning.nd) (rgs_cons (rg_name (i := 3) sc__meaning.nd) rgs_nil calm_nil) (calm_cons calm_name calm_nil))) (rss_one (rs_if (rt_tru rfl (re_call (takes_of rfl rfl rfl rfl) (ok__fits T) (hr.mono (by decide)) rfl T.g__fits T.f__fits.kp T.n__fits (ra_cons (re_var (i := 0)) (ra_cons (re_var (i := 2)) ra_nil)))) (rss_one (rs_ret (re_var (i := 3)))) rss_nil)))
    (rss_one (rs_ret re_non)))
theorem sc_Plan____init__ : FnScope ["self", "picture", "writes", "rules", "promise"] ["self", "picture", "writes", "rules", "promise"] (defScope (inClass (top 33) 0)) := ⟨rfl, rfl, rfl, by decide +kernel, rfl, by decide +kernel, by decide +kernel⟩
def m_Plan____init__ : MS := (sSeq (sFld [0] "begun" (mVar 0) (mVar 1)) (sSeq (sFld [0] "writes" (mVar 0) (mVar 2)) (sSeq (sFld [0] "rules" (mVar 0) (mVar 3)) (sSeq (sFld [0] "promise" (mVar 0) (mVar 4)) (sFld [0] "known" (mVar 0) (mDic0 true))))))
def F_Plan____init__ : FnT := fnN 5 5 m_Plan____init__
theorem ok_Plan____init__ (T : Txt g mg base a fd) : FnG P w g.K mg base 1 (a 20) (fd 20) ["self", "picture", "writes", "rules", "promise"] (spF g F_Plan____init__) := fn_okN T.f_Plan____init__ sc_Plan____init__ fun cdv A outer s H E hr hc =>
  (rss_cons (rs_fld rfl (at_begun T) (re_var (i := 0)) (re_var (i := 1)))
    (rss_cons (rs_fld rfl (at_writes T) (re_var (i := 0)) (re_var (i := 2)))
    (rss_cons (rs_fld rfl (at_rules T) (re_var (i := 0)) (re_var (i := 3)))
    (rss_cons (rs_fld rfl (at_promise T) (re_var (i := 0)) (re_var (i := 4)))
    (rss_one (rs_fld rfl (at_known T) (re_var (i := 0)) (re_dic0 (k := true))))))))
theorem sc_Plan__look : FnScope ["self", "last", "moment", "versions", "cut", "left"] ["self", "last", "moment"] (defScope (inClass (top 33) 2)) := ⟨rfl, rfl, rfl, by decide +kernel, rfl, by decide +kernel, by decide +kernel⟩
def m_Plan__look : MS := (sSeq (sAsg (mCall F__versions (mCons (mFld [0] "begun" (mVar 0)) (mCons (mFld [0] "writes" (mVar 0)) (mCons (mVar 1) (mCons (mVar 2) mNil))))) (tName 3)) (sSeq (sFor (mItS (mCall F__cuts_with_pictures (mCons (mVar 3) mNil))) (tTup 2 (tCons (tName 4) (tCons (tName 5) tNil))) (sIf (mB (mBin (inAF true) (mCall F__meaning (mCons (mVar 5) (mCons (mFld [0] "rules" (mVar 0)) mNil))) (mBin ixF (mFld [0] "promise" (mVar 0)) (mVar 2)))) (sRet (mVar 4)) sNil)) (sRet (mCon .none))))
def F_Plan__look : FnT := fnM 6 3 m_Plan__look
theorem ok_Plan__look (T : Txt g mg base a fd) : FnG P w g.K mg base 3 (a 22) (fd 22) ["self", "last", "moment"] (spF g F_Plan__look) := fn_ok T.f_Plan__look sc_Plan__look fun cdv A outer s H E hr hc =>
  (rss_cons (rs_set sc_Plan__look.nd (re_call (takes_of rfl rfl rfl rfl) (ok__versions T) (hr.mono (by decide)) rfl T.g__versions T.f__versions.kp T.n__versions (ra_cons (re_fld rfl (at_begun T) (re_var (i := 0))) (ra_cons (re_fld rfl (at_writes T) (re_var (i := 0))) (ra_cons (re_var (i := 1)) (ra_cons (re_var (i := 2)) ra_nil))))))
    (rss_cons (rs_for (passes_of rfl) rfl (ri_all rfl (re_call (takes_of rfl rfl rfl rfl) (ok__cuts_with_pictures T) (hr.mono (by decide)) rfl T.g__cuts_with_pictures T.f__cuts_with_pictures.kp T.n__cuts_with_pictures (ra_cons (re_var (i := 3)) ra_nil))) (rg_tup rfl rfl (rgs_cons (rg_name (i := 4) sc_Plan__look.nd) (rgs_cons (rg_name (i := 5) sc_Plan__look.nd) rgs_nil calm_nil) (calm_cons calm_name calm_nil))) (rss_one (rs_if (rt_cmp (ro_notInA rfl (un100 hr)) (re_call (takes_of rfl rfl rfl rfl) (ok__meaning T) (hr.mono (by decide)) rfl T.g__meaning T.f__meaning.kp T.n__meaning (ra_cons (re_var (i := 5)) (ra_cons (re_fld rfl (at_rules T) (re_var (i := 0))) ra_nil))) (re_ix rfl (un100 hr) (re_fld rfl (at_promise T) (re_var (i := 0))) (re_var (i := 2)))) (rss_one (rs_ret (re_var (i := 4)))) rss_nil)))
    (rss_one (rs_ret re_non))))
theorem sc_Plan__broken : FnScope ["self", "last", "moment"] ["self", "last", "moment"] (defScope (inClass (top 33) 1)) := ⟨rfl, rfl, rfl, by decide +kernel, rfl, by decide +kernel, by decide +kernel⟩
def m_Plan__broken : MS := (sSeq (sIf (mB (mBin (inBF true) (mTup (mCons (mVar 1) (mCons (mVar 2) mNil))) (mFld [0] "known" (mVar 0)))) (sAsg (mMeth 0 "look" F_Plan__look (mVar 0) (mCons (mVar 1) (mCons (mVar 2) mNil))) (tSub (mFld [0] "known" (mVar 0)) (mTup (mCons (mVar 1) (mCons (mVar 2) mNil))) setF)) sNil) (sRet (mBin ixF (mFld [0] "known" (mVar 0)) (mTup (mCons (mVar 1) (mCons (mVar 2) mNil))))))
def F_Plan__broken : FnT := fnM 3 3 m_Plan__broken
theorem ok_Plan__broken (T : Txt g mg base a fd) : FnG P w g.K mg base 4 (a 21) (fd 21) ["self", "last", "moment"] (spF g F_Plan__broken) := fn_ok T.f_Plan__broken sc_Plan__broken fun cdv A outer s H E hr hc =>
  (rss_cons (rs_if (rt_cmp (ro_notInB rfl (un100 hr)) (re_tup (ra_cons (re_var (i := 1)) (ra_cons (re_var (i := 2)) ra_nil))) (re_fld rfl (at_known T) (re_var (i := 0)))) (rss_one (rs_asg (re_meth (takes_of rfl rfl rfl rfl) T.cl_Plan T.me_Plan__look (ok_Plan__look T) (hr.mono (by decide)) T.n_Plan__look (re_var (i := 0)) (ra_cons (re_var (i := 1)) (ra_cons (re_var (i := 2)) ra_nil))) (rg_sub (re_fld rfl (at_known T) (re_var (i := 0))) (re_tup (ra_cons (re_var (i := 1)) (ra_cons (re_var (i := 2)) ra_nil))) (set_ok (un1 hr))))) rss_nil)
    (rss_one (rs_ret (re_ix rfl (un100 hr) (re_fld rfl (at_known T) (re_var (i := 0))) (re_tup (ra_cons (re_var (i := 1)) (ra_cons (re_var (i := 2)) ra_nil)))))))
theorem sc_Plan__broken_by : FnScope ["self", "gaps", "moment", "cut"] ["self", "gaps"] (defScope (inClass (top 33) 3)) := ⟨rfl, rfl, rfl, by decide +kernel, rfl, by decide +kernel, by decide +kernel⟩
def m_Plan__broken_by : MS := (sSeq (sFor (mRng1 (mCons (mBin (addF false) (mCB (un lenW) (mCons (mFld [0] "writes" (mVar 0)) mNil)) (mCon (.int 1))) mNil)) (tName 2) (sSeq (sAsg (mMeth 0 "broken" F_Plan__broken (mVar 0) (mCons (mCall F__last_gap (mCons (mVar 1) (mCons (mVar 2) mNil))) (mCons (mVar 2) mNil))) (tName 3)) (sIf (mB (mBin (isNF true) (mVar 3) (mCon .none))) (sRet (mTup (mCons (mVar 2) (mCons (mVar 3) mNil)))) sNil))) (sRet (mCon .none)))
def F_Plan__broken_by : FnT := fnM 4 2 m_Plan__broken_by
theorem ok_Plan__broken_by (T : Txt g mg base a fd) : FnG P w g.K mg base 5 (a 23) (fd 23) ["self", "gaps"] (spF g F_Plan__broken_by) := fn_ok T.f_Plan__broken_by sc_Plan__broken_by fun cdv A outer s H E hr hc =>
  (rss_cons (rs_for (passes_of rfl) rfl (ri_range1 rfl T.b_range (ra_cons (re_bin (ro_add rfl) (re_callB (rc_len rfl) rfl T.b_len rfl (ra_cons (re_fld rfl (at_writes T) (re_var (i := 0))) ra_nil)) re_int) ra_nil)) (rg_name (i := 2) sc_Plan__broken_by.nd) (rss_cons (rs_set sc_Plan__broken_by.nd (re_meth (takes_of rfl rfl rfl rfl) T.cl_Plan T.me_Plan__broken (ok_Plan__broken T) (hr.mono (by decide)) T.n_Plan__broken (re_var (i := 0)) (ra_cons (re_call (takes_of rfl rfl rfl rfl) (ok__last_gap T) (hr.mono (by decide)) rfl T.g__last_gap T.f__last_gap.kp T.n__last_gap (ra_cons (re_var (i := 1)) (ra_cons (re_var (i := 2)) ra_nil))) (ra_cons (re_var (i := 2)) ra_nil))))
    (rss_one (rs_if (rt_cmp ro_notN (re_var (i := 3)) re_non) (rss_one (rs_ret (re_tup (ra_cons (re_var (i := 2)) (ra_cons (re_var (i := 3)) ra_nil))))) rss_nil))))
    (rss_one (rs_ret re_non)))
theorem sc_break_of : FnScope ["picture", "writes", "gaps", "rules", "promise"] ["picture", "writes", "gaps", "rules", "promise"] (defScope (top 34)) := ⟨rfl, rfl, rfl, by decide +kernel, rfl, by decide +kernel, by decide +kernel⟩
def m_break_of : MS := (sSeq (sDrop (mCall F__check_plan (mCons (mVar 0) (mCons (mVar 1) (mCons (mVar 2) (mCons (mVar 3) (mCons (mVar 4) mNil))))))) (sRet (mMeth 0 "broken_by" F_Plan__broken_by (mMake 0 F_Plan____init__ (mCons (mVar 0) (mCons (mVar 1) (mCons (mVar 3) (mCons (mVar 4) mNil))))) (mCons (mVar 2) mNil))))
def F_break_of : FnT := fnM 5 5 m_break_of
theorem ok_break_of (T : Txt g mg base a fd) : FnG P w g.K mg base 7 (a 24) (fd 24) ["picture", "writes", "gaps", "rules", "promise"] (spF g F_break_of) := fn_ok T.f_break_of sc_break_of fun cdv A outer s H E hr hc =>
  (rss_cons (rs_expr (re_call (takes_of rfl rfl rfl rfl) (ok__check_plan T) (hr.mono (by decide)) rfl T.g__check_plan T.f__check_plan.kp T.n__check_plan (ra_cons (re_var (i := 0)) (ra_cons (re_var (i := 1)) (ra_cons (re_var (i := 2)) (ra_cons (re_var (i := 3)) (ra_cons (re_var (i := 4)) ra_nil)))))))
    (rss_one (rs_ret (re_meth (takes_of rfl rfl rfl rfl) T.cl_Plan T.me_Plan__broken_by (ok_Plan__broken_by T) (hr.mono (by decide)) T.n_Plan__broken_by (re_make (takes_of rfl rfl rfl rfl) T.mk_Plan (ok_Plan____init__ T) (hr.mono (by decide)) rfl T.mg_Plan T.n_Plan____init__ (ra_cons (re_var (i := 0)) (ra_cons (re_var (i := 1)) (ra_cons (re_var (i := 3)) (ra_cons (re_var (i := 4)) ra_nil))))) (ra_cons (re_var (i := 2)) ra_nil)))))
theorem sc_keeps : FnScope ["picture", "writes", "gaps", "rules", "promise"] ["picture", "writes", "gaps", "rules", "promise"] (defScope (top 35)) := ⟨rfl, rfl, rfl, by decide +kernel, rfl, by decide +kernel, by decide +kernel⟩
def m_keeps : MS := (sRet (mBin (isNF false) (mCall F_break_of (mCons (mVar 0) (mCons (mVar 1) (mCons (mVar 2) (mCons (mVar 3) (mCons (mVar 4) mNil)))))) (mCon .none)))
def F_keeps : FnT := fnM 5 5 m_keeps
theorem ok_keeps (T : Txt g mg base a fd) : FnG P w g.K mg base 8 (a 25) (fd 25) ["picture", "writes", "gaps", "rules", "promise"] (spF g F_keeps) := fn_ok T.f_keeps sc_keeps fun cdv A outer s H E hr hc =>
  (rss_one (rs_ret (re_cmp ro_isN (re_call (takes_of rfl rfl rfl rfl) (ok_break_of T) (hr.mono (by decide)) rfl T.g_break_of T.f_break_of.kp T.n_break_of (ra_cons (re_var (i := 0)) (ra_cons (re_var (i := 1)) (ra_cons (re_var (i := 2)) (ra_cons (re_var (i := 3)) (ra_cons (re_var (i := 4)) ra_nil)))))) re_non)))
theorem sc_is_break : FnScope ["picture", "writes", "gaps", "rules", "promise", "value", "moment", "left"] ["picture", "writes", "gaps", "rules", "promise", "value"] (defScope (top 36)) := ⟨rfl, rfl, rfl, by decide +kernel, rfl, by decide +kernel, by decide +kernel⟩
def m_is_break : MS := (sSeq (sDrop (mCall F__check_plan (mCons (mVar 0) (mCons (mVar 1) (mCons (mVar 2) (mCons (mVar 3) (mCons (mVar 4) mNil))))))) (sSeq (sIf (mOr (mNot (mTru (mIsi "tuple" (mVar 5)))) (mOr (mB (mBin (eqF true) (mCB (un lenW) (mCons (mVar 5) mNil)) (mCon (.int 2)))) (mNot (mTru (mCall F_is_number (mCons (mBin ixF (mVar 5) (mCon (.int 0))) (mCons (mCon (.int 0)) (mCons (mCB (un lenW) (mCons (mVar 1) mNil)) mNil)))))))) (sRet (mCon (.bool false))) sNil) (sSeq (sAsg (mBin ixF (mVar 5) (mCon (.int 0))) (tName 6)) (sSeq (sAsg (mCall F__picture_left (mCons (mCall F__versions (mCons (mVar 0) (mCons (mVar 1) (mCons (mCall F__last_gap (mCons (mVar 2) (mCons (mVar 6) mNil))) (mCons (mVar 6) mNil))))) (mCons (mBin ixF (mVar 5) (mCon (.int 1))) mNil))) (tName 7)) (sRet (mAndV (mBin (isNF true) (mVar 7) (mCon .none)) (mBin (inAF true) (mCall F__meaning (mCons (mVar 7) (mCons (mVar 3) mNil))) (mBin ixF (mVar 4) (mVar 6)))))))))
def F_is_break : FnT := fnM 8 6 m_is_break
theorem ok_is_break (T : Txt g mg base a fd) : FnG P w g.K mg base 7 (a 26) (fd 26) ["picture", "writes", "gaps", "rules", "promise", "value"] (spF g F_is_break) := fn_ok T.f_is_break sc_is_break fun cdv A outer s H E hr hc =>
  (rss_cons (rs_expr (re_call (takes_of rfl rfl rfl rfl) (ok__check_plan T) (hr.mono (by decide)) rfl T.g__check_plan T.f__check_plan.kp T.n__check_plan (ra_cons (re_var (i := 0)) (ra_cons (re_var (i := 1)) (ra_cons (re_var (i := 2)) (ra_cons (re_var (i := 3)) (ra_cons (re_var (i := 4)) ra_nil)))))))
    (rss_cons (rs_if (PW.pt (rw_or (rt_not (rt_tru rfl (re_isi rfl rfl T.b_isinstance rfl (re_var (i := 5)) rfl T.b_tuple rfl))) (rw_or (rt_cmp (ro_ne rfl (un100 hr)) (re_callB (rc_len rfl) rfl T.b_len rfl (ra_cons (re_var (i := 5)) ra_nil)) re_int) (rw_or1 (rt_not (rt_tru rfl (re_call (takes_of rfl rfl rfl rfl) (ok_is_number T) (hr.mono (by decide)) rfl T.g_is_number T.f_is_number.kp T.n_is_number (ra_cons (re_ix rfl (un100 hr) (re_var (i := 5)) re_int) (ra_cons re_int (ra_cons (re_callB (rc_len rfl) rfl T.b_len rfl (ra_cons (re_var (i := 1)) ra_nil)) ra_nil)))))))))) (rss_one (rs_ret re_bl)) rss_nil)
    (rss_cons (rs_set sc_is_break.nd (re_ix rfl (un100 hr) (re_var (i := 5)) re_int))
    (rss_cons (rs_set sc_is_break.nd (re_call (takes_of rfl rfl rfl rfl) (ok__picture_left T) (hr.mono (by decide)) rfl T.g__picture_left T.f__picture_left.kp T.n__picture_left (ra_cons (re_call (takes_of rfl rfl rfl rfl) (ok__versions T) (hr.mono (by decide)) rfl T.g__versions T.f__versions.kp T.n__versions (ra_cons (re_var (i := 0)) (ra_cons (re_var (i := 1)) (ra_cons (re_call (takes_of rfl rfl rfl rfl) (ok__last_gap T) (hr.mono (by decide)) rfl T.g__last_gap T.f__last_gap.kp T.n__last_gap (ra_cons (re_var (i := 2)) (ra_cons (re_var (i := 6)) ra_nil))) (ra_cons (re_var (i := 6)) ra_nil))))) (ra_cons (re_ix rfl (un100 hr) (re_var (i := 5)) re_int) ra_nil))))
    (rss_one (rs_ret (re_and rfl (re_cmp ro_notN (re_var (i := 7)) re_non) (re_one (re_cmp (ro_notInA rfl (un100 hr)) (re_call (takes_of rfl rfl rfl rfl) (ok__meaning T) (hr.mono (by decide)) rfl T.g__meaning T.f__meaning.kp T.n__meaning (ra_cons (re_var (i := 7)) (ra_cons (re_var (i := 3)) ra_nil))) (re_ix rfl (un100 hr) (re_var (i := 4)) (re_var (i := 6))))))))))))
theorem sc__law_bowl : FnScope ["script", "spot", "cell", "great", "mixed"] ["script", "spot"] (defScope (top 38)) := ⟨rfl, rfl, rfl, by decide +kernel, rfl, by decide +kernel, by decide +kernel⟩
def m__law_bowl : MS := (sSeq (sAsg (mIf (mB (mBin (ordF .lt) (mVar 1) (mCB (un lenW) (mCons (mVar 0) mNil)))) (mCB (un intW) (mCons (mBin ixF (mVar 0) (mVar 1)) mNil)) (mBin (addF false) (mBin (mulF false) (mCon (.int 223)) (mVar 1)) (mCon (.int 83)))) (tName 2)) (sSeq (sAsg (mBin modF (mCB (un intW) (mCons (mCB (un absW) (mCons (mVar 2) mNil)) mNil)) (mBin powF (mBin powF (mCon (.int 10)) (mCon (.int 54))) (mCon (.int 7)))) (tName 3)) (sSeq (sAsg (mCB (un intW) (mCons (mBin (addF false) (mBin (addF false) (mBin (addF false) (mBin (mulF false) (mBin modF (mVar 3) (mCon (.int 2305843009213693921))) (mCon (.int 31572))) (mBin (mulF false) (mCon (.int 920)) (mVar 1))) (mBin (mulF false) (mCon (.int 41)) (mCB (un intW) (mCons (mBin (ordF .lt) (mVar 2) (mCon (.int 0))) mNil)))) (mCon (.int 137))) mNil)) (tName 4)) (sRet (mLst true (mCons (mCB (max2F) (mCons (mCon (.int 0)) (mCons (mBin subF (mVar 3) (mBin powF (mCon (.int 10)) (mCon (.int 16)))) mNil))) (mCons (mBin modF (mVar 4) (mCon (.int 2305843009213693951))) (mCons (mCon (.int 0)) mNil))))))))
def F__law_bowl : FnT := fnM 5 2 m__law_bowl
theorem ok__law_bowl (T : Txt g mg base a fd) : FnG P w g.K mg base 1 (a 27) (fd 27) ["script", "spot"] (spF g F__law_bowl) := fn_ok T.f__law_bowl sc__law_bowl fun cdv A outer s H E hr hc =>
  (rss_cons (rs_set sc__law_bowl.nd (re_ife (rt_cmp (ro_ord .lt rfl (un100 hr)) (re_var (i := 1)) (re_callB (rc_len rfl) rfl T.b_len rfl (ra_cons (re_var (i := 0)) ra_nil))) (re_callTy (rc_int) rfl T.b_int rfl (ra_cons (re_ix rfl (un100 hr) (re_var (i := 0)) (re_var (i := 1))) ra_nil)) (re_bin (ro_add rfl) (re_bin (ro_mul rfl) re_int (re_var (i := 1))) re_int)))
    (rss_cons (rs_set sc__law_bowl.nd (re_bin ro_mod (re_callTy (rc_int) rfl T.b_int rfl (ra_cons (re_callB (rc_abs) rfl T.b_abs rfl (ra_cons (re_var (i := 2)) ra_nil)) ra_nil)) (re_bin ro_pow (re_bin ro_pow re_int re_int) re_int)))
    (rss_cons (rs_set sc__law_bowl.nd (re_callTy (rc_int) rfl T.b_int rfl (ra_cons (re_bin (ro_add rfl) (re_bin (ro_add rfl) (re_bin (ro_add rfl) (re_bin (ro_mul rfl) (re_bin ro_mod (re_var (i := 3)) re_int) re_int) (re_bin (ro_mul rfl) re_int (re_var (i := 1)))) (re_bin (ro_mul rfl) re_int (re_callTy (rc_int) rfl T.b_int rfl (ra_cons (re_cmp (ro_ord .lt rfl (un100 hr)) (re_var (i := 2)) re_int) ra_nil)))) re_int) ra_nil)))
    (rss_one (rs_ret (re_lst (k := true) (ra_cons (re_callB (rc_max2 rfl) rfl T.b_max rfl (ra_cons re_int (ra_cons (re_bin ro_sub (re_var (i := 3)) (re_bin ro_pow re_int re_int)) ra_nil))) (ra_cons (re_bin ro_mod (re_var (i := 4)) re_int) (ra_cons re_int ra_nil)))))))))
theorem sc__law_dip : FnScope ["bowl", "total", "one", "two", "found"] ["bowl", "total"] (defScope (top 39)) := ⟨rfl, rfl, rfl, by decide +kernel, rfl, by decide +kernel, by decide +kernel⟩
def m__law_dip : MS := (sSeq (sIf (mB (mBin (ordF .gt) (mBin ixF (mVar 0) (mCon (.int 0))) (mCon (.int 0)))) (sSeq (sAsg (mBin modF (mCB (un intW) (mCons (mBin ixF (mVar 0) (mCon (.int 0))) mNil)) (mVar 1)) (tName 4)) (sSeq (sAsg (mBin fdivF (mBin ixF (mVar 0) (mCon (.int 0))) (mVar 1)) (tSub (mVar 0) (mCon (.int 0)) setF)) (sRet (mVar 4)))) sNil) (sSeq (sAsg (mBin (addF false) (mBin ixF (mVar 0) (mCon (.int 2))) (mCon (.int 1))) (tSub (mVar 0) (mCon (.int 2)) setF)) (sSeq (sAsg (mBin modF (mCB (un intW) (mCons (mBin (addF false) (mBin ixF (mVar 0) (mCon (.int 1))) (mBin (mulF false) (mCon (.int 15486086)) (mBin ixF (mVar 0) (mCon (.int 2))))) mNil)) (mCon (.int 2305843009213693907))) (tName 2)) (sSeq (sAsg (mBin (addF false) (mBin (mulF false) (mBin modF (mCB (un intW) (mCons (mBin (addF false) (mBin (mulF false) (mVar 2) (mVar 2)) (mBin (mulF false) (mCon (.int 86)) (mBin ixF (mVar 0) (mCon (.int 2))))) mNil)) (mCon (.int 2305843009213693951))) (mCon (.int 49979687))) (mVar 2)) (tName 3)) (sRet (mBin modF (mCB (un intW) (mCons (mBin fdivF (mVar 3) (mCon (.int 65536))) mNil)) (mVar 1)))))))
def F__law_dip : FnT := fnM 5 2 m__law_dip
theorem ok__law_dip (T : Txt g mg base a fd) : FnG P w g.K mg base 1 (a 28) (fd 28) ["bowl", "total"] (spF g F__law_dip) := fn_ok T.f__law_dip sc__law_dip fun cdv A outer s H E hr hc =>
  (rss_cons (rs_if (rt_cmp (ro_ord .gt rfl (un100 hr)) (re_ix rfl (un100 hr) (re_var (i := 0)) re_int) re_int) (rss_cons (rs_set sc__law_dip.nd (re_bin ro_mod (re_callTy (rc_int) rfl T.b_int rfl (ra_cons (re_ix rfl (un100 hr) (re_var (i := 0)) re_int) ra_nil)) (re_var (i := 1))))
    (rss_cons (rs_asg (re_bin ro_fdiv (re_ix rfl (un100 hr) (re_var (i := 0)) re_int) (re_var (i := 1))) (rg_sub (re_var (i := 0)) re_int (set_ok (un1 hr))))
    (rss_one (rs_ret (re_var (i := 4)))))) rss_nil)
    (rss_cons (rs_asg (re_bin (ro_add rfl) (re_ix rfl (un100 hr) (re_var (i := 0)) re_int) re_int) (rg_sub (re_var (i := 0)) re_int (set_ok (un1 hr))))
    (rss_cons (rs_set sc__law_dip.nd (re_bin ro_mod (re_callTy (rc_int) rfl T.b_int rfl (ra_cons (re_bin (ro_add rfl) (re_ix rfl (un100 hr) (re_var (i := 0)) re_int) (re_bin (ro_mul rfl) re_int (re_ix rfl (un100 hr) (re_var (i := 0)) re_int))) ra_nil)) re_int))
    (rss_cons (rs_set sc__law_dip.nd (re_bin (ro_add rfl) (re_bin (ro_mul rfl) (re_bin ro_mod (re_callTy (rc_int) rfl T.b_int rfl (ra_cons (re_bin (ro_add rfl) (re_bin (ro_mul rfl) (re_var (i := 2)) (re_var (i := 2))) (re_bin (ro_mul rfl) re_int (re_ix rfl (un100 hr) (re_var (i := 0)) re_int))) ra_nil)) re_int) re_int) (re_var (i := 2))))
    (rss_one (rs_ret (re_bin ro_mod (re_callTy (rc_int) rfl T.b_int rfl (ra_cons (re_bin ro_fdiv (re_var (i := 3)) re_int) ra_nil)) (re_var (i := 1)))))))))
theorem sc__law_taste : FnScope ["bowl", "items"] ["bowl", "items"] (defScope (top 40)) := ⟨rfl, rfl, rfl, by decide +kernel, rfl, by decide +kernel, by decide +kernel⟩
def m__law_taste : MS := (sRet (mBin ixF (mVar 1) (mCall F__law_dip (mCons (mVar 0) (mCons (mCB (un lenW) (mCons (mVar 1) mNil)) mNil)))))
def F__law_taste : FnT := fnM 2 2 m__law_taste
theorem ok__law_taste (T : Txt g mg base a fd) : FnG P w g.K mg base 2 (a 29) (fd 29) ["bowl", "items"] (spF g F__law_taste) := fn_ok T.f__law_taste sc__law_taste fun cdv A outer s H E hr hc =>
  (rss_one (rs_ret (re_ix rfl (un100 hr) (re_var (i := 1)) (re_call (takes_of rfl rfl rfl rfl) (ok__law_dip T) (hr.mono (by decide)) rfl T.g__law_dip T.f__law_dip.kp T.n__law_dip (ra_cons (re_var (i := 0)) (ra_cons (re_callB (rc_len rfl) rfl T.b_len rfl (ra_cons (re_var (i := 1)) ra_nil)) ra_nil))))))
theorem sc__law_drawn : FnScope ["bowl", "size", "picture", "writes", "turn", "cell"] ["bowl"] (defScope (top 41)) := ⟨rfl, rfl, rfl, by decide +kernel, rfl, by decide +kernel, by decide +kernel⟩
def m__law_drawn : MS := (sSeq (sAsg (mBin (addF false) (mCon (.int 1)) (mCall F__law_dip (mCons (mVar 0) (mCons (mCon (.int 4)) mNil)))) (tName 1)) (sSeq (sAsg (mCB (tupleF) (mCons (mComp false (mRng1 (mCons (mVar 1) mNil)) [5] (tName 5) mYes (mCall F__law_dip (mCons (mVar 0) (mCons (mCon (.int 3)) mNil)))) mNil)) (tName 2)) (sSeq (sAsg (mLst true mNil) (tName 3)) (sSeq (sFor (mRng1 (mCons (mCall F__law_dip (mCons (mVar 0) (mCons (mCon (.int 7)) mNil))) mNil)) (tName 4) (sDrop (mMt .lst appF (mVar 3) (mCons (mTup (mCons (mCall F__law_dip (mCons (mVar 0) (mCons (mVar 1) mNil))) (mCons (mCall F__law_taste (mCons (mVar 0) (mCons (mLst false (mCons (mCon (.int 0)) (mCons (mCon (.int 1)) (mCons (mCon (.int 1)) (mCons (mCon (.int 2)) (mCons (mCon (.int 3)) (mCons (mCon (.int 9)) mNil))))))) mNil))) mNil))) mNil)))) (sRet (mTup (mCons (mVar 2) (mCons (mCB (tupleF) (mCons (mVar 3) mNil)) mNil))))))))
def F__law_drawn : FnT := fnM 6 1 m__law_drawn
theorem ok__law_drawn (T : Txt g mg base a fd) : FnG P w g.K mg base 3 (a 30) (fd 30) ["bowl"] (spF g F__law_drawn) := fn_ok T.f__law_drawn sc__law_drawn fun cdv A outer s H E hr hc =>
  (rss_cons (rs_set sc__law_drawn.nd (re_bin (ro_add rfl) re_int (re_call (takes_of rfl rfl rfl rfl) (ok__law_dip T) (hr.mono (by decide)) rfl T.g__law_dip T.f__law_dip.kp T.n__law_dip (ra_cons (re_var (i := 0)) (ra_cons re_int ra_nil)))))
    (rss_cons (rs_set sc__law_drawn.nd (re_callTy (rc_tuple rfl) rfl T.b_tuple rfl (ra_cons (re_lc (k := false) rfl sc__law_drawn.nd (own := [("cell", 5)]) (blkOk_by (by rfl)) (ri_range1 rfl T.b_range (ra_cons (re_var (i := 1)) ra_nil)) (fun s H C cl fp => (rc_name (i := 5) sc__law_drawn.nd)) (fun s H C cl fp => rts_nil) (fun s H C cl fp => (re_call takes0 (ok__law_dip T) (hr.mono (by decide)) rfl T.g__law_dip T.f__law_dip.kp T.n__law_dip (ra_cons (re_var (i := 0)) (ra_cons re_int ra_nil))))) ra_nil)))
    (rss_cons (rs_set sc__law_drawn.nd (re_lst (k := true) ra_nil))
    (rss_cons (rs_for (passes_of rfl) rfl (ri_range1 rfl T.b_range (ra_cons (re_call (takes_of rfl rfl rfl rfl) (ok__law_dip T) (hr.mono (by decide)) rfl T.g__law_dip T.f__law_dip.kp T.n__law_dip (ra_cons (re_var (i := 0)) (ra_cons re_int ra_nil))) ra_nil)) (rg_name (i := 4) sc__law_drawn.nd) (rss_one (rs_expr (re_mt rfl (T := .lst) PySem.F.plainAttrs_list PySem.F.slot_list_append PySem.F.type_list_append (mt_app) (re_var (i := 3)) (ra_cons (re_tup (ra_cons (re_call (takes_of rfl rfl rfl rfl) (ok__law_dip T) (hr.mono (by decide)) rfl T.g__law_dip T.f__law_dip.kp T.n__law_dip (ra_cons (re_var (i := 0)) (ra_cons (re_var (i := 1)) ra_nil))) (ra_cons (re_call (takes_of rfl rfl rfl rfl) (ok__law_taste T) (hr.mono (by decide)) rfl T.g__law_taste T.f__law_taste.kp T.n__law_taste (ra_cons (re_var (i := 0)) (ra_cons (re_lst (k := false) (ra_cons re_int (ra_cons re_int (ra_cons re_int (ra_cons re_int (ra_cons re_int (ra_cons re_int ra_nil))))))) ra_nil))) ra_nil))) ra_nil)))))
    (rss_one (rs_ret (re_tup (ra_cons (re_var (i := 2)) (ra_cons (re_callTy (rc_tuple rfl) rfl T.b_tuple rfl (ra_cons (re_var (i := 3)) ra_nil)) ra_nil)))))))))
theorem sc__law_gaps : FnScope ["bowl", "many", "found", "gap"] ["bowl", "many"] (defScope (top 42)) := ⟨rfl, rfl, rfl, by decide +kernel, rfl, by decide +kernel, by decide +kernel⟩
def m__law_gaps : MS := (sSeq (sAsg (mLst true mNil) (tName 2)) (sSeq (sFor (mRng2 (mCons (mCon (.int 1)) (mCons (mBin (addF false) (mVar 1) (mCon (.int 1))) mNil))) (tName 3) (sIf (mB (mBin (eqF false) (mCall F__law_dip (mCons (mVar 0) (mCons (mCon (.int 3)) mNil))) (mCon (.int 0)))) (sDrop (mMt .lst appF (mVar 2) (mCons (mVar 3) mNil))) sNil)) (sRet (mCB (tupleF) (mCons (mVar 2) mNil)))))
def F__law_gaps : FnT := fnM 4 2 m__law_gaps
theorem ok__law_gaps (T : Txt g mg base a fd) : FnG P w g.K mg base 2 (a 31) (fd 31) ["bowl", "many"] (spF g F__law_gaps) := fn_ok T.f__law_gaps sc__law_gaps fun cdv A outer s H E hr hc =>
  (rss_cons (rs_set sc__law_gaps.nd (re_lst (k := true) ra_nil))
    (rss_cons (rs_for (passes_of rfl) rfl (ri_range2 rfl T.b_range (ra_cons re_int (ra_cons (re_bin (ro_add rfl) (re_var (i := 1)) re_int) ra_nil))) (rg_name (i := 3) sc__law_gaps.nd) (rss_one (rs_if (rt_cmp (ro_eq rfl (un100 hr)) (re_call (takes_of rfl rfl rfl rfl) (ok__law_dip T) (hr.mono (by decide)) rfl T.g__law_dip T.f__law_dip.kp T.n__law_dip (ra_cons (re_var (i := 0)) (ra_cons re_int ra_nil))) re_int) (rss_one (rs_expr (re_mt rfl (T := .lst) PySem.F.plainAttrs_list PySem.F.slot_list_append PySem.F.type_list_append (mt_app) (re_var (i := 2)) (ra_cons (re_var (i := 3)) ra_nil)))) rss_nil)))
    (rss_one (rs_ret (re_callTy (rc_tuple rfl) rfl T.b_tuple rfl (ra_cons (re_var (i := 2)) ra_nil))))))
theorem sc__law_rows : FnScope ["picture", "writes", "gaps", "moment", "rows", "at", "number", "row"] ["picture", "writes", "gaps", "moment"] (defScope (top 43)) := ⟨rfl, rfl, rfl, by decide +kernel, rfl, by decide +kernel, by decide +kernel⟩
def m__law_rows : MS := (sSeq (sAsg (mComp false (mItS (mVar 0)) [6] (tName 6) mYes (mLst true (mCons (mVar 6) mNil))) (tName 4)) (sSeq (sFor (mRng1 (mCons (mVar 3) mNil)) (tName 5) (sSeq (sDrop (mMt .lst appF (mBin ixF (mVar 4) (mBin ixF (mBin ixF (mVar 1) (mVar 5)) (mCon (.int 0)))) (mCons (mBin ixF (mBin ixF (mVar 1) (mVar 5)) (mCon (.int 1))) mNil))) (sIf (mAnd (mB (mBin (inAF false) (mBin (addF false) (mVar 5) (mCon (.int 1))) (mVar 2))) (mB (mBin (ordF .lt) (mBin (addF false) (mVar 5) (mCon (.int 1))) (mVar 3)))) (sAsg (mComp false (mItS (mVar 4)) [7] (tName 7) mYes (mLst true (mCons (mBin ixF (mVar 7) (mNeg (mCon (.int 1)))) mNil))) (tName 4)) sNil))) (sRet (mVar 4))))
def F__law_rows : FnT := fnM 8 4 m__law_rows
theorem ok__law_rows (T : Txt g mg base a fd) : FnG P w g.K mg base 1 (a 32) (fd 32) ["picture", "writes", "gaps", "moment"] (spF g F__law_rows) := fn_ok T.f__law_rows sc__law_rows fun cdv A outer s H E hr hc =>
  (rss_cons (rs_setLc (k := false) rfl sc__law_rows.nd rfl rfl rfl (own := [("number", 6)]) (blkOk_by (by rfl)) (ri_all rfl (re_var (i := 0))) (fun s H C cl fp => (rc_name (i := 6) sc__law_rows.nd)) (fun s H C cl fp => rts_nil) (fun s H C cl fp => (re_lst (k := true) (ra_cons (re_var (i := 6)) ra_nil))))
    (rss_cons (rs_for (passes_of rfl) rfl (ri_range1 rfl T.b_range (ra_cons (re_var (i := 3)) ra_nil)) (rg_name (i := 5) sc__law_rows.nd) (rss_cons (rs_expr (re_mt rfl (T := .lst) PySem.F.plainAttrs_list PySem.F.slot_list_append PySem.F.type_list_append (mt_app) (re_ix rfl (un100 hr) (re_var (i := 4)) (re_ix rfl (un100 hr) (re_ix rfl (un100 hr) (re_var (i := 1)) (re_var (i := 5))) re_int)) (ra_cons (re_ix rfl (un100 hr) (re_ix rfl (un100 hr) (re_var (i := 1)) (re_var (i := 5))) re_int) ra_nil)))
    (rss_one (rs_if (PW.pt (rw_and (rt_cmp (ro_inA rfl (un100 hr)) (re_bin (ro_add rfl) (re_var (i := 5)) re_int) (re_var (i := 2))) (rw_and1 (rt_cmp (ro_ord .lt rfl (un100 hr)) (re_bin (ro_add rfl) (re_var (i := 5)) re_int) (re_var (i := 3)))))) (rss_one (rs_setLc (k := false) rfl sc__law_rows.nd rfl rfl rfl (own := [("row", 7)]) (blkOk_by (by rfl)) (ri_all rfl (re_var (i := 4))) (fun s H C cl fp => (rc_name (i := 7) sc__law_rows.nd)) (fun s H C cl fp => rts_nil) (fun s H C cl fp => (re_lst (k := true) (ra_cons (re_ix rfl (un100 hr) (re_var (i := 7)) (re_neg re_int)) ra_nil))))) rss_nil))))
    (rss_one (rs_ret (re_var (i := 4))))))
theorem sc__law_all : FnScope ["rows", "some", "row", "longer", "begun", "number"] ["rows"] (defScope (top 44)) := ⟨rfl, rfl, rfl, by decide +kernel, rfl, by decide +kernel, by decide +kernel⟩
def m__law_all : MS := (sSeq (sAsg (mLst false (mCons (mTup mNil) mNil)) (tName 1)) (sSeq (sFor (mItS (mVar 0)) (tName 2) (sSeq (sAsg (mLst true mNil) (tName 3)) (sSeq (sFor (mItS (mVar 1)) (tName 4) (sDrop (mMt .lst extF (mVar 3) (mCons (mComp false (mItS (mCB (sortSetF false) (mCons (mVar 2) mNil))) [5] (tName 5) mYes (mBin (addF false) (mVar 4) (mTup (mCons (mVar 5) mNil)))) mNil)))) (sAsg (mVar 3) (tName 1))))) (sRet (mVar 1))))
def F__law_all : FnT := fnM 6 1 m__law_all
theorem ok__law_all (T : Txt g mg base a fd) : FnG P w g.K mg base 1 (a 33) (fd 33) ["rows"] (spF g F__law_all) := fn_ok T.f__law_all sc__law_all fun cdv A outer s H E hr hc =>
  (rss_cons (rs_set sc__law_all.nd (re_lst (k := false) (ra_cons (re_tup ra_nil) ra_nil)))
    (rss_cons (rs_for (passes_of rfl) rfl (ri_all rfl (re_var (i := 0))) (rg_name (i := 2) sc__law_all.nd) (rss_cons (rs_set sc__law_all.nd (re_lst (k := true) ra_nil))
    (rss_cons (rs_for (passes_of rfl) rfl (ri_all rfl (re_var (i := 1))) (rg_name (i := 4) sc__law_all.nd) (rss_one (rs_expr (re_mt rfl (T := .lst) PySem.F.plainAttrs_list PySem.F.slot_list_extend PySem.F.type_list_extend (mt_ext) (re_var (i := 3)) (ra_cons (re_lc (k := false) rfl sc__law_all.nd (own := [("number", 5)]) (blkOk_by (by rfl)) (ri_all rfl (re_sortSet (k := false) rfl rfl (un100 hr) (ra_cons (re_var (i := 2)) ra_nil) rfl T.b_sorted rfl rfl T.b_set rfl)) (fun s H C cl fp => (rc_name (i := 5) sc__law_all.nd)) (fun s H C cl fp => rts_nil) (fun s H C cl fp => (re_bin (ro_add rfl) (re_var (i := 4)) (re_tup (ra_cons (re_var (i := 5)) ra_nil))))) ra_nil)))))
    (rss_one (rs_set sc__law_all.nd (re_var (i := 3)))))))
    (rss_one (rs_ret (re_var (i := 1))))))
theorem sc__law_rules : FnScope ["bowl", "size", "found", "turn", "pattern", "cell"] ["bowl", "size"] (defScope (top 45)) := ⟨rfl, rfl, rfl, by decide +kernel, rfl, by decide +kernel, by decide +kernel⟩
def m__law_rules : MS := (sSeq (sAsg (mLst true mNil) (tName 2)) (sSeq (sFor (mRng1 (mCons (mCall F__law_dip (mCons (mVar 0) (mCons (mCon (.int 5)) mNil))) mNil)) (tName 3) (sSeq (sAsg (mCB (tupleF) (mCons (mComp false (mRng1 (mCons (mVar 1) mNil)) [5] (tName 5) mYes (mCall F__law_taste (mCons (mVar 0) (mCons (mLst false (mCons (mCon .none) (mCons (mCon .none) (mCons (mCon (.int 0)) (mCons (mCon (.int 1)) (mCons (mCon (.int 2)) mNil)))))) mNil)))) mNil)) (tName 4)) (sDrop (mMt .lst appF (mVar 2) (mCons (mTup (mCons (mVar 4) (mCons (mCall F__law_taste (mCons (mVar 0) (mCons (mLst false (mCons (mCon (.str "a")) (mCons (mCon (.str "b")) (mCons (mCon (.str "old")) (mCons (mCon (.str "new")) mNil))))) mNil))) mNil))) mNil))))) (sRet (mCB (tupleF) (mCons (mBin (addF false) (mVar 2) (mBin (mulF1 false) (mLst false (mCons (mTup (mCons (mBin (mulF1 false) (mTup (mCons (mCon .none) mNil)) (mVar 1)) (mCons (mCon (.str "rest")) mNil))) mNil)) (mCB (un intW) (mCons (mBin (ordF .gt) (mCall F__law_dip (mCons (mVar 0) (mCons (mCon (.int 4)) mNil))) (mCon (.int 0))) mNil)))) mNil)))))
def F__law_rules : FnT := fnM 6 2 m__law_rules
theorem ok__law_rules (T : Txt g mg base a fd) : FnG P w g.K mg base 3 (a 34) (fd 34) ["bowl", "size"] (spF g F__law_rules) := fn_ok T.f__law_rules sc__law_rules fun cdv A outer s H E hr hc =>
  (rss_cons (rs_set sc__law_rules.nd (re_lst (k := true) ra_nil))
    (rss_cons (rs_for (passes_of rfl) rfl (ri_range1 rfl T.b_range (ra_cons (re_call (takes_of rfl rfl rfl rfl) (ok__law_dip T) (hr.mono (by decide)) rfl T.g__law_dip T.f__law_dip.kp T.n__law_dip (ra_cons (re_var (i := 0)) (ra_cons re_int ra_nil))) ra_nil)) (rg_name (i := 3) sc__law_rules.nd) (rss_cons (rs_set sc__law_rules.nd (re_callTy (rc_tuple rfl) rfl T.b_tuple rfl (ra_cons (re_lc (k := false) rfl sc__law_rules.nd (own := [("cell", 5)]) (blkOk_by (by rfl)) (ri_range1 rfl T.b_range (ra_cons (re_var (i := 1)) ra_nil)) (fun s H C cl fp => (rc_name (i := 5) sc__law_rules.nd)) (fun s H C cl fp => rts_nil) (fun s H C cl fp => (re_call takes0 (ok__law_taste T) (hr.mono (by decide)) rfl T.g__law_taste T.f__law_taste.kp T.n__law_taste (ra_cons (re_var (i := 0)) (ra_cons (re_lst (k := false) (ra_cons re_non (ra_cons re_non (ra_cons re_int (ra_cons re_int (ra_cons re_int ra_nil)))))) ra_nil))))) ra_nil)))
    (rss_one (rs_expr (re_mt rfl (T := .lst) PySem.F.plainAttrs_list PySem.F.slot_list_append PySem.F.type_list_append (mt_app) (re_var (i := 2)) (ra_cons (re_tup (ra_cons (re_var (i := 4)) (ra_cons (re_call (takes_of rfl rfl rfl rfl) (ok__law_taste T) (hr.mono (by decide)) rfl T.g__law_taste T.f__law_taste.kp T.n__law_taste (ra_cons (re_var (i := 0)) (ra_cons (re_lst (k := false) (ra_cons re_str (ra_cons re_str (ra_cons re_str (ra_cons re_str ra_nil))))) ra_nil))) ra_nil))) ra_nil))))))
    (rss_one (rs_ret (re_callTy (rc_tuple rfl) rfl T.b_tuple rfl (ra_cons (re_bin (ro_add rfl) (re_var (i := 2)) (re_bin (ro_mul1 rfl) (re_lst (k := false) (ra_cons (re_tup (ra_cons (re_bin (ro_mul1 rfl) (re_tup (ra_cons re_non ra_nil)) (re_var (i := 1))) (ra_cons re_str ra_nil))) ra_nil)) (re_callTy (rc_int) rfl T.b_int rfl (ra_cons (re_cmp (ro_ord .gt rfl (un100 hr)) (re_call (takes_of rfl rfl rfl rfl) (ok__law_dip T) (hr.mono (by decide)) rfl T.g__law_dip T.f__law_dip.kp T.n__law_dip (ra_cons (re_var (i := 0)) (ra_cons re_int ra_nil))) re_int) ra_nil)))) ra_nil))))))
theorem sc__law_meaning : FnScope ["picture", "rules", "pattern", "name", "one", "number"] ["picture", "rules"] (defScope (top 46)) := ⟨rfl, rfl, rfl, by decide +kernel, rfl, by decide +kernel, by decide +kernel⟩
def m__law_meaning : MS := (sSeq (sFor (mItS (mVar 1)) (tTup 2 (tCons (tName 2) (tCons (tName 3) tNil))) (sIf (mB (mBin (eqF false) (mComp false (mZip (mCons (mVar 2) (mCons (mVar 0) mNil))) [4, 5] (tTup 2 (tCons (tName 4) (tCons (tName 5) tNil))) (mAnd (mB (mBin (isNF true) (mVar 4) (mCon .none))) (mB (mBin (eqF true) (mVar 4) (mVar 5)))) (mCon (.int 1))) (mLst false mNil))) (sRet (mVar 3)) sNil)) (sRet (mCon .none)))
def F__law_meaning : FnT := fnM 6 2 m__law_meaning
theorem ok__law_meaning (T : Txt g mg base a fd) : FnG P w g.K mg base 1 (a 35) (fd 35) ["picture", "rules"] (spF g F__law_meaning) := fn_ok T.f__law_meaning sc__law_meaning fun cdv A outer s H E hr hc =>
  (rss_cons (rs_for (passes_of rfl) rfl (ri_all rfl (re_var (i := 1))) (rg_tup rfl rfl (rgs_cons (rg_name (i := 2) sc__law_meaning.nd) (rgs_cons (rg_name (i := 3) sc__law_meaning.nd) rgs_nil calm_nil) (calm_cons calm_name calm_nil))) (rss_one (rs_if (rt_cmp (ro_eq rfl (un100 hr)) (re_lc (k := false) rfl sc__law_meaning.nd (own := [("one", 4), ("number", 5)]) (blkOk_by (by rfl)) (ri_zip rfl rfl T.b_zip (ra_cons (re_var (i := 2)) (ra_cons (re_var (i := 0)) ra_nil))) (fun s H C cl fp => (rc_tup rfl rfl (rcs_cons (rc_name (i := 4) sc__law_meaning.nd) (rcs_cons (rc_name (i := 5) sc__law_meaning.nd) rcs_nil calm_nil) (calm_cons calm_name calm_nil)))) (fun s H C cl fp => (rts_one (PW.pt (rw_and (rt_cmp ro_notN (re_var (i := 4)) re_non) (rw_and1 (rt_cmp (ro_ne rfl (un100 hr)) (re_var (i := 4)) (re_var (i := 5)))))))) (fun s H C cl fp => re_int)) (re_lst (k := false) ra_nil)) (rss_one (rs_ret (re_var (i := 3)))) rss_nil)))
    (rss_one (rs_ret re_non)))
theorem sc__law_names : FnScope ["picture", "writes", "gaps", "rules", "moment", "names", "one", "name"] ["picture", "writes", "gaps", "rules", "moment"] (defScope (top 47)) := ⟨rfl, rfl, rfl, by decide +kernel, rfl, by decide +kernel, by decide +kernel⟩
def m__law_names : MS := (sSeq (sAsg (mComp false (mItS (mCall F__law_all (mCons (mCall F__law_rows (mCons (mVar 0) (mCons (mVar 1) (mCons (mVar 2) (mCons (mVar 4) mNil))))) mNil))) [6] (tName 6) mYes (mCall F__law_meaning (mCons (mVar 6) (mCons (mVar 3) mNil)))) (tName 5)) (sRet (mCB (tupleF) (mCons (mCB (sortSetXF false) (mCons (mComp false (mItS (mVar 5)) [7] (tName 7) (mB (mBin (isNF true) (mVar 7) (mCon .none))) (mVar 7)) mNil)) mNil))))
def F__law_names : FnT := fnM 8 5 m__law_names
theorem ok__law_names (T : Txt g mg base a fd) : FnG P w g.K mg base 2 (a 36) (fd 36) ["picture", "writes", "gaps", "rules", "moment"] (spF g F__law_names) := fn_ok T.f__law_names sc__law_names fun cdv A outer s H E hr hc =>
  (rss_cons (rs_setLc (k := false) rfl sc__law_names.nd rfl rfl rfl (own := [("one", 6)]) (blkOk_by (by rfl)) (ri_all rfl (re_call (takes_of rfl rfl rfl rfl) (ok__law_all T) (hr.mono (by decide)) rfl T.g__law_all T.f__law_all.kp T.n__law_all (ra_cons (re_call (takes_of rfl rfl rfl rfl) (ok__law_rows T) (hr.mono (by decide)) rfl T.g__law_rows T.f__law_rows.kp T.n__law_rows (ra_cons (re_var (i := 0)) (ra_cons (re_var (i := 1)) (ra_cons (re_var (i := 2)) (ra_cons (re_var (i := 4)) ra_nil))))) ra_nil))) (fun s H C cl fp => (rc_name (i := 6) sc__law_names.nd)) (fun s H C cl fp => rts_nil) (fun s H C cl fp => (re_call takes0 (ok__law_meaning T) (hr.mono (by decide)) rfl T.g__law_meaning T.f__law_meaning.kp T.n__law_meaning (ra_cons (re_var (i := 6)) (ra_cons (re_var (i := 3)) ra_nil)))))
    (rss_one (rs_ret (re_callTy (rc_tuple rfl) rfl T.b_tuple rfl (ra_cons (re_sortSetX (k := false) rfl rfl (un100 hr) (ra_cons (re_lc (k := false) rfl sc__law_names.nd (own := [("name", 7)]) (blkOk_by (by rfl)) (ri_all rfl (re_var (i := 5))) (fun s H C cl fp => (rc_name (i := 7) sc__law_names.nd)) (fun s H C cl fp => (rts_one (rt_cmp ro_notN (re_var (i := 7)) re_non))) (fun s H C cl fp => (re_var (i := 7)))) ra_nil) rfl T.b_sorted rfl rfl T.b_set rfl) ra_nil)))))
theorem sc__law_promise : FnScope ["bowl", "picture", "writes", "gaps", "rules", "found", "turn", "at", "name", "rest", "moment", "one"] ["bowl", "picture", "writes", "gaps", "rules"] (defScope (top 48)) := ⟨rfl, rfl, rfl, by decide +kernel, rfl, by decide +kernel, by decide +kernel⟩
def m__law_promise : MS := (sSeq (sAsg (mComp true (mRng1 (mCons (mBin (addF false) (mCB (un lenW) (mCons (mVar 2) mNil)) (mCon (.int 1))) mNil)) [10] (tName 10) mYes (mCall F__law_names (mCons (mVar 1) (mCons (mVar 2) (mCons (mVar 3) (mCons (mVar 4) (mCons (mVar 10) mNil))))))) (tName 5)) (sSeq (sFor (mRng1 (mCons (mCall F__law_dip (mCons (mVar 0) (mCons (mCon (.int 3)) mNil))) mNil)) (tName 6) (sSeq (sAsg (mCall F__law_dip (mCons (mVar 0) (mCons (mCB (un lenW) (mCons (mVar 5) mNil)) mNil))) (tName 7)) (sSeq (sAsg (mCall F__law_taste (mCons (mVar 0) (mCons (mLst false (mCons (mCon (.str "a")) (mCons (mCon (.str "b")) (mCons (mCon (.str "old")) (mCons (mCon (.str "new")) (mCons (mCon (.str "rest")) (mCons (mCon (.str "zz")) mNil))))))) mNil))) (tName 8)) (sSeq (sAsg (mComp false (mItS (mBin ixF (mVar 5) (mVar 7))) [11] (tName 11) (mB (mBin (eqF true) (mVar 11) (mVar 8))) (mVar 11)) (tName 9)) (sAsg (mCB (tupleF) (mCons (mIf (mB (mBin (ordF .gt) (mCall F__law_dip (mCons (mVar 0) (mCons (mCon (.int 3)) mNil))) (mCon (.int 0)))) (mVar 9) (mCB (sortSetXF false) (mCons (mBin (addF false) (mVar 9) (mLst false (mCons (mVar 8) mNil))) mNil))) mNil)) (tSub (mVar 5) (mVar 7) setF)))))) (sRet (mCB (tupleF) (mCons (mVar 5) mNil)))))
def F__law_promise : FnT := fnM 12 5 m__law_promise
theorem ok__law_promise (T : Txt g mg base a fd) : FnG P w g.K mg base 3 (a 37) (fd 37) ["bowl", "picture", "writes", "gaps", "rules"] (spF g F__law_promise) := fn_ok T.f__law_promise sc__law_promise fun cdv A outer s H E hr hc =>
  (rss_cons (rs_setLc (k := true) rfl sc__law_promise.nd rfl rfl rfl (own := [("moment", 10)]) (blkOk_by (by rfl)) (ri_range1 rfl T.b_range (ra_cons (re_bin (ro_add rfl) (re_callB (rc_len rfl) rfl T.b_len rfl (ra_cons (re_var (i := 2)) ra_nil)) re_int) ra_nil)) (fun s H C cl fp => (rc_name (i := 10) sc__law_promise.nd)) (fun s H C cl fp => rts_nil) (fun s H C cl fp => (re_call takes0 (ok__law_names T) (hr.mono (by decide)) rfl T.g__law_names T.f__law_names.kp T.n__law_names (ra_cons (re_var (i := 1)) (ra_cons (re_var (i := 2)) (ra_cons (re_var (i := 3)) (ra_cons (re_var (i := 4)) (ra_cons (re_var (i := 10)) ra_nil))))))))
    (rss_cons (rs_for (passes_of rfl) rfl (ri_range1 rfl T.b_range (ra_cons (re_call (takes_of rfl rfl rfl rfl) (ok__law_dip T) (hr.mono (by decide)) rfl T.g__law_dip T.f__law_dip.kp T.n__law_dip (ra_cons (re_var (i := 0)) (ra_cons re_int ra_nil))) ra_nil)) (rg_name (i := 6) sc__law_promise.nd) (rss_cons (rs_set sc__law_promise.nd (re_call (takes_of rfl rfl rfl rfl) (ok__law_dip T) (hr.mono (by decide)) rfl T.g__law_dip T.f__law_dip.kp T.n__law_dip (ra_cons (re_var (i := 0)) (ra_cons (re_callB (rc_len rfl) rfl T.b_len rfl (ra_cons (re_var (i := 5)) ra_nil)) ra_nil))))
    (rss_cons (rs_set sc__law_promise.nd (re_call (takes_of rfl rfl rfl rfl) (ok__law_taste T) (hr.mono (by decide)) rfl T.g__law_taste T.f__law_taste.kp T.n__law_taste (ra_cons (re_var (i := 0)) (ra_cons (re_lst (k := false) (ra_cons re_str (ra_cons re_str (ra_cons re_str (ra_cons re_str (ra_cons re_str (ra_cons re_str ra_nil))))))) ra_nil))))
    (rss_cons (rs_setLc (k := false) rfl sc__law_promise.nd rfl rfl rfl (own := [("one", 11)]) (blkOk_by (by rfl)) (ri_all rfl (re_ix rfl (un100 hr) (re_var (i := 5)) (re_var (i := 7)))) (fun s H C cl fp => (rc_name (i := 11) sc__law_promise.nd)) (fun s H C cl fp => (rts_one (rt_cmp (ro_ne rfl (un100 hr)) (re_var (i := 11)) (re_var (i := 8))))) (fun s H C cl fp => (re_var (i := 11))))
    (rss_one (rs_asg (re_callTy (rc_tuple rfl) rfl T.b_tuple rfl (ra_cons (re_ife (rt_cmp (ro_ord .gt rfl (un100 hr)) (re_call (takes_of rfl rfl rfl rfl) (ok__law_dip T) (hr.mono (by decide)) rfl T.g__law_dip T.f__law_dip.kp T.n__law_dip (ra_cons (re_var (i := 0)) (ra_cons re_int ra_nil))) re_int) (re_var (i := 9)) (re_sortSetX (k := false) rfl rfl (un100 hr) (ra_cons (re_bin (ro_add rfl) (re_var (i := 9)) (re_lst (k := false) (ra_cons (re_var (i := 8)) ra_nil))) ra_nil) rfl T.b_sorted rfl rfl T.b_set rfl)) ra_nil)) (rg_sub (re_var (i := 5)) (re_var (i := 7)) (set_ok (un1 hr)))))))))
    (rss_one (rs_ret (re_callTy (rc_tuple rfl) rfl T.b_tuple rfl (ra_cons (re_var (i := 5)) ra_nil))))))
theorem sc__law_is_kept : FnScope ["picture", "writes", "gaps", "rules", "promise", "moment", "names", "some", "one"] ["picture", "writes", "gaps", "rules", "promise"] (defScope (top 49)) := ⟨rfl, rfl, rfl, by decide +kernel, rfl, by decide +kernel, by decide +kernel⟩
def m__law_is_kept : MS := (sSeq (sFor (mEnmA (mCons (mVar 4) mNil)) (tTup 2 (tCons (tName 5) (tCons (tName 6) tNil))) (sSeq (sAsg (mCall F__law_all (mCons (mCall F__law_rows (mCons (mVar 0) (mCons (mVar 1) (mCons (mVar 2) (mCons (mVar 5) mNil))))) mNil)) (tName 7)) (sIf (mB (mBin (eqF true) (mComp false (mItS (mVar 7)) [8] (tName 8) (mB (mBin (inAF true) (mCall F__law_meaning (mCons (mVar 8) (mCons (mVar 3) mNil))) (mVar 6))) (mVar 8)) (mLst false mNil))) (sRet (mCon (.bool false))) sNil))) (sRet (mCon (.bool true))))
def F__law_is_kept : FnT := fnM 9 5 m__law_is_kept
theorem ok__law_is_kept (T : Txt g mg base a fd) : FnG P w g.K mg base 2 (a 38) (fd 38) ["picture", "writes", "gaps", "rules", "promise"] (spF g F__law_is_kept) := fn_ok T.f__law_is_kept sc__law_is_kept fun cdv A outer s H E hr hc =>
  (rss_cons (rs_for (passes_of rfl) rfl (ri_enmA rfl rfl T.b_enumerate (ra_cons (re_var (i := 4)) ra_nil)) (rg_tup rfl rfl (rgs_cons (rg_name (i := 5) sc__law_is_kept.nd) (rgs_cons (rg_name (i := 6) sc__law_is_kept.nd) rgs_nil calm_nil) (calm_cons calm_name calm_nil))) (rss_cons (rs_set sc__law_is_kept.nd (re_call (takes_of rfl rfl rfl rfl) (ok__law_all T) (hr.mono (by decide)) rfl T.g__law_all T.f__law_all.kp T.n__law_all (ra_cons (re_call (takes_of rfl rfl rfl rfl) (ok__law_rows T) (hr.mono (by decide)) rfl T.g__law_rows T.f__law_rows.kp T.n__law_rows (ra_cons (re_var (i := 0)) (ra_cons (re_var (i := 1)) (ra_cons (re_var (i := 2)) (ra_cons (re_var (i := 5)) ra_nil))))) ra_nil)))
    (rss_one (rs_if (rt_cmp (ro_ne rfl (un100 hr)) (re_lc (k := false) rfl sc__law_is_kept.nd (own := [("one", 8)]) (blkOk_by (by rfl)) (ri_all rfl (re_var (i := 7))) (fun s H C cl fp => (rc_name (i := 8) sc__law_is_kept.nd)) (fun s H C cl fp => (rts_one (rt_cmp (ro_notInA rfl (un100 hr)) (re_call takes0 (ok__law_meaning T) (hr.mono (by decide)) rfl T.g__law_meaning T.f__law_meaning.kp T.n__law_meaning (ra_cons (re_var (i := 8)) (ra_cons (re_var (i := 3)) ra_nil))) (re_var (i := 6))))) (fun s H C cl fp => (re_var (i := 8)))) (re_lst (k := false) ra_nil)) (rss_one (rs_ret re_bl)) rss_nil))))
    (rss_one (rs_ret re_bl)))
theorem sc__law_is_whole : FnScope ["value", "most"] ["value", "most"] (defScope (top 50)) := ⟨rfl, rfl, rfl, by decide +kernel, rfl, by decide +kernel, by decide +kernel⟩
def m__law_is_whole : MS := (sRet (mAndV (mIsi "int" (mVar 0)) (mAndV (mNotV (mIsi "bool" (mVar 0))) (mChain (ordF .le) (ordF .lt) (mCon (.int 0)) (mVar 0) (mVar 1)))))
def F__law_is_whole : FnT := fnM 2 2 m__law_is_whole
theorem ok__law_is_whole (T : Txt g mg base a fd) : FnG P w g.K mg base 1 (a 39) (fd 39) ["value", "most"] (spF g F__law_is_whole) := fn_ok T.f__law_is_whole sc__law_is_whole fun cdv A outer s H E hr hc =>
  (rss_one (rs_ret (re_and rfl (re_isi rfl rfl T.b_isinstance rfl (re_var (i := 0)) rfl T.b_int rfl) (re_and rfl (re_not rfl (re_isi rfl rfl T.b_isinstance rfl (re_var (i := 0)) rfl T.b_bool rfl)) (re_one (re_chain (ro_ord .le rfl (un100 hr)) (ro_ord .lt rfl (un100 hr)) re_int (re_var (i := 0)) (re_var (i := 1))))))))
theorem sc__law_is_due : FnScope ["picture", "writes", "gaps", "rules", "promise", "value", "left", "rows", "cut", "row", "index"] ["picture", "writes", "gaps", "rules", "promise", "value"] (defScope (top 51)) := ⟨rfl, rfl, rfl, by decide +kernel, rfl, by decide +kernel, by decide +kernel⟩
def m__law_is_due : MS := (sSeq (sIf (mOr (mNot (mTru (mIsi "tuple" (mVar 5)))) (mOr (mB (mBin (eqF true) (mCB (un lenW) (mCons (mVar 5) mNil)) (mCon (.int 2)))) (mNot (mTru (mCall F__law_is_whole (mCons (mBin ixF (mVar 5) (mCon (.int 0))) (mCons (mBin (addF false) (mCB (un lenW) (mCons (mVar 1) mNil)) (mCon (.int 1))) mNil))))))) (sRet (mCon (.bool false))) sNil) (sSeq (sPar 7 8 (mCons (mCall F__law_rows (mCons (mVar 0) (mCons (mVar 1) (mCons (mVar 2) (mCons (mBin ixF (mVar 5) (mCon (.int 0))) mNil))))) (mCons (mBin ixF (mVar 5) (mCon (.int 1))) mNil))) (sSeq (sIf (mOr (mNot (mTru (mIsi "tuple" (mVar 8)))) (mB (mBin (eqF true) (mCB (un lenW) (mCons (mVar 8) mNil)) (mCB (un lenW) (mCons (mVar 7) mNil))))) (sRet (mCon (.bool false))) sNil) (sSeq (sIf (mB (mBin (eqF true) (mComp false (mZipB true false (mCons (mVar 7) (mCons (mVar 8) mNil))) [9, 10] (tTup 2 (tCons (tName 9) (tCons (tName 10) tNil))) (mNot (mTru (mCall F__law_is_whole (mCons (mVar 10) (mCons (mCB (un lenW) (mCons (mVar 9) mNil)) mNil))))) (mCon (.int 1))) (mLst false mNil))) (sRet (mCon (.bool false))) sNil) (sSeq (sAsg (mCB (tupleF) (mCons (mComp false (mZipB true false (mCons (mVar 7) (mCons (mVar 8) mNil))) [9, 10] (tTup 2 (tCons (tName 9) (tCons (tName 10) tNil))) mYes (mBin ixF (mVar 9) (mVar 10))) mNil)) (tName 6)) (sRet (mBin (inAF true) (mCall F__law_meaning (mCons (mVar 6) (mCons (mVar 3) mNil))) (mBin ixF (mVar 4) (mBin ixF (mVar 5) (mCon (.int 0)))))))))))
def F__law_is_due : FnT := fnM 11 6 m__law_is_due
theorem ok__law_is_due (T : Txt g mg base a fd) : FnG P w g.K mg base 2 (a 40) (fd 40) ["picture", "writes", "gaps", "rules", "promise", "value"] (spF g F__law_is_due) := fn_ok T.f__law_is_due sc__law_is_due fun cdv A outer s H E hr hc =>
  (rss_cons (rs_if (PW.pt (rw_or (rt_not (rt_tru rfl (re_isi rfl rfl T.b_isinstance rfl (re_var (i := 5)) rfl T.b_tuple rfl))) (rw_or (rt_cmp (ro_ne rfl (un100 hr)) (re_callB (rc_len rfl) rfl T.b_len rfl (ra_cons (re_var (i := 5)) ra_nil)) re_int) (rw_or1 (rt_not (rt_tru rfl (re_call (takes_of rfl rfl rfl rfl) (ok__law_is_whole T) (hr.mono (by decide)) rfl T.g__law_is_whole T.f__law_is_whole.kp T.n__law_is_whole (ra_cons (re_ix rfl (un100 hr) (re_var (i := 5)) re_int) (ra_cons (re_bin (ro_add rfl) (re_callB (rc_len rfl) rfl T.b_len rfl (ra_cons (re_var (i := 1)) ra_nil)) re_int) ra_nil))))))))) (rss_one (rs_ret re_bl)) rss_nil)
    (rss_cons (rs_par rfl sc__law_is_due.nd (i := 7) (j := 8) rfl rfl (by decide) rfl rfl (ra_cons (re_call (takes_of rfl rfl rfl rfl) (ok__law_rows T) (hr.mono (by decide)) rfl T.g__law_rows T.f__law_rows.kp T.n__law_rows (ra_cons (re_var (i := 0)) (ra_cons (re_var (i := 1)) (ra_cons (re_var (i := 2)) (ra_cons (re_ix rfl (un100 hr) (re_var (i := 5)) re_int) ra_nil))))) (ra_cons (re_ix rfl (un100 hr) (re_var (i := 5)) re_int) ra_nil)) rfl)
    (rss_cons (rs_if (PW.pt (rw_or (rt_not (rt_tru rfl (re_isi rfl rfl T.b_isinstance rfl (re_var (i := 8)) rfl T.b_tuple rfl))) (rw_or1 (rt_cmp (ro_ne rfl (un100 hr)) (re_callB (rc_len rfl) rfl T.b_len rfl (ra_cons (re_var (i := 8)) ra_nil)) (re_callB (rc_len rfl) rfl T.b_len rfl (ra_cons (re_var (i := 7)) ra_nil)))))) (rss_one (rs_ret re_bl)) rss_nil)
    (rss_cons (rs_if (rt_cmp (ro_ne rfl (un100 hr)) (re_lc (k := false) rfl sc__law_is_due.nd (own := [("row", 9), ("index", 10)]) (blkOk_by (by rfl)) (ri_zipB rfl rfl T.b_zip (ra_cons (re_var (i := 7)) (ra_cons (re_var (i := 8)) ra_nil))) (fun s H C cl fp => (rc_tup rfl rfl (rcs_cons (rc_name (i := 9) sc__law_is_due.nd) (rcs_cons (rc_name (i := 10) sc__law_is_due.nd) rcs_nil calm_nil) (calm_cons calm_name calm_nil)))) (fun s H C cl fp => (rts_one (rt_not (rt_tru rfl (re_call takes0 (ok__law_is_whole T) (hr.mono (by decide)) rfl T.g__law_is_whole T.f__law_is_whole.kp T.n__law_is_whole (ra_cons (re_var (i := 10)) (ra_cons (re_callB (rc_len rfl) rfl T.b_len rfl (ra_cons (re_var (i := 9)) ra_nil)) ra_nil))))))) (fun s H C cl fp => re_int)) (re_lst (k := false) ra_nil)) (rss_one (rs_ret re_bl)) rss_nil)
    (rss_cons (rs_set sc__law_is_due.nd (re_callTy (rc_tuple rfl) rfl T.b_tuple rfl (ra_cons (re_lc (k := false) rfl sc__law_is_due.nd (own := [("row", 9), ("index", 10)]) (blkOk_by (by rfl)) (ri_zipB rfl rfl T.b_zip (ra_cons (re_var (i := 7)) (ra_cons (re_var (i := 8)) ra_nil))) (fun s H C cl fp => (rc_tup rfl rfl (rcs_cons (rc_name (i := 9) sc__law_is_due.nd) (rcs_cons (rc_name (i := 10) sc__law_is_due.nd) rcs_nil calm_nil) (calm_cons calm_name calm_nil)))) (fun s H C cl fp => rts_nil) (fun s H C cl fp => (re_ix rfl (un100 hr) (re_var (i := 9)) (re_var (i := 10))))) ra_nil)))
    (rss_one (rs_ret (re_cmp (ro_notInA rfl (un100 hr)) (re_call (takes_of rfl rfl rfl rfl) (ok__law_meaning T) (hr.mono (by decide)) rfl T.g__law_meaning T.f__law_meaning.kp T.n__law_meaning (ra_cons (re_var (i := 6)) (ra_cons (re_var (i := 3)) ra_nil))) (re_ix rfl (un100 hr) (re_var (i := 4)) (re_ix rfl (un100 hr) (re_var (i := 5)) re_int))))))))))
theorem sc__law_near : FnScope ["bowl", "picture", "writes", "gaps", "told", "moment", "rows", "cut", "last", "found", "row", "index"] ["bowl", "picture", "writes", "gaps", "told"] (defScope (top 52)) := ⟨rfl, rfl, rfl, by decide +kernel, rfl, by decide +kernel, by decide +kernel⟩
def m__law_near : MS := (sSeq (sAsg (mCall F__law_dip (mCons (mVar 0) (mCons (mBin (addF false) (mCB (un lenW) (mCons (mVar 2) mNil)) (mCon (.int 1))) mNil))) (tName 5)) (sSeq (sAsg (mCall F__law_rows (mCons (mVar 1) (mCons (mVar 2) (mCons (mVar 3) (mCons (mVar 5) mNil))))) (tName 6)) (sSeq (sAsg (mCB (tupleF) (mCons (mComp false (mItS (mVar 6)) [10] (tName 10) mYes (mCall F__law_dip (mCons (mVar 0) (mCons (mCB (un lenW) (mCons (mVar 10) mNil)) mNil)))) mNil)) (tName 7)) (sSeq (sAsg (mCB (tupleF) (mCons (mComp false (mItS (mVar 6)) [10] (tName 10) mYes (mBin subF (mCB (un lenW) (mCons (mVar 10) mNil)) (mCon (.int 1)))) mNil)) (tName 8)) (sSeq (sAsg (mLst true (mCons (mTup (mCons (mVar 5) (mCons (mVar 7) mNil))) (mCons (mTup (mCons (mVar 5) (mCons (mVar 8) mNil))) (mCons (mTup (mCons (mVar 5) (mCons (mBin (mulF1 false) (mTup (mCons (mCon (.int 0)) mNil)) (mCB (un lenW) (mCons (mVar 6) mNil))) mNil))) (mCons (mTup (mCons (mVar 5) (mCons (mCB (listF false) (mCons (mVar 7) mNil)) mNil))) (mCons (mTup (mCons (mVar 5) (mCons (mSl (slF false) (mVar 7) (mPart (mCon (.int 1))) mNoPart) mNil))) (mCons (mTup (mCons (mVar 5) mNil)) mNil))))))) (tName 9)) (sSeq (sAsg (mBin (addF true) (mVar 9) (mLst false (mCons (mTup (mCons (mVar 5) (mCons (mBin (addF false) (mVar 7) (mTup (mCons (mCon (.int 0)) mNil))) mNil))) (mCons (mTup (mCons (mVar 5) (mCons (mCB (tupleF) (mCons (mComp false (mItS (mVar 6)) [10] (tName 10) mYes (mCB (un lenW) (mCons (mVar 10) mNil))) mNil)) mNil))) (mCons (mTup (mCons (mVar 5) (mCons (mBin (addF false) (mTup (mCons (mNeg (mCon (.int 1))) mNil)) (mSl (slF false) (mVar 7) (mPart (mCon (.int 1))) mNoPart)) mNil))) (mCons (mCon .none) mNil)))))) (tName 9)) (sSeq (sAsg (mBin (addF true) (mVar 9) (mLst false (mCons (mTup (mCons (mBin (addF false) (mCB (un lenW) (mCons (mVar 2) mNil)) (mCon (.int 1))) (mCons (mVar 7) mNil))) (mCons (mTup (mCons (mNeg (mCon (.int 1))) (mCons (mVar 7) mNil))) (mCons (mTup (mCons (mBin (eqF false) (mVar 5) (mCon (.int 1))) (mCons (mVar 7) mNil))) (mCons (mLst false (mCons (mVar 5) (mCons (mVar 7) mNil))) (mCons (mTup mNil) (mCons (mCon (.int 0)) (mCons (mTup (mCons (mVar 5) (mCons (mCon .none) mNil))) (mCons (mDic0 false) mNil)))))))))) (tName 9)) (sSeq (sDrop (mMt .lst appF (mVar 9) (mCons (mTup (mCons (mVar 5) (mCons (mCB (tupleF) (mCons (mComp false (mItS (mVar 7)) [11] (tName 11) mYes (mIf (mB (mBin (inAF false) (mVar 11) (mTup (mCons (mCon (.int 0)) (mCons (mCon (.int 1)) mNil))))) (mBin (eqF false) (mVar 11) (mCon (.int 1))) (mVar 11))) mNil)) mNil))) mNil))) (sSeq (sIf (mB (mBin (isNF true) (mVar 4) (mCon .none))) (sSeq (sAsg (mBin (addF true) (mVar 9) (mLst false (mCons (mVar 4) (mCons (mBin (addF false) (mVar 4) (mTup (mCons (mCon (.int 0)) mNil))) (mCons (mTup (mCons (mBin ixF (mVar 4) (mCon (.int 0))) (mCons (mCB (listF false) (mCons (mBin ixF (mVar 4) (mCon (.int 1))) mNil)) mNil))) (mCons (mTup (mCons (mBin (addF false) (mBin ixF (mVar 4) (mCon (.int 0))) (mCon (.int 1))) (mCons (mBin ixF (mVar 4) (mCon (.int 1))) mNil))) (mCons (mTup (mCons (mBin subF (mBin ixF (mVar 4) (mCon (.int 0))) (mCon (.int 1))) (mCons (mBin ixF (mVar 4) (mCon (.int 1))) mNil))) mNil))))))) (tName 9)) (sDrop (mMt .lst appF (mVar 9) (mCons (mTup (mCons (mBin ixF (mVar 4) (mCon (.int 0))) (mCons (mCB (tupleF) (mCons (mComp false (mItS (mBin ixF (mVar 4) (mCon (.int 1)))) [11] (tName 11) mYes (mIf (mB (mBin (inAF false) (mVar 11) (mTup (mCons (mCon (.int 0)) (mCons (mCon (.int 1)) mNil))))) (mBin (eqF false) (mVar 11) (mCon (.int 1))) (mVar 11))) mNil)) mNil))) mNil)))) sNil) (sRet (mVar 9)))))))))))
def F__law_near : FnT := fnM 12 5 m__law_near
theorem ok__law_near (T : Txt g mg base a fd) : FnG P w g.K mg base 2 (a 41) (fd 41) ["bowl", "picture", "writes", "gaps", "told"] (spF g F__law_near) := fn_ok T.f__law_near sc__law_near fun cdv A outer s H E hr hc =>
  (rss_cons (rs_set sc__law_near.nd (re_call (takes_of rfl rfl rfl rfl) (ok__law_dip T) (hr.mono (by decide)) rfl T.g__law_dip T.f__law_dip.kp T.n__law_dip (ra_cons (re_var (i := 0)) (ra_cons (re_bin (ro_add rfl) (re_callB (rc_len rfl) rfl T.b_len rfl (ra_cons (re_var (i := 2)) ra_nil)) re_int) ra_nil))))
    (rss_cons (rs_set sc__law_near.nd (re_call (takes_of rfl rfl rfl rfl) (ok__law_rows T) (hr.mono (by decide)) rfl T.g__law_rows T.f__law_rows.kp T.n__law_rows (ra_cons (re_var (i := 1)) (ra_cons (re_var (i := 2)) (ra_cons (re_var (i := 3)) (ra_cons (re_var (i := 5)) ra_nil))))))
    (rss_cons (rs_set sc__law_near.nd (re_callTy (rc_tuple rfl) rfl T.b_tuple rfl (ra_cons (re_lc (k := false) rfl sc__law_near.nd (own := [("row", 10)]) (blkOk_by (by rfl)) (ri_all rfl (re_var (i := 6))) (fun s H C cl fp => (rc_name (i := 10) sc__law_near.nd)) (fun s H C cl fp => rts_nil) (fun s H C cl fp => (re_call takes0 (ok__law_dip T) (hr.mono (by decide)) rfl T.g__law_dip T.f__law_dip.kp T.n__law_dip (ra_cons (re_var (i := 0)) (ra_cons (re_callB (rc_len rfl) rfl T.b_len rfl (ra_cons (re_var (i := 10)) ra_nil)) ra_nil))))) ra_nil)))
    (rss_cons (rs_set sc__law_near.nd (re_callTy (rc_tuple rfl) rfl T.b_tuple rfl (ra_cons (re_lc (k := false) rfl sc__law_near.nd (own := [("row", 10)]) (blkOk_by (by rfl)) (ri_all rfl (re_var (i := 6))) (fun s H C cl fp => (rc_name (i := 10) sc__law_near.nd)) (fun s H C cl fp => rts_nil) (fun s H C cl fp => (re_bin ro_sub (re_callB (rc_len rfl) rfl T.b_len rfl (ra_cons (re_var (i := 10)) ra_nil)) re_int))) ra_nil)))
    (rss_cons (rs_set sc__law_near.nd (re_lst (k := true) (ra_cons (re_tup (ra_cons (re_var (i := 5)) (ra_cons (re_var (i := 7)) ra_nil))) (ra_cons (re_tup (ra_cons (re_var (i := 5)) (ra_cons (re_var (i := 8)) ra_nil))) (ra_cons (re_tup (ra_cons (re_var (i := 5)) (ra_cons (re_bin (ro_mul1 rfl) (re_tup (ra_cons re_int ra_nil)) (re_callB (rc_len rfl) rfl T.b_len rfl (ra_cons (re_var (i := 6)) ra_nil))) ra_nil))) (ra_cons (re_tup (ra_cons (re_var (i := 5)) (ra_cons (re_callTy (rc_list rfl) rfl T.b_list rfl (ra_cons (re_var (i := 7)) ra_nil)) ra_nil))) (ra_cons (re_tup (ra_cons (re_var (i := 5)) (ra_cons (re_sl (slr rfl) (re_var (i := 7)) (ro_part re_int) ro_noPart) ra_nil))) (ra_cons (re_tup (ra_cons (re_var (i := 5)) ra_nil)) ra_nil))))))))
    (rss_cons (rs_set sc__law_near.nd (re_bin (ro_add rfl) (re_var (i := 9)) (re_lst (k := false) (ra_cons (re_tup (ra_cons (re_var (i := 5)) (ra_cons (re_bin (ro_add rfl) (re_var (i := 7)) (re_tup (ra_cons re_int ra_nil))) ra_nil))) (ra_cons (re_tup (ra_cons (re_var (i := 5)) (ra_cons (re_callTy (rc_tuple rfl) rfl T.b_tuple rfl (ra_cons (re_lc (k := false) rfl sc__law_near.nd (own := [("row", 10)]) (blkOk_by (by rfl)) (ri_all rfl (re_var (i := 6))) (fun s H C cl fp => (rc_name (i := 10) sc__law_near.nd)) (fun s H C cl fp => rts_nil) (fun s H C cl fp => (re_callB (rc_len rfl) rfl T.b_len rfl (ra_cons (re_var (i := 10)) ra_nil)))) ra_nil)) ra_nil))) (ra_cons (re_tup (ra_cons (re_var (i := 5)) (ra_cons (re_bin (ro_add rfl) (re_tup (ra_cons (re_neg re_int) ra_nil)) (re_sl (slr rfl) (re_var (i := 7)) (ro_part re_int) ro_noPart)) ra_nil))) (ra_cons re_non ra_nil)))))))
    (rss_cons (rs_set sc__law_near.nd (re_bin (ro_add rfl) (re_var (i := 9)) (re_lst (k := false) (ra_cons (re_tup (ra_cons (re_bin (ro_add rfl) (re_callB (rc_len rfl) rfl T.b_len rfl (ra_cons (re_var (i := 2)) ra_nil)) re_int) (ra_cons (re_var (i := 7)) ra_nil))) (ra_cons (re_tup (ra_cons (re_neg re_int) (ra_cons (re_var (i := 7)) ra_nil))) (ra_cons (re_tup (ra_cons (re_cmp (ro_eq rfl (un100 hr)) (re_var (i := 5)) re_int) (ra_cons (re_var (i := 7)) ra_nil))) (ra_cons (re_lst (k := false) (ra_cons (re_var (i := 5)) (ra_cons (re_var (i := 7)) ra_nil))) (ra_cons (re_tup ra_nil) (ra_cons re_int (ra_cons (re_tup (ra_cons (re_var (i := 5)) (ra_cons re_non ra_nil))) (ra_cons (re_dic0 (k := false)) ra_nil)))))))))))
    (rss_cons (rs_expr (re_mt rfl (T := .lst) PySem.F.plainAttrs_list PySem.F.slot_list_append PySem.F.type_list_append (mt_app) (re_var (i := 9)) (ra_cons (re_tup (ra_cons (re_var (i := 5)) (ra_cons (re_callTy (rc_tuple rfl) rfl T.b_tuple rfl (ra_cons (re_lc (k := false) rfl sc__law_near.nd (own := [("index", 11)]) (blkOk_by (by rfl)) (ri_all rfl (re_var (i := 7))) (fun s H C cl fp => (rc_name (i := 11) sc__law_near.nd)) (fun s H C cl fp => rts_nil) (fun s H C cl fp => (re_ife (rt_cmp (ro_inA rfl (un100 hr)) (re_var (i := 11)) (re_tup (ra_cons re_int (ra_cons re_int ra_nil)))) (re_cmp (ro_eq rfl (un100 hr)) (re_var (i := 11)) re_int) (re_var (i := 11))))) ra_nil)) ra_nil))) ra_nil)))
    (rss_cons (rs_if (rt_cmp ro_notN (re_var (i := 4)) re_non) (rss_cons (rs_set sc__law_near.nd (re_bin (ro_add rfl) (re_var (i := 9)) (re_lst (k := false) (ra_cons (re_var (i := 4)) (ra_cons (re_bin (ro_add rfl) (re_var (i := 4)) (re_tup (ra_cons re_int ra_nil))) (ra_cons (re_tup (ra_cons (re_ix rfl (un100 hr) (re_var (i := 4)) re_int) (ra_cons (re_callTy (rc_list rfl) rfl T.b_list rfl (ra_cons (re_ix rfl (un100 hr) (re_var (i := 4)) re_int) ra_nil)) ra_nil))) (ra_cons (re_tup (ra_cons (re_bin (ro_add rfl) (re_ix rfl (un100 hr) (re_var (i := 4)) re_int) re_int) (ra_cons (re_ix rfl (un100 hr) (re_var (i := 4)) re_int) ra_nil))) (ra_cons (re_tup (ra_cons (re_bin ro_sub (re_ix rfl (un100 hr) (re_var (i := 4)) re_int) re_int) (ra_cons (re_ix rfl (un100 hr) (re_var (i := 4)) re_int) ra_nil))) ra_nil))))))))
    (rss_one (rs_expr (re_mt rfl (T := .lst) PySem.F.plainAttrs_list PySem.F.slot_list_append PySem.F.type_list_append (mt_app) (re_var (i := 9)) (ra_cons (re_tup (ra_cons (re_ix rfl (un100 hr) (re_var (i := 4)) re_int) (ra_cons (re_callTy (rc_tuple rfl) rfl T.b_tuple rfl (ra_cons (re_lc (k := false) rfl sc__law_near.nd (own := [("index", 11)]) (blkOk_by (by rfl)) (ri_all rfl (re_ix rfl (un100 hr) (re_var (i := 4)) re_int)) (fun s H C cl fp => (rc_name (i := 11) sc__law_near.nd)) (fun s H C cl fp => rts_nil) (fun s H C cl fp => (re_ife (rt_cmp (ro_inA rfl (un100 hr)) (re_var (i := 11)) (re_tup (ra_cons re_int (ra_cons re_int ra_nil)))) (re_cmp (ro_eq rfl (un100 hr)) (re_var (i := 11)) re_int) (re_var (i := 11))))) ra_nil)) ra_nil))) ra_nil))))) rss_nil)
    (rss_one (rs_ret (re_var (i := 9)))))))))))))
theorem sc__law_right : FnScope ["bowl", "promise", "is_kept", "told", "value", "picture", "writes", "gaps", "rules", "due"] ["bowl"] (defScope (top 53)) := ⟨rfl, rfl, rfl, by decide +kernel, rfl, by decide +kernel, by decide +kernel⟩
def m__law_right : MS := (sSeq (sAsg (mCall F__law_drawn (mCons (mVar 0) mNil)) (tTup 2 (tCons (tName 5) (tCons (tName 6) tNil)))) (sSeq (sPar 7 8 (mCons (mCall F__law_gaps (mCons (mVar 0) (mCons (mCB (un lenW) (mCons (mVar 6) mNil)) mNil))) (mCons (mCall F__law_rules (mCons (mVar 0) (mCons (mCB (un lenW) (mCons (mVar 5) mNil)) mNil))) mNil))) (sSeq (sAsg (mCall F__law_promise (mCons (mVar 0) (mCons (mVar 5) (mCons (mVar 6) (mCons (mVar 7) (mCons (mVar 8) mNil)))))) (tName 1)) (sSeq (sAsg (mCall F__law_is_kept (mCons (mVar 5) (mCons (mVar 6) (mCons (mVar 7) (mCons (mVar 8) (mCons (mVar 1) mNil)))))) (tName 2)) (sSeq (sAsg (mCall F_break_of (mCons (mVar 5) (mCons (mVar 6) (mCons (mVar 7) (mCons (mVar 8) (mCons (mVar 1) mNil)))))) (tName 3)) (sSeq (sIf (mOr (mB (mBin (eqF true) (mCall F_keeps (mCons (mVar 5) (mCons (mVar 6) (mCons (mVar 7) (mCons (mVar 8) (mCons (mVar 1) mNil)))))) (mVar 2))) (mB (mBin (eqF true) (mBin (isNF false) (mVar 3) (mCon .none)) (mVar 2)))) (sRet (mCon (.bool false))) sNil) (sSeq (sIf (mAnd (mB (mBin (isNF true) (mVar 3) (mCon .none))) (mNot (mTru (mCall F__law_is_due (mCons (mVar 5) (mCons (mVar 6) (mCons (mVar 7) (mCons (mVar 8) (mCons (mVar 1) (mCons (mVar 3) mNil)))))))))) (sRet (mCon (.bool false))) sNil) (sSeq (sFor (mItS (mCall F__law_near (mCons (mVar 0) (mCons (mVar 5) (mCons (mVar 6) (mCons (mVar 7) (mCons (mVar 3) mNil))))))) (tName 4) (sSeq (sAsg (mCall F__law_is_due (mCons (mVar 5) (mCons (mVar 6) (mCons (mVar 7) (mCons (mVar 8) (mCons (mVar 1) (mCons (mVar 4) mNil))))))) (tName 9)) (sIf (mB (mBin (eqF true) (mCall F_is_break (mCons (mVar 5) (mCons (mVar 6) (mCons (mVar 7) (mCons (mVar 8) (mCons (mVar 1) (mCons (mVar 4) mNil))))))) (mVar 9))) (sRet (mCon (.bool false))) sNil))) (sRet (mCon (.bool true)))))))))))
def F__law_right : FnT := fnM 10 1 m__law_right
theorem ok__law_right (T : Txt g mg base a fd) : FnG P w g.K mg base 9 (a 42) (fd 42) ["bowl"] (spF g F__law_right) := fn_ok T.f__law_right sc__law_right fun cdv A outer s H E hr hc =>
  (rss_cons (rs_asg (re_call (takes_of rfl rfl rfl rfl) (ok__law_drawn T) (hr.mono (by decide)) rfl T.g__law_drawn T.f__law_drawn.kp T.n__law_drawn (ra_cons (re_var (i := 0)) ra_nil)) (rg_tup rfl rfl (rgs_cons (rg_name (i := 5) sc__law_right.nd) (rgs_cons (rg_name (i := 6) sc__law_right.nd) rgs_nil calm_nil) (calm_cons calm_name calm_nil))))
    (rss_cons (rs_par rfl sc__law_right.nd (i := 7) (j := 8) rfl rfl (by decide) rfl rfl (ra_cons (re_call (takes_of rfl rfl rfl rfl) (ok__law_gaps T) (hr.mono (by decide)) rfl T.g__law_gaps T.f__law_gaps.kp T.n__law_gaps (ra_cons (re_var (i := 0)) (ra_cons (re_callB (rc_len rfl) rfl T.b_len rfl (ra_cons (re_var (i := 6)) ra_nil)) ra_nil))) (ra_cons (re_call (takes_of rfl rfl rfl rfl) (ok__law_rules T) (hr.mono (by decide)) rfl T.g__law_rules T.f__law_rules.kp T.n__law_rules (ra_cons (re_var (i := 0)) (ra_cons (re_callB (rc_len rfl) rfl T.b_len rfl (ra_cons (re_var (i := 5)) ra_nil)) ra_nil))) ra_nil)) rfl)
    (rss_cons (rs_set sc__law_right.nd (re_call (takes_of rfl rfl rfl rfl) (ok__law_promise T) (hr.mono (by decide)) rfl T.g__law_promise T.f__law_promise.kp T.n__law_promise (ra_cons (re_var (i := 0)) (ra_cons (re_var (i := 5)) (ra_cons (re_var (i := 6)) (ra_cons (re_var (i := 7)) (ra_cons (re_var (i := 8)) ra_nil)))))))
    (rss_cons (rs_set sc__law_right.nd (re_call (takes_of rfl rfl rfl rfl) (ok__law_is_kept T) (hr.mono (by decide)) rfl T.g__law_is_kept T.f__law_is_kept.kp T.n__law_is_kept (ra_cons (re_var (i := 5)) (ra_cons (re_var (i := 6)) (ra_cons (re_var (i := 7)) (ra_cons (re_var (i := 8)) (ra_cons (re_var (i := 1)) ra_nil)))))))
    (rss_cons (rs_set sc__law_right.nd (re_call (takes_of rfl rfl rfl rfl) (ok_break_of T) (hr.mono (by decide)) rfl T.g_break_of T.f_break_of.kp T.n_break_of (ra_cons (re_var (i := 5)) (ra_cons (re_var (i := 6)) (ra_cons (re_var (i := 7)) (ra_cons (re_var (i := 8)) (ra_cons (re_var (i := 1)) ra_nil)))))))
    (rss_cons (rs_if (PW.pt (rw_or (rt_cmp (ro_ne rfl (un100 hr)) (re_call (takes_of rfl rfl rfl rfl) (ok_keeps T) (hr.mono (by decide)) rfl T.g_keeps T.f_keeps.kp T.n_keeps (ra_cons (re_var (i := 5)) (ra_cons (re_var (i := 6)) (ra_cons (re_var (i := 7)) (ra_cons (re_var (i := 8)) (ra_cons (re_var (i := 1)) ra_nil)))))) (re_var (i := 2))) (rw_or1 (rt_cmp (ro_ne rfl (un100 hr)) (re_cmp ro_isN (re_var (i := 3)) re_non) (re_var (i := 2)))))) (rss_one (rs_ret re_bl)) rss_nil)
    (rss_cons (rs_if (PW.pt (rw_and (rt_cmp ro_notN (re_var (i := 3)) re_non) (rw_and1 (rt_not (rt_tru rfl (re_call (takes_of rfl rfl rfl rfl) (ok__law_is_due T) (hr.mono (by decide)) rfl T.g__law_is_due T.f__law_is_due.kp T.n__law_is_due (ra_cons (re_var (i := 5)) (ra_cons (re_var (i := 6)) (ra_cons (re_var (i := 7)) (ra_cons (re_var (i := 8)) (ra_cons (re_var (i := 1)) (ra_cons (re_var (i := 3)) ra_nil)))))))))))) (rss_one (rs_ret re_bl)) rss_nil)
    (rss_cons (rs_for (passes_of rfl) rfl (ri_all rfl (re_call (takes_of rfl rfl rfl rfl) (ok__law_near T) (hr.mono (by decide)) rfl T.g__law_near T.f__law_near.kp T.n__law_near (ra_cons (re_var (i := 0)) (ra_cons (re_var (i := 5)) (ra_cons (re_var (i := 6)) (ra_cons (re_var (i := 7)) (ra_cons (re_var (i := 3)) ra_nil))))))) (rg_name (i := 4) sc__law_right.nd) (rss_cons (rs_set sc__law_right.nd (re_call (takes_of rfl rfl rfl rfl) (ok__law_is_due T) (hr.mono (by decide)) rfl T.g__law_is_due T.f__law_is_due.kp T.n__law_is_due (ra_cons (re_var (i := 5)) (ra_cons (re_var (i := 6)) (ra_cons (re_var (i := 7)) (ra_cons (re_var (i := 8)) (ra_cons (re_var (i := 1)) (ra_cons (re_var (i := 4)) ra_nil))))))))
    (rss_one (rs_if (rt_cmp (ro_ne rfl (un100 hr)) (re_call (takes_of rfl rfl rfl rfl) (ok_is_break T) (hr.mono (by decide)) rfl T.g_is_break T.f_is_break.kp T.n_is_break (ra_cons (re_var (i := 5)) (ra_cons (re_var (i := 6)) (ra_cons (re_var (i := 7)) (ra_cons (re_var (i := 8)) (ra_cons (re_var (i := 1)) (ra_cons (re_var (i := 4)) ra_nil))))))) (re_var (i := 9))) (rss_one (rs_ret re_bl)) rss_nil))))
    (rss_one (rs_ret re_bl))))))))))
theorem sc_law : FnScope ["script", "spot", "writes", "told", "bowl", "turn", "rules", "promise", "gaps"] ["script"] (defScope (top 54)) := ⟨rfl, rfl, rfl, by decide +kernel, rfl, by decide +kernel, by decide +kernel⟩
def m_law : MS := (sSeq (sFor (mRng1 (mCons (mCB (max2F) (mCons (mCon (.int 1)) (mCons (mCB (min2F) (mCons (mCon (.int 3)) (mCons (mCB (un lenW) (mCons (mVar 0) mNil)) mNil))) mNil))) mNil)) (tName 1) (sSeq (sAsg (mCall F__law_bowl (mCons (mVar 0) (mCons (mVar 1) mNil))) (tName 4)) (sFor (mRng1 (mCons (mCon (.int 2)) mNil)) (tName 5) (sIf (mNot (mTru (mCall F__law_right (mCons (mVar 4) mNil)))) (sRet (mCon (.bool false))) sNil)))) (sSeq (sAsg (mTup (mCons (mTup (mCons (mTup (mCons (mTup (mCons (mCon (.int 0)) (mCons (mCon .none) mNil))) (mCons (mCon (.str "old")) mNil))) (mCons (mTup (mCons (mTup (mCons (mCon (.int 1)) (mCons (mCon (.int 1)) mNil))) (mCons (mCon (.str "new")) mNil))) mNil))) (mCons (mTup (mCons (mTup (mCons (mCon (.str "old")) mNil)) (mCons (mTup (mCons (mCon (.str "old")) mNil)) (mCons (mTup (mCons (mCon (.str "new")) (mCons (mCon (.str "old")) mNil))) mNil)))) mNil))) (tTup 2 (tCons (tName 6) (tCons (tName 7) tNil)))) (sSeq (sAsg (mTup (mCons (mTup (mCons (mCon (.int 1)) (mCons (mCon (.int 1)) mNil))) (mCons (mTup (mCons (mCon (.int 0)) (mCons (mCon (.int 1)) mNil))) mNil))) (tName 2)) (sSeq (sAsg (mComp false (mItS (mTup (mCons (mTup mNil) (mCons (mTup (mCons (mCon (.int 1)) mNil)) (mCons (mTup (mCons (mCon (.int 2)) mNil)) (mCons (mTup (mCons (mCon (.int 1)) (mCons (mCon (.int 2)) mNil))) mNil)))))) [8] (tName 8) mYes (mCall F_keeps (mCons (mTup (mCons (mCon (.int 0)) (mCons (mCon (.int 0)) mNil))) (mCons (mVar 2) (mCons (mVar 8) (mCons (mVar 6) (mCons (mVar 7) mNil))))))) (tName 3)) (sSeq (sIf (mOr (mB (mBin (eqF true) (mVar 3) (mLst false (mCons (mCon (.bool false)) (mCons (mCon (.bool true)) (mCons (mCon (.bool false)) (mCons (mCon (.bool true)) mNil))))))) (mB (mBin (eqF true) (mCall F_break_of (mCons (mTup (mCons (mCon (.int 0)) (mCons (mCon (.int 0)) mNil))) (mCons (mVar 2) (mCons (mTup mNil) (mCons (mVar 6) (mCons (mVar 7) mNil)))))) (mTup (mCons (mCon (.int 2)) (mCons (mTup (mCons (mCon (.int 1)) (mCons (mCon (.int 0)) mNil))) mNil)))))) (sRet (mCon (.bool false))) sNil) (sRet (mAndV (mCall F_is_break (mCons (mTup (mCons (mCon (.int 0)) (mCons (mCon (.int 0)) mNil))) (mCons (mVar 2) (mCons (mTup (mCons (mCon (.int 2)) mNil)) (mCons (mVar 6) (mCons (mVar 7) (mCons (mTup (mCons (mCon (.int 2)) (mCons (mTup (mCons (mCon (.int 1)) (mCons (mCon (.int 0)) mNil))) mNil))) mNil))))))) (mNotV (mCall F_keeps (mCons (mTup (mCons (mCon (.int 0)) mNil)) (mCons (mTup mNil) (mCons (mTup mNil) (mCons (mTup mNil) (mCons (mTup (mCons (mTup (mCons (mCon (.str "a")) mNil)) mNil)) mNil))))))))))))))
def F_law : FnT := fnM 9 1 m_law
theorem ok_law (T : Txt g mg base a fd) : FnG P w g.K mg base 10 (a 43) (fd 43) ["script"] (spF g F_law) := fn_ok T.f_law sc_law fun cdv A outer s H E hr hc =>
  (rss_cons (rs_for (passes_of rfl) rfl (ri_range1 rfl T.b_range (ra_cons (re_callB (rc_max2 rfl) rfl T.b_max rfl (ra_cons re_int (ra_cons (re_callB (rc_min2 rfl) rfl T.b_min rfl (ra_cons re_int (ra_cons (re_callB (rc_len rfl) rfl T.b_len rfl (ra_cons (re_var (i := 0)) ra_nil)) ra_nil))) ra_nil))) ra_nil)) (rg_name (i := 1) sc_law.nd) (rss_cons (rs_set sc_law.nd (re_call (takes_of rfl rfl rfl rfl) (ok__law_bowl T) (hr.mono (by decide)) rfl T.g__law_bowl T.f__law_bowl.kp T.n__law_bowl (ra_cons (re_var (i := 0)) (ra_cons (re_var (i := 1)) ra_nil))))
    (rss_one (rs_for (passes_of rfl) rfl (ri_range1 rfl T.b_range (ra_cons re_int ra_nil)) (rg_name (i := 5) sc_law.nd) (rss_one (rs_if (rt_not (rt_tru rfl (re_call (takes_of rfl rfl rfl rfl) (ok__law_right T) (hr.mono (by decide)) rfl T.g__law_right T.f__law_right.kp T.n__law_right (ra_cons (re_var (i := 4)) ra_nil)))) (rss_one (rs_ret re_bl)) rss_nil))))))
    (rss_cons (rs_asg (re_tup (ra_cons (re_tup (ra_cons (re_tup (ra_cons (re_tup (ra_cons re_int (ra_cons re_non ra_nil))) (ra_cons re_str ra_nil))) (ra_cons (re_tup (ra_cons (re_tup (ra_cons re_int (ra_cons re_int ra_nil))) (ra_cons re_str ra_nil))) ra_nil))) (ra_cons (re_tup (ra_cons (re_tup (ra_cons re_str ra_nil)) (ra_cons (re_tup (ra_cons re_str ra_nil)) (ra_cons (re_tup (ra_cons re_str (ra_cons re_str ra_nil))) ra_nil)))) ra_nil))) (rg_tup rfl rfl (rgs_cons (rg_name (i := 6) sc_law.nd) (rgs_cons (rg_name (i := 7) sc_law.nd) rgs_nil calm_nil) (calm_cons calm_name calm_nil))))
    (rss_cons (rs_set sc_law.nd (re_tup (ra_cons (re_tup (ra_cons re_int (ra_cons re_int ra_nil))) (ra_cons (re_tup (ra_cons re_int (ra_cons re_int ra_nil))) ra_nil))))
    (rss_cons (rs_setLc (k := false) rfl sc_law.nd rfl rfl rfl (own := [("gaps", 8)]) (blkOk_by (by rfl)) (ri_all rfl (re_tup (ra_cons (re_tup ra_nil) (ra_cons (re_tup (ra_cons re_int ra_nil)) (ra_cons (re_tup (ra_cons re_int ra_nil)) (ra_cons (re_tup (ra_cons re_int (ra_cons re_int ra_nil))) ra_nil)))))) (fun s H C cl fp => (rc_name (i := 8) sc_law.nd)) (fun s H C cl fp => rts_nil) (fun s H C cl fp => (re_call takes0 (ok_keeps T) (hr.mono (by decide)) rfl T.g_keeps T.f_keeps.kp T.n_keeps (ra_cons (re_tup (ra_cons re_int (ra_cons re_int ra_nil))) (ra_cons (re_var (i := 2)) (ra_cons (re_var (i := 8)) (ra_cons (re_var (i := 6)) (ra_cons (re_var (i := 7)) ra_nil))))))))
    (rss_cons (rs_if (PW.pt (rw_or (rt_cmp (ro_ne rfl (un100 hr)) (re_var (i := 3)) (re_lst (k := false) (ra_cons re_bl (ra_cons re_bl (ra_cons re_bl (ra_cons re_bl ra_nil)))))) (rw_or1 (rt_cmp (ro_ne rfl (un100 hr)) (re_call (takes_of rfl rfl rfl rfl) (ok_break_of T) (hr.mono (by decide)) rfl T.g_break_of T.f_break_of.kp T.n_break_of (ra_cons (re_tup (ra_cons re_int (ra_cons re_int ra_nil))) (ra_cons (re_var (i := 2)) (ra_cons (re_tup ra_nil) (ra_cons (re_var (i := 6)) (ra_cons (re_var (i := 7)) ra_nil)))))) (re_tup (ra_cons re_int (ra_cons (re_tup (ra_cons re_int (ra_cons re_int ra_nil))) ra_nil))))))) (rss_one (rs_ret re_bl)) rss_nil)
    (rss_one (rs_ret (re_and rfl (re_call (takes_of rfl rfl rfl rfl) (ok_is_break T) (hr.mono (by decide)) rfl T.g_is_break T.f_is_break.kp T.n_is_break (ra_cons (re_tup (ra_cons re_int (ra_cons re_int ra_nil))) (ra_cons (re_var (i := 2)) (ra_cons (re_tup (ra_cons re_int ra_nil)) (ra_cons (re_var (i := 6)) (ra_cons (re_var (i := 7)) (ra_cons (re_tup (ra_cons re_int (ra_cons (re_tup (ra_cons re_int (ra_cons re_int ra_nil))) ra_nil))) ra_nil))))))) (re_one (re_not rfl (re_call (takes_of rfl rfl rfl rfl) (ok_keeps T) (hr.mono (by decide)) rfl T.g_keeps T.f_keeps.kp T.n_keeps (ra_cons (re_tup (ra_cons re_int ra_nil)) (ra_cons (re_tup ra_nil) (ra_cons (re_tup ra_nil) (ra_cons (re_tup ra_nil) (ra_cons (re_tup (ra_cons (re_tup (ra_cons re_str ra_nil)) ra_nil)) ra_nil))))))))))))))))
end

end V
namespace V
open PySem L2 PyProof.Rows Rf Nm

/-! the rows of a plan: each cell's figures, the oldest first -/
def put (rows : List (List Int)) (w : Nat × Int) : List (List Int) := rows.modify w.1 (· ++ [w.2])
def single (p : List Int) : List (List Int) := p.map fun x => [x]
def lastR (rows : List (List Int)) : List Int := rows.map fun r => r.getLastD 0
def laid (p : List Int) (ws : List (Nat × Int)) : List Int := ws.foldl (fun p w => p.set w.1 w.2) p
def vers (p : List Int) (ws : List (Nat × Int)) (l m : Nat) : List (List Int) := ((ws.take m).drop l).foldl put (single (laid p (ws.take l)))
theorem last_put (rows : List (List Int)) (w : Nat × Int) : lastR (put rows w) = (lastR rows).set w.1 w.2 := by
  refine List.ext_getElem? fun i => ?_
  unfold lastR put
  rw [List.getElem?_map, List.getElem?_modify, List.getElem?_set]
  by_cases h : w.1 = i
  · subst h
    rw [if_pos rfl]
    by_cases hl : w.1 < rows.length
    · rw [List.getElem?_eq_getElem hl, List.length_map, if_pos hl]
      simp
    · rw [List.getElem?_eq_none (by omega), List.length_map, if_neg hl]
      rfl
  · rw [if_neg h, List.getElem?_map]
    cases rows[i]? <;> simp [h]
theorem last_steps (rows : List (List Int)) (ws : List (Nat × Int)) : lastR (ws.foldl put rows) = laid (lastR rows) ws := by
  induction ws generalizing rows with
  | nil => rfl
  | cons w ws ih => rw [List.foldl_cons, ih, last_put]; rfl
theorem last_single (p : List Int) : lastR (single p) = p := by
  unfold lastR single
  rw [List.map_map]
  exact (List.map_congr_left fun x _ => rfl).trans (List.map_id p)
theorem laid_app (p : List Int) (a b : List (Nat × Int)) : laid p (a ++ b) = laid (laid p a) b := List.foldl_append ..
theorem last_vers {p : List Int} {ws : List (Nat × Int)} {l m : Nat} (h : l ≤ m) : lastR (vers p ws l m) = laid p (ws.take m) := by
  unfold vers
  rw [last_steps, last_single, ← laid_app]
  congr 1
  have e : ws.take l = (ws.take m).take l := by rw [List.take_take]; congr 1; omega
  rw [e, List.take_append_drop]
theorem len_put (rows : List (List Int)) (w : Nat × Int) : (put rows w).length = rows.length := List.length_modify ..
theorem len_steps (rows : List (List Int)) (ws : List (Nat × Int)) : (ws.foldl put rows).length = rows.length := by
  induction ws generalizing rows with
  | nil => rfl
  | cons w ws ih => rw [List.foldl_cons, ih, len_put]
theorem len_laid (p : List Int) (ws : List (Nat × Int)) : (laid p ws).length = p.length := by
  unfold laid
  induction ws generalizing p with
  | nil => rfl
  | cons w ws ih => rw [List.foldl_cons, ih, List.length_set]
theorem len_vers (p : List Int) (ws : List (Nat × Int)) (l m : Nat) : (vers p ws l m).length = p.length := by
  unfold vers
  rw [len_steps]
  unfold single
  rw [List.length_map, len_laid]
/-- the law's rows before step j of moment m -/
def rowsAt (p : List Int) (ws : List (Nat × Int)) (gaps : List Nat) (m : Nat) : Nat → List (List Int)
  | 0 => single p
  | j + 1 => let r := put (rowsAt p ws gaps m j) (ws.getD j (0, 0))
    if j + 1 ∈ gaps ∧ j + 1 < m then single (lastR r) else r
def IsTop (S : Nat → Prop) (v : Nat) : Prop := (v = 0 ∨ S v) ∧ ∀ g, S g → g ≤ v
theorem IsTop.same {S : Nat → Prop} {v u : Nat} (a : IsTop S v) (b : IsTop S u) : v = u := by
  rcases a with ⟨a1, a2⟩
  rcases b with ⟨b1, b2⟩
  rcases a1 with rfl | a1
  · rcases b1 with rfl | b1
    · rfl
    · have := a2 _ b1; omega
  · rcases b1 with rfl | b1
    · have := b2 _ a1; omega
    · have := a2 _ b1; have := b2 _ a1; omega
def topL (l : List Nat) : Nat := l.foldl max 0
theorem top_fold (l : List Nat) : ∀ a, (l.foldl max a = a ∨ l.foldl max a ∈ l) ∧ a ≤ l.foldl max a ∧ ∀ g ∈ l, g ≤ l.foldl max a := by
  induction l with
  | nil => exact fun a => ⟨.inl rfl, Nat.le_refl _, fun g h => nomatch h⟩
  | cons x l ih =>
    intro a
    rw [List.foldl_cons]
    obtain ⟨i1, i2, i3⟩ := ih (max a x)
    refine ⟨?_, by omega, fun g hg => ?_⟩
    · rcases i1 with e | e
      · by_cases hx : x ≤ a
        · left; rw [e]; omega
        · right; rw [e]; exact List.mem_cons.mpr (.inl (by omega))
      · exact .inr (List.mem_cons_of_mem _ e)
    · rcases List.mem_cons.mp hg with rfl | h
      · omega
      · exact i3 g h
theorem top_is (l : List Nat) : IsTop (· ∈ l) (topL l) := by
  obtain ⟨a, _, c⟩ := top_fold l 0
  exact ⟨a, c⟩
theorem IsTop.congr {S T : Nat → Prop} {v : Nat} (a : IsTop S v) (h : ∀ g, S g ↔ T g) : IsTop T v := ⟨a.1.imp id (h v).mp, fun g t => a.2 g ((h g).mpr t)⟩
theorem vers_step {p : List Int} {ws : List (Nat × Int)} {l j : Nat} (h : l ≤ j) (hj : j < ws.length) : vers p ws l (j + 1) = put (vers p ws l j) (ws.getD j (0, 0)) := by
  unfold vers
  rw [List.take_add_one, List.getElem?_eq_getElem hj, Option.toList_some, List.drop_append_of_le_length (by rw [List.length_take]; omega), List.foldl_append, List.getD_eq_getElem?_getD, List.getElem?_eq_getElem hj]
  rfl
theorem rows_vers {p : List Int} {ws : List (Nat × Int)} {gaps : List Nat} {m : Nat} : ∀ j l, j ≤ ws.length → IsTop (fun g => g ∈ gaps ∧ g ≤ j ∧ g < m) l → rowsAt p ws gaps m j = vers p ws l j := by
  intro j
  induction j with
  | zero =>
    intro l _ t
    have e : l = 0 := by
      rcases t.1 with h | h
      · exact h
      · omega
    subst e
    rfl
  | succ j ih =>
    intro l hj t
    have hlt : j < ws.length := hj
    unfold rowsAt
    by_cases c : j + 1 ∈ gaps ∧ j + 1 < m
    · rw [if_pos c]
      have e : l = j + 1 := t.same ⟨.inr ⟨c.1, Nat.le_refl _, c.2⟩, fun g h => h.2.1⟩
      subst e
      obtain ⟨t1, t2, t3⟩ := top_fold (gaps.filter fun g => decide (g ≤ j ∧ g < m)) 0
      have tt : IsTop (fun g => g ∈ gaps ∧ g ≤ j ∧ g < m) (topL (gaps.filter fun g => decide (g ≤ j ∧ g < m))) := (top_is _).congr fun g => by simp [List.mem_filter]
      have lj : topL (gaps.filter fun g => decide (g ≤ j ∧ g < m)) ≤ j := by
        rcases tt.1 with h | h
        · omega
        · exact h.2.1
      rw [ih _ (by omega) tt, last_put, last_vers lj]
      unfold vers
      have e0 : (ws.take (j + 1)).drop (j + 1) = [] := List.drop_eq_nil_of_le (by rw [List.length_take]; omega)
      rw [e0, List.foldl_nil, List.take_add_one, List.getElem?_eq_getElem hlt, laid_app, List.getD_eq_getElem?_getD, List.getElem?_eq_getElem hlt]
      rfl
    · rw [if_neg c]
      have tt : IsTop (fun g => g ∈ gaps ∧ g ≤ j ∧ g < m) l := t.congr fun g => by
        constructor
        · rintro ⟨a, b, d⟩
          refine ⟨a, ?_, d⟩
          by_cases e : g = j + 1
          · subst e; exact absurd ⟨a, d⟩ c
          · omega
        · rintro ⟨a, b, d⟩
          exact ⟨a, by omega, d⟩
      have lj : l ≤ j := by
        rcases tt.1 with h | h
        · omega
        · exact h.2.1
      rw [vers_step lj hlt, ih l (by omega) tt]
def lastG (gaps : List Nat) (m : Nat) : Nat := topL (gaps.filter fun g => decide (g < m))
theorem rows_are {p : List Int} {ws : List (Nat × Int)} {gaps : List Nat} {m : Nat} (h : m ≤ ws.length) : rowsAt p ws gaps m m = vers p ws (lastG gaps m) m :=
  rows_vers m _ h ((top_is _).congr fun g => by
    rw [List.mem_filter, decide_eq_true_eq]
    exact ⟨fun ⟨a, b⟩ => ⟨a, by omega, b⟩, fun ⟨a, _, b⟩ => ⟨a, b⟩⟩)
/-! the pictures that are left -/
inductive CutOf : List Nat → List Int → List (List Int) → Prop
  | nil : CutOf [] [] []
  | cons {i : Nat} {f : Int} {r : List Int} {c : List Nat} {u : List Int} {rs : List (List Int)} (h : r[i]? = some f) (t : CutOf c u rs) : CutOf (i :: c) (f :: u) (r :: rs)
inductive Picks : List Int → List (List Int) → Prop
  | nil : Picks [] []
  | cons {f : Int} {r : List Int} {u : List Int} {rs : List (List Int)} (h : f ∈ r) (t : Picks u rs) : Picks (f :: u) (r :: rs)
theorem picks_cut {u : List Int} {rs : List (List Int)} (h : Picks u rs) : ∃ c, CutOf c u rs := by
  induction h with
  | nil => exact ⟨[], .nil⟩
  | cons h _ ih =>
    obtain ⟨c, hc⟩ := ih
    obtain ⟨i, hi⟩ := List.mem_iff_getElem?.mp h
    exact ⟨i :: c, .cons hi hc⟩
theorem CutOf.picks {c : List Nat} {u : List Int} {rs : List (List Int)} (h : CutOf c u rs) : Picks u rs := by
  induction h with
  | nil => exact .nil
  | cons h _ ih => exact .cons (List.mem_of_getElem? h) ih
def allStep (f : List Int → List Int) (some : List (List Int)) (row : List Int) : List (List Int) := some.flatMap fun b => (f row).map fun x => b ++ [x]
theorem all_mem {f : List Int → List Int} (hf : ∀ r x, x ∈ f r ↔ x ∈ r) (rows : List (List Int)) : ∀ (some : List (List Int)) (t : List Int), t ∈ rows.foldl (allStep f) some ↔ ∃ b ∈ some, ∃ u, Picks u rows ∧ t = b ++ u := by
  induction rows with
  | nil =>
    intro some t
    constructor
    · exact fun h => ⟨t, h, [], .nil, (List.append_nil t).symm⟩
    · rintro ⟨b, hb, u, hu, rfl⟩
      cases hu
      rw [List.append_nil]
      exact hb
  | cons r rows ih =>
    intro some t
    rw [List.foldl_cons, ih]
    constructor
    · rintro ⟨b, hb, u, hu, rfl⟩
      obtain ⟨b', hb', hm⟩ := List.mem_flatMap.mp hb
      obtain ⟨x, hx, rfl⟩ := List.mem_map.mp hm
      exact ⟨b', hb', x :: u, .cons ((hf r x).mp hx) hu, by simp⟩
    · rintro ⟨b, hb, u, hu, rfl⟩
      cases hu with
      | cons h t => exact ⟨_, List.mem_flatMap.mpr ⟨b, hb, List.mem_map.mpr ⟨_, (hf _ _).mpr h, rfl⟩⟩, _, t, by simp⟩
def cutStep (found : List (List Nat × List Int)) (there : List Int) : List (List Nat × List Int) := found.flatMap fun c => there.zipIdx.map fun x => (c.1 ++ [x.2], c.2 ++ [x.1])
theorem cut_mem (rows : List (List Int)) : ∀ (found : List (List Nat × List Int)) (t : List Nat × List Int), t ∈ rows.foldl cutStep found ↔ ∃ b ∈ found, ∃ c u, CutOf c u rows ∧ t = (b.1 ++ c, b.2 ++ u) := by
  induction rows with
  | nil =>
    intro found t
    constructor
    · exact fun h => ⟨t, h, [], [], .nil, by simp⟩
    · rintro ⟨b, hb, c, u, hu, rfl⟩
      cases hu
      simpa using hb
  | cons r rows ih =>
    intro found t
    rw [List.foldl_cons, ih]
    constructor
    · rintro ⟨b, hb, c, u, hu, rfl⟩
      obtain ⟨b', hb', hm⟩ := List.mem_flatMap.mp hb
      obtain ⟨⟨x, i⟩, hx, rfl⟩ := List.mem_map.mp hm
      have hx' : r[i]? = some x := List.mem_zipIdx_iff_getElem?.mp hx
      exact ⟨b', hb', i :: c, x :: u, .cons hx' hu, by simp⟩
    · rintro ⟨b, hb, c, u, hu, rfl⟩
      cases hu with
      | @cons i f r' c' u' rs h t => exact ⟨(b.1 ++ [i], b.2 ++ [f]), List.mem_flatMap.mpr ⟨b, hb, List.mem_map.mpr ⟨(f, i), List.mem_zipIdx_iff_getElem?.mpr h, rfl⟩⟩, _, _, t, by simp⟩
def cutsOf (rows : List (List Int)) : List (List Nat × List Int) := rows.foldl cutStep [([], [])]
theorem cuts_mem {rows : List (List Int)} {c : List Nat} {u : List Int} : (c, u) ∈ cutsOf rows ↔ CutOf c u rows := by
  unfold cutsOf
  rw [cut_mem]
  constructor
  · rintro ⟨b, hb, c', u', h, e⟩
    rw [List.mem_singleton] at hb
    subst hb
    cases e
    exact h
  · exact fun h => ⟨([], []), List.mem_singleton.mpr rfl, c, u, h, rfl⟩
theorem all_cuts {f : List Int → List Int} (hf : ∀ r x, x ∈ f r ↔ x ∈ r) (rows : List (List Int)) (bad : List Int → Bool) :
    (rows.foldl (allStep f) [[]]).any bad = (cutsOf rows).any fun c => bad c.2 := by
  rw [Bool.eq_iff_iff, List.any_eq_true, List.any_eq_true]
  constructor
  · rintro ⟨t, ht, hb⟩
    obtain ⟨b, hb', u, hu, rfl⟩ := (all_mem hf rows _ _).mp ht
    rw [List.mem_singleton] at hb'
    subst hb'
    obtain ⟨c, hc⟩ := picks_cut hu
    exact ⟨(c, u), cuts_mem.mpr hc, hb⟩
  · rintro ⟨⟨c, u⟩, hm, hb⟩
    exact ⟨u, (all_mem hf rows _ _).mpr ⟨[], List.mem_singleton.mpr rfl, u, (cuts_mem.mp hm).picks, rfl⟩, hb⟩
theorem CutOf.facts {c : List Nat} {u : List Int} {rs : List (List Int)} (h : CutOf c u rs) : c.length = rs.length ∧ u.length = rs.length ∧ (∀ i, i < rs.length → (c.getD i 0) < (rs.getD i []).length ∧ u.getD i 0 = (rs.getD i []).getD (c.getD i 0) 0) := by
  induction h with
  | nil => exact ⟨rfl, rfl, fun i h => nomatch h⟩
  | @cons i f r c u rs h _ ih =>
    obtain ⟨a, b, d⟩ := ih
    refine ⟨by simp [a], by simp [b], fun k hk => ?_⟩
    cases k with
    | zero =>
      obtain ⟨h1, h2⟩ := List.getElem?_eq_some_iff.mp h
      exact ⟨h1, by simp [List.getD_eq_getElem?_getD, h]⟩
    | succ k => exact d k (by simpa using hk)
end V

namespace V
open PySem L2 PyProof.Rows Rf Nm

def isNum (lo hi : Int) : PyData → Bool
  | .int i => decide (lo ≤ i ∧ i ≤ hi)
  | _ => false
theorem rangeW_1 (n : Nat) : rangeW 1 (n : Int) = (List.range (n - 1)).map fun (k : Nat) => W.dat (.int (1 + (k : Int))) := by
  unfold rangeW
  rw [show ((n : Int) - 1).toNat = n - 1 by omega]
section
variable {bs : List Nat} {S : Store} {n : Nat} {E : EK} {Q : W → Store → Prop}
theorem ev_is_number (d : PyData) (lo hi : Int) : F_is_number bs [.dat d, .dat (.int lo), .dat (.int hi)] S = .ok (.dat (.bool (isNum lo hi d))) S := by
  refine eq_of_wp ?_
  (unfold F_is_number m_is_number; with_reducible refine Rf.wp_fn rfl ?_; simp only [Rf.startE, List.map_cons, List.map_nil, List.length_cons, List.length_nil, Nat.reduceAdd, Nat.reduceSub, List.replicate, List.cons_append, List.nil_append])
  cases d with
  | int i =>
    (try array_get_dec)
    refine ifD (fun h => ?_) (fun h => ?_)
    · (try array_get_dec)
      refine ⟨?_, rfl⟩
      simp [isNum, h]
    · (try array_get_dec)
      refine ⟨?_, rfl⟩
      simp [isNum, h]
  | _ =>
    (try array_get_dec)
    exact ⟨rfl, rfl⟩
theorem ev_is_figure (d : PyData) : F__is_figure bs [.dat d] S = .ok (.dat (.bool (isNum 0 9 d))) S := by
  refine eq_of_wp ?_
  (unfold F__is_figure m__is_figure; with_reducible refine Rf.wp_fn rfl ?_; simp only [Rf.startE, List.map_cons, List.map_nil, List.length_cons, List.length_nil, Nat.reduceAdd, Nat.reduceSub, List.replicate, List.cons_append, List.nil_append])
  (try array_get_dec)
  refine wp_eq (ev_is_number _ _ _) ?_
  (try array_get_dec)
  exact ⟨rfl, rfl⟩
theorem ev_law_is_whole (d : PyData) (most : Int) : F__law_is_whole bs [.dat d, .dat (.int most)] S = .ok (.dat (.bool (isNum 0 (most - 1) d))) S := by
  refine eq_of_wp ?_
  (unfold F__law_is_whole m__law_is_whole; with_reducible refine Rf.wp_fn rfl ?_; simp only [Rf.startE, List.map_cons, List.map_nil, List.length_cons, List.length_nil, Nat.reduceAdd, Nat.reduceSub, List.replicate, List.cons_append, List.nil_append])
  cases d with
  | int i =>
    (try array_get_dec)
    refine ifD (fun h => ?_) (fun h => ?_)
    · (try array_get_dec)
      refine ⟨?_, rfl⟩
      have e : decide (i < most) = decide (0 ≤ i ∧ i ≤ most - 1) := decide_eq_decide.mpr ⟨fun z => ⟨h, by omega⟩, fun z => by omega⟩
      simp only [isNum, e]
    · (try array_get_dec)
      refine ⟨?_, rfl⟩
      have e : decide (0 ≤ i ∧ i ≤ most - 1) = false := decide_eq_false (by omega)
      simp only [isNum, e]
  | _ =>
    (try array_get_dec)
    exact ⟨rfl, rfl⟩
/-- a name of one to eight small letters -/
def okN (z : Str) : Prop := 1 ≤ z.length ∧ z.length ≤ 8 ∧ z.cps.toList.all letB = true
theorem ev_is_name (z : Str) (h : okN z) : F_is_name bs [.dat (.str z)] S = .ok (.dat (.bool true)) S := by
  obtain ⟨h1, h8, hl⟩ := h
  refine eq_of_wp ?_
  (unfold F_is_name m_is_name; with_reducible refine Rf.wp_fn rfl ?_; simp only [Rf.startE, List.map_cons, List.map_nil, List.length_cons, List.length_nil, Nat.reduceAdd, Nat.reduceSub, List.replicate, List.cons_append, List.nil_append])
  (try array_get_dec)
  refine len_str (by omega) ?_
  (try array_get_dec)
  have e := str_len z
  refine ifD (fun _ => ?_) (fun g => absurd (by omega) g)
  (try array_get_dec)
  refine ifN (fun h2 => ?_) (fun h2 => absurd (by omega) h2)
  (try array_get_dec)
  refine wp_compM (f := fun c => .dat (.str ⟨#[c]⟩)) (xs := z.cps.toList) (fun c => .dat (.bool (letB c))) (by omega) (fun c hc => ?_) ?_
  · (try array_get_dec)
    exact ⟨rfl, rfl⟩
  · (try array_get_dec)
    exact ⟨by rw [hl], rfl⟩
def picD (p : List Int) : PyData := .tuple (p.map .int)
def figs (p : List Int) : Prop := ∀ x ∈ p, 0 ≤ x ∧ x ≤ 9
theorem ev_check_picture (p : List Int) (h1 : 1 ≤ p.length) (h6 : p.length ≤ 6) (hf : figs p) : F__check_picture bs [.dat (picD p)] S = .ok (.dat .none) S := by
  refine eq_of_wp ?_
  (unfold F__check_picture m__check_picture; with_reducible refine Rf.wp_fn rfl ?_; simp only [Rf.startE, List.map_cons, List.map_nil, List.length_cons, List.length_nil, Nat.reduceAdd, Nat.reduceSub, List.replicate, List.cons_append, List.nil_append])
  unfold picD
  (try array_get_dec)
  rw [List.length_map]
  refine ifD (fun _ => ?_) (fun g => absurd (by omega) g)
  (try array_get_dec)
  refine ifN (fun _ => ?_) (fun g => absurd (by omega) g)
  (try array_get_dec)
  rw [List.map_map]
  refine wp_compM (f := W.dat ∘ PyData.int) (xs := p) (fun x => .dat (.bool (isNum 0 9 (.int x)))) (by omega) (fun x hx => ?_) ?_
  · (try array_get_dec)
    refine wp_eq (ev_is_figure _) ?_
    exact ⟨rfl, rfl⟩
  · (try array_get_dec)
    have e : (p.all fun x => isNum 0 9 (.int x)) = true := List.all_eq_true.mpr fun x hx => decide_eq_true (hf x hx)
    rw [e]
    (try array_get_dec)
    exact ⟨trivial, by simp⟩
def wrD (w : Nat × Int) : PyData := .tuple [.int w.1, .int w.2]
def wsD (ws : List (Nat × Int)) : PyData := .tuple (ws.map wrD)
def writesOk (p : List Int) (ws : List (Nat × Int)) : Prop := ∀ w ∈ ws, w.1 < p.length ∧ 0 ≤ w.2 ∧ w.2 ≤ 9
theorem ev_is_write (k : Nat) (w : Nat × Int) (h : w.1 < k ∧ 0 ≤ w.2 ∧ w.2 ≤ 9) : F__is_write bs [.dat (.int k), .dat (wrD w)] S = .ok (.dat (.bool true)) S := by
  refine eq_of_wp ?_
  (unfold F__is_write m__is_write; with_reducible refine Rf.wp_fn rfl ?_; simp only [Rf.startE, List.map_cons, List.map_nil, List.length_cons, List.length_nil, Nat.reduceAdd, Nat.reduceSub, List.replicate, List.cons_append, List.nil_append])
  unfold wrD
  (try array_get_dec)
  refine ifN (fun _ => ?_) (fun g => absurd rfl g)
  (try array_get_dec)
  refine ix_tup rfl ?_
  (try array_get_dec)
  refine wp_eq (ev_is_number _ _ _) ?_
  have e : isNum 0 ((k : Int) - 1) (.int w.1) = true := decide_eq_true (by omega)
  rw [e]
  (try array_get_dec)
  refine ix_tup rfl ?_
  (try array_get_dec)
  refine wp_eq (ev_is_figure _) ?_
  have e : isNum 0 9 (.int w.2) = true := decide_eq_true (by omega)
  rw [e]
  exact ⟨rfl, by simp⟩
theorem ev_check_writes (p : List Int) (ws : List (Nat × Int)) (hp : p.length ≤ 6) (h8 : ws.length ≤ 8) (hf : writesOk p ws) : F__check_writes bs [.dat (picD p), .dat (wsD ws)] S = .ok (.dat .none) S := by
  refine eq_of_wp ?_
  (unfold F__check_writes m__check_writes; with_reducible refine Rf.wp_fn rfl ?_; simp only [Rf.startE, List.map_cons, List.map_nil, List.length_cons, List.length_nil, Nat.reduceAdd, Nat.reduceSub, List.replicate, List.cons_append, List.nil_append])
  unfold wsD picD
  (try array_get_dec)
  rw [List.length_map]
  refine ifD (fun g => absurd g (by omega)) (fun _ => ?_)
  (try array_get_dec)
  rw [List.map_map]
  refine wp_compM (f := W.dat ∘ wrD) (xs := ws) (fun x => .dat (.bool true)) (by omega) (fun x hx => ?_) ?_
  · (try array_get_dec)
    rw [List.length_map]
    refine wp_eq (ev_is_write _ x (hf x hx)) ?_
    exact ⟨rfl, rfl⟩
  · (try array_get_dec)
    have e : (ws.all fun _ => true) = true := List.all_eq_true.mpr fun _ _ => rfl
    rw [e]
    (try array_get_dec)
    exact ⟨trivial, by simp⟩
def gpD (gaps : List Nat) : PyData := .tuple (gaps.map fun (g : Nat) => .int g)
def gapsOk (ws : List (Nat × Int)) (gaps : List Nat) : Prop := (∀ g ∈ gaps, 1 ≤ g ∧ g ≤ ws.length) ∧ gaps.Pairwise (· < ·)
theorem ev_check_gaps (ws : List (Nat × Int)) (gaps : List Nat) (h8 : ws.length ≤ 8) (h9 : gaps.length ≤ 9) (hf : gapsOk ws gaps) : F__check_gaps bs [.dat (wsD ws), .dat (gpD gaps)] S = .ok (.dat .none) S := by
  refine eq_of_wp ?_
  (unfold F__check_gaps m__check_gaps; with_reducible refine Rf.wp_fn rfl ?_; simp only [Rf.startE, List.map_cons, List.map_nil, List.length_cons, List.length_nil, Nat.reduceAdd, Nat.reduceSub, List.replicate, List.cons_append, List.nil_append])
  unfold wsD gpD
  (try array_get_dec)
  rw [List.map_map]
  refine wp_compM (f := W.dat ∘ fun (g : Nat) => PyData.int g) (xs := gaps) (fun x => .dat (.bool true)) (by omega) (fun x hx => ?_) ?_
  · (try array_get_dec)
    rw [List.length_map]
    refine wp_eq (ev_is_number _ _ _) ?_
    have e : isNum 1 ((ws.length : Nat) : Int) (.int (x : Nat)) = true := decide_eq_true (by have := hf.1 x hx; omega)
    rw [e]
    exact ⟨rfl, rfl⟩
  · (try array_get_dec)
    have e : (gaps.all fun _ => true) = true := List.all_eq_true.mpr fun _ _ => rfl
    rw [e]
    (try array_get_dec)
    rw [List.length_map]
    refine ⟨1, _, rfl, ⟨by omega, by omega⟩, ?_⟩
    rw [rangeW_1]
    refine wp_compM (f := fun k : Nat => W.dat (.int (1 + (k : Int)))) (xs := List.range (gaps.length - 1)) (fun x => .dat (.bool true)) (by simp; omega) (fun k hk => ?_) ?_
    · have hk := List.mem_range.mp hk
      have l1 : k < gaps.length := by omega
      have l2 : k + 1 < gaps.length := by omega
      (try array_get_dec)
      refine ix_tup (d := .int (gaps[k] : Nat)) (by rw [show (1 + (k : Int) - 1) = ((k : Nat) : Int) by omega]; exact atI_ofNat (by simp [l1])) ?_
      (try array_get_dec)
      refine ix_tup (d := .int (gaps[k + 1] : Nat)) (by rw [show (1 + (k : Int)) = ((k + 1 : Nat) : Int) by omega]; exact atI_ofNat (by simp [l2])) ?_
      (try array_get_dec)
      have lt : gaps[k] < gaps[k + 1] := List.pairwise_iff_getElem.mp hf.2 k (k + 1) l1 l2 (by omega)
      rw [decide_eq_true (show ((gaps[k] : Nat) : Int) < (gaps[k + 1] : Nat) by omega)]
      exact ⟨rfl, rfl⟩
    · (try array_get_dec)
      have e : ((List.range (gaps.length - 1)).all fun _ => true) = true := List.all_eq_true.mpr fun _ _ => rfl
      rw [e]
      (try array_get_dec)
      exact ⟨trivial, by simp⟩
end
end V

namespace V
open PySem L2 PyProof.Rows Rf Nm
def optD : Option Int → PyData
  | some i => .int i
  | none => .none
abbrev Rule := List (Option Int) × Str
def ruD (r : Rule) : PyData := .tuple [.tuple (r.1.map optD), .str r.2]
def rsD (rules : List Rule) : PyData := .tuple (rules.map ruD)
def figO (o : Option Int) : Prop := ∀ i, o = some i → 0 ≤ i ∧ i ≤ 9
def ruleOk (k : Nat) (r : Rule) : Prop := r.1.length = k ∧ (∀ o ∈ r.1, figO o) ∧ okN r.2
def nsD (ns : List Str) : PyData := .tuple (ns.map .str)
def prD (pr : List (List Str)) : PyData := .tuple (pr.map nsD)
def ltS (a b : Str) : Prop := a.cps.toList < b.cps.toList
def namesOk (ns : List Str) : Prop := (∀ z ∈ ns, okN z) ∧ ns.Pairwise ltS ∧ ns.length ≤ 100
section
variable {bs : List Nat} {S : Store} {n : Nat} {E : EK} {Q : W → Store → Prop}
theorem all_yes {α : Type} (l : List α) : (l.all fun _ => true) = true := List.all_eq_true.mpr fun _ _ => rfl
theorem ev_is_pattern (k : Nat) (l : List (Option Int)) (h6 : k ≤ 6) (hk : l.length = k) (hf : ∀ o ∈ l, figO o) : F__is_pattern bs [.dat (.int k), .dat (.tuple (l.map optD))] S = .ok (.dat (.bool true)) S := by
  refine eq_of_wp ?_
  (unfold F__is_pattern m__is_pattern; with_reducible refine Rf.wp_fn rfl ?_; simp only [Rf.startE, List.map_cons, List.map_nil, List.length_cons, List.length_nil, Nat.reduceAdd, Nat.reduceSub, List.replicate, List.cons_append, List.nil_append])
  (try array_get_dec)
  rw [List.length_map, hk]
  refine ifN (fun _ => ?_) (fun g => absurd rfl g)
  (try array_get_dec)
  rw [List.map_map]
  refine wp_compM (f := W.dat ∘ optD) (xs := l) (fun x => .dat (.bool true)) (by omega) (fun x hx => ?_) ?_
  · cases x with
    | none =>
      (try array_get_dec)
      exact ⟨fun _ => ⟨rfl, rfl⟩, fun g => (nomatch g)⟩
    | some i =>
      (try array_get_dec)
      refine ⟨fun g => (nomatch g), fun _ => ?_⟩
      (try array_get_dec)
      refine wp_eq (ev_is_figure (.int i)) ?_
      have e : isNum 0 9 (.int i) = true := decide_eq_true (hf _ hx i rfl)
      rw [e]
      exact ⟨rfl, rfl⟩
  · (try array_get_dec)
    rw [all_yes]
    exact ⟨rfl, by simp⟩
theorem ev_is_rule (k : Nat) (r : Rule) (h6 : k ≤ 6) (h : ruleOk k r) : F__is_rule bs [.dat (.int k), .dat (ruD r)] S = .ok (.dat (.bool true)) S := by
  refine eq_of_wp ?_
  (unfold F__is_rule m__is_rule; with_reducible refine Rf.wp_fn rfl ?_; simp only [Rf.startE, List.map_cons, List.map_nil, List.length_cons, List.length_nil, Nat.reduceAdd, Nat.reduceSub, List.replicate, List.cons_append, List.nil_append])
  unfold ruD
  (try array_get_dec)
  refine ifN (fun _ => ?_) (fun g => absurd rfl g)
  (try array_get_dec)
  refine ix_tup rfl ?_
  (try array_get_dec)
  refine wp_eq (ev_is_pattern k r.1 h6 h.1 h.2.1) ?_
  (try array_get_dec)
  refine ix_tup rfl ?_
  (try array_get_dec)
  refine wp_eq (ev_is_name r.2 h.2.2) ?_
  exact ⟨rfl, by simp⟩
theorem ev_check_rules (p : List Int) (rules : List Rule) (hp : p.length ≤ 6) (h24 : rules.length ≤ 24) (hf : ∀ r ∈ rules, ruleOk p.length r) : F__check_rules bs [.dat (picD p), .dat (rsD rules)] S = .ok (.dat .none) S := by
  refine eq_of_wp ?_
  (unfold F__check_rules m__check_rules; with_reducible refine Rf.wp_fn rfl ?_; simp only [Rf.startE, List.map_cons, List.map_nil, List.length_cons, List.length_nil, Nat.reduceAdd, Nat.reduceSub, List.replicate, List.cons_append, List.nil_append])
  unfold rsD picD
  (try array_get_dec)
  rw [List.length_map]
  refine ifD (fun g => absurd g (by omega)) (fun _ => ?_)
  (try array_get_dec)
  rw [List.map_map]
  refine wp_compM (f := W.dat ∘ ruD) (xs := rules) (fun x => .dat (.bool true)) (by omega) (fun x hx => ?_) ?_
  · (try array_get_dec)
    rw [List.length_map]
    refine wp_eq (ev_is_rule _ x hp (hf x hx)) ?_
    exact ⟨rfl, rfl⟩
  · (try array_get_dec)
    rw [all_yes]
    (try array_get_dec)
    exact ⟨trivial, by simp⟩
theorem ev_ascending (ns : List Str) (h : namesOk ns) : F__are_ascending_names bs [.dat (nsD ns)] S = .ok (.dat (.bool true)) S := by
  obtain ⟨h1, h2, h3⟩ := h
  refine eq_of_wp ?_
  (unfold F__are_ascending_names m__are_ascending_names; with_reducible refine Rf.wp_fn rfl ?_; simp only [Rf.startE, List.map_cons, List.map_nil, List.length_cons, List.length_nil, Nat.reduceAdd, Nat.reduceSub, List.replicate, List.cons_append, List.nil_append])
  unfold nsD
  (try array_get_dec)
  rw [List.map_map]
  refine wp_compM (f := W.dat ∘ PyData.str) (xs := ns) (fun x => .dat (.bool true)) (by omega) (fun x hx => ?_) ?_
  · (try array_get_dec)
    refine wp_eq (ev_is_name x (h1 x hx)) ?_
    exact ⟨rfl, rfl⟩
  · (try array_get_dec)
    rw [all_yes]
    (try array_get_dec)
    rw [List.length_map]
    refine ⟨1, _, rfl, ⟨by omega, by omega⟩, ?_⟩
    rw [rangeW_1]
    refine wp_compM (f := fun k : Nat => W.dat (.int (1 + (k : Int)))) (xs := List.range (ns.length - 1)) (fun x => .dat (.bool true)) (by simp; omega) (fun k hk => ?_) ?_
    · have hk := List.mem_range.mp hk
      have l1 : k < ns.length := by omega
      have l2 : k + 1 < ns.length := by omega
      (try array_get_dec)
      refine ix_tup (d := .str ns[k]) (by rw [show (1 + (k : Int) - 1) = ((k : Nat) : Int) by omega]; exact atI_ofNat (by simp [l1])) ?_
      (try array_get_dec)
      refine ix_tup (d := .str ns[k + 1]) (by rw [show (1 + (k : Int)) = ((k + 1 : Nat) : Int) by omega]; exact atI_ofNat (by simp [l2])) ?_
      (try array_get_dec)
      have lt : ltS ns[k] ns[k + 1] := List.pairwise_iff_getElem.mp h2 k (k + 1) l1 l2 (by omega)
      rw [decide_eq_true (show ns[k].cps.toList < ns[k + 1].cps.toList from lt)]
      exact ⟨rfl, rfl⟩
    · (try array_get_dec)
      rw [all_yes]
      (try array_get_dec)
      exact ⟨rfl, by simp⟩
theorem ev_check_promise (ws : List (Nat × Int)) (pr : List (List Str)) (h8 : ws.length ≤ 8) (hl : pr.length = ws.length + 1) (hf : ∀ ns ∈ pr, namesOk ns) : F__check_promise bs [.dat (wsD ws), .dat (prD pr)] S = .ok (.dat .none) S := by
  refine eq_of_wp ?_
  (unfold F__check_promise m__check_promise; with_reducible refine Rf.wp_fn rfl ?_; simp only [Rf.startE, List.map_cons, List.map_nil, List.length_cons, List.length_nil, Nat.reduceAdd, Nat.reduceSub, List.replicate, List.cons_append, List.nil_append])
  unfold wsD prD
  (try array_get_dec)
  rw [List.length_map, List.length_map]
  refine ifN (fun _ => ?_) (fun g => absurd (by omega) g)
  (try array_get_dec)
  rw [List.map_map]
  refine wp_compM (f := W.dat ∘ nsD) (xs := pr) (fun x => .dat (.bool true)) (by omega) (fun x hx => ?_) ?_
  · (try array_get_dec)
    refine wp_eq (ev_ascending x (hf x hx)) ?_
    exact ⟨rfl, rfl⟩
  · (try array_get_dec)
    rw [all_yes]
    (try array_get_dec)
    exact ⟨trivial, by simp⟩
/-- a plan that the checks let pass -/
structure PlanOk (p : List Int) (ws : List (Nat × Int)) (gaps : List Nat) (rules : List Rule) (pr : List (List Str)) : Prop where
  p1 : 1 ≤ p.length
  p6 : p.length ≤ 6
  pf : figs p
  w8 : ws.length ≤ 8
  wf : writesOk p ws
  g9 : gaps.length ≤ 9
  gf : gapsOk ws gaps
  r24 : rules.length ≤ 24
  rf : ∀ r ∈ rules, ruleOk p.length r
  ml : pr.length = ws.length + 1
  mf : ∀ ns ∈ pr, namesOk ns
theorem ev_check_plan {p : List Int} {ws : List (Nat × Int)} {gaps : List Nat} {rules : List Rule} {pr : List (List Str)} (h : PlanOk p ws gaps rules pr) :
    F__check_plan bs [.dat (picD p), .dat (wsD ws), .dat (gpD gaps), .dat (rsD rules), .dat (prD pr)] S = .ok (.dat .none) S := by
  refine eq_of_wp ?_
  (unfold F__check_plan m__check_plan; with_reducible refine Rf.wp_fn rfl ?_; simp only [Rf.startE, List.map_cons, List.map_nil, List.length_cons, List.length_nil, Nat.reduceAdd, Nat.reduceSub, List.replicate, List.cons_append, List.nil_append])
  have e : F__check_told (S.length :: bs) [.dat (picD p), .dat (wsD ws), .dat (gpD gaps)] S = .ok (.dat .none) S := by
    refine eq_of_wp ?_
    (unfold F__check_told m__check_told; with_reducible refine Rf.wp_fn rfl ?_; simp only [Rf.startE, List.map_cons, List.map_nil, List.length_cons, List.length_nil, Nat.reduceAdd, Nat.reduceSub, List.replicate, List.cons_append, List.nil_append])
    (try array_get_dec)
    refine wp_eq (ev_check_picture p h.p1 h.p6 h.pf) ?_
    (try array_get_dec)
    refine wp_eq (ev_check_writes p ws h.p6 h.w8 h.wf) ?_
    (try array_get_dec)
    refine wp_eq (ev_check_gaps ws gaps h.w8 h.g9 h.gf) ?_
    (try array_get_dec)
    exact ⟨trivial, by simp⟩
  (try array_get_dec)
  refine wp_eq e ?_
  (try array_get_dec)
  refine wp_eq (ev_check_rules p rules h.p6 h.r24 h.rf) ?_
  (try array_get_dec)
  refine wp_eq (ev_check_promise ws pr h.w8 h.ml h.mf) ?_
  (try array_get_dec)
  exact ⟨trivial, by simp⟩
end
end V

namespace V
open PySem L2 PyProof.Rows Rf Nm
theorem maxT_lstI {bs : List Nat} {S : Store} {ns : List Int} {m : Int} {Q : W → Store → Prop} (h : ns.max? = some m) (q : Q (.dat (.int m)) S) : wpo (un maxTF bs [.dat (.list (ns.map .int))] S) Q := by
  have e : maxTF S (.dat (.list (ns.map PyData.int))) = some (.dat (.int m)) := by
    show (match (some ((ns.map PyData.int).map W.dat)).bind intsW with | some ns => (ns.max?).map W.int | none => none) = _
    simp only [Option.bind_some, Rf.ints_of, h]; rfl
  unfold un
  simp only [e]
  exact q
theorem max_nats (l : List Nat) : ∀ a : Nat, (l.map fun (g : Nat) => (g : Int)).foldl max (a : Int) = ((l.foldl max a : Nat) : Int) := by
  induction l with
  | nil => exact fun a => rfl
  | cons x l ih =>
    intro a
    rw [List.map_cons, List.foldl_cons, List.foldl_cons, ← ih]
    congr 1
    omega
section
variable {bs : List Nat} {S : Store} {n : Nat} {E : EK} {Q : W → Store → Prop}
theorem ev_last_gap (gaps : List Nat) (m : Nat) (h9 : gaps.length ≤ 9) : F__last_gap bs [.dat (gpD gaps), .dat (.int m)] S = .ok (.dat (.int (lastG gaps m : Nat))) S := by
  refine eq_of_wp ?_
  (unfold F__last_gap m__last_gap; with_reducible refine Rf.wp_fn rfl ?_; simp only [Rf.startE, List.map_cons, List.map_nil, List.length_cons, List.length_nil, Nat.reduceAdd, Nat.reduceSub, List.replicate, List.cons_append, List.nil_append])
  unfold gpD
  (try array_get_dec)
  rw [List.map_map]
  refine wp_compP (f := W.dat ∘ fun (g : Nat) => PyData.int g) (xs := gaps) (fun x => if x < m then some (.dat (.int (x : Nat))) else none) (by omega) (fun x hx => ?_) ?_
  · (try array_get_dec)
    refine ifD (fun h => ?_) (fun h => ?_)
    · (try array_get_dec)
      rw [if_pos (by omega)]
      exact ⟨rfl, rfl⟩
    · rw [if_neg (by omega)]
      exact ⟨rfl, rfl⟩
  · have e : gaps.filterMap (fun x => if x < m then some (W.dat (.int (x : Nat))) else none) = (gaps.filter fun g => decide (g < m)).map fun (x : Nat) => W.dat (.int (x : Nat)) := by
      induction gaps with
      | nil => rfl
      | cons g gs ih =>
        have ih := ih (by simp at h9; omega)
        by_cases hg : g < m
        · rw [List.filterMap_cons_some (b := W.dat (.int (g : Nat))) (by rw [if_pos hg]), List.filter_cons_of_pos (by simpa using hg), ih]
          rfl
        · rw [List.filterMap_cons_none (by rw [if_neg hg]), List.filter_cons_of_neg (by simpa using hg), ih]
    rw [e]
    have hl : (gaps.filter fun g => decide (g < m)).length ≤ 9 := Nat.le_trans (List.length_filter_le _ _) h9
    refine nl_map ?_
    (try array_get_dec)
    refine add_lst (by simp; omega) ?_
    (try array_get_dec)
    rw [show ([PyData.int 0] ++ (gaps.filter fun g => decide (g < m)).map fun (x : Nat) => PyData.int (x : Nat)) = ((0 : Int) :: (gaps.filter fun g => decide (g < m)).map fun (x : Nat) => (x : Int)).map PyData.int by simp]
    refine maxT_lstI (m := (lastG gaps m : Nat)) ?_ ?_
    · show some (List.foldl max 0 _) = _
      exact congrArg some (max_nats _ 0)
    · (try array_get_dec)
      exact ⟨rfl, by simp⟩
theorem cut_both {α : Type} (xs : List α) (i j : Nat) : cutW xs (some (i : Int)) (some (j : Int)) = (xs.take j).drop i := by
  unfold cutW
  rw [HT.sIx_nat, HT.sIx_nat, List.drop_take]
  by_cases h : i ≤ xs.length
  · rw [Nat.min_eq_left h]
    by_cases g : j ≤ xs.length
    · rw [Nat.min_eq_left g]
    · rw [Nat.min_eq_right (by omega), List.take_of_length_le (by simp), List.take_of_length_le (by simp; omega)]
  · rw [List.drop_eq_nil_of_le (by omega), List.drop_eq_nil_of_le (by omega)]
    simp
def rowC (r : List Int) : Cell := .lst (r.map fun x => .dat (.int x))
def rowT (r : List Int) : PyData := .tuple (r.map .int)
def verD (R : List (List Int)) : PyData := .tuple (R.map rowT)
def locs (b k : Nat) : List W := (List.range k).map fun i => .loc (b + i)
theorem locs_lw (b k : Nat) (S : Store) (Q : W → Store → Prop) (q : Q (.lw (locs b (k + 1))) S) : NL false Q (locs b (k + 1)) S := by
  have e : mkLst (locs b (k + 1)) = .lw (locs b (k + 1)) := by
    unfold mkLst locs
    rw [List.range_succ_eq_map, List.map_cons]
    rfl
  show Q (mkLst (locs b (k + 1))) S
  rw [e]
  exact q
theorem locs_at {b k i : Nat} (h : i < k) : L2.atI (locs b k) (i : Int) = some (.loc (b + i)) := atI_ofNat (by unfold locs; simp [h])
theorem locs_succ (b k : Nat) : locs b (k + 1) = locs b k ++ [.loc (b + k)] := by unfold locs; rw [List.range_succ, List.map_append]; rfl
theorem rows_at {X : Store} {R : List (List Int)} {c : Nat} (h : c < R.length) : (X ++ R.map rowC)[X.length + c]? = some (.lst ((R.getD c []).map fun x => .dat (.int x))) := by
  rw [List.getElem?_append_right (by omega), show X.length + c - X.length = c by omega, List.getElem?_map, List.getD_eq_getElem?_getD, List.getElem?_eq_getElem h]
  rfl
theorem rows_put {X : Store} {R : List (List Int)} {c : Nat} {f : Int} (h : c < R.length) : (X ++ R.map rowC).set (X.length + c) (.lst (((R.getD c []).map fun x => W.dat (.int x)) ++ [.dat (.int f)])) = X ++ (put R (c, f)).map rowC := by
  rw [List.set_append_right _ _ (by omega), show X.length + c - X.length = c by omega]
  congr 1
  unfold put
  refine List.ext_getElem? fun i => ?_
  rw [List.getElem?_set, List.getElem?_map, List.getElem?_map, List.getElem?_modify, List.length_map]
  by_cases e : c = i
  · subst e
    rw [if_pos rfl, if_pos h, List.getD_eq_getElem?_getD, List.getElem?_eq_getElem h]
    simp [rowC]
  · rw [if_neg e]
    cases R[i]? <;> simp [e]
theorem rows_of {R : List (List Int)} : ((List.range R.length).map fun i => rowT (R.getD i [])) = R.map rowT := by
  refine List.ext_getElem? fun i => ?_
  rw [List.getElem?_map, List.getElem?_map]
  by_cases h : i < R.length
  · rw [List.getElem?_range h, List.getElem?_eq_getElem h]
    show some (rowT (R.getD i [])) = some (rowT R[i])
    rw [List.getD_eq_getElem?_getD, List.getElem?_eq_getElem h]; rfl
  · rw [List.getElem?_eq_none (by simpa using h), List.getElem?_eq_none (by omega)]; rfl
theorem ixN_nat {n j : Nat} (hj : j < n) : L2.ixN n (j : Int) = some j := by
  unfold L2.ixN
  rw [if_pos (by omega), if_pos (by omega), Int.toNat_natCast]
theorem put_len (R : List (List Int)) (w : Nat × Int) (c : Nat) : ((put R w).getD c []).length ≤ (R.getD c []).length + 1 := by
  unfold put
  rw [List.getD_eq_getElem?_getD, List.getD_eq_getElem?_getD, List.getElem?_modify]
  cases R[c]? with
  | none => simp
  | some r => by_cases h : w.1 = c <;> simp [h]
theorem steps_len (ws : List (Nat × Int)) (c : Nat) : ∀ R : List (List Int), ((ws.foldl put R).getD c []).length ≤ (R.getD c []).length + ws.length := by
  induction ws with
  | nil => exact fun R => Nat.le_refl _
  | cons w ws ih =>
    intro R
    have := ih (put R w)
    have := put_len R w c
    rw [List.foldl_cons, List.length_cons]
    omega
theorem single_len (p : List Int) (c : Nat) : ((single p).getD c []).length ≤ 1 := by
  unfold single
  rw [List.getD_eq_getElem?_getD, List.getElem?_map]
  cases p[c]? <;> simp
theorem list_new {xs : List PyData} {Q : W → Store → Prop} (q : Q (.loc S.length) (S ++ [.lst (xs.map .dat)])) : wpo (listF true bs [.dat (.tuple xs)] S) Q := q
theorem ev_versions (p : List Int) (ws : List (Nat × Int)) (l m : Nat) (hp1 : 1 ≤ p.length) (hp : p.length ≤ 6) (h8 : ws.length ≤ 8) (hf : writesOk p ws) : F__versions bs [.dat (picD p), .dat (wsD ws), .dat (.int l), .dat (.int m)] S = .ok (.dat (verD (vers p ws l m))) S := by
  refine eq_of_wp ?_
  (unfold F__versions m__versions; with_reducible refine Rf.wp_fn rfl ?_; simp only [Rf.startE, List.map_cons, List.map_nil, List.length_cons, List.length_nil, Nat.reduceAdd, Nat.reduceSub, List.replicate, List.cons_append, List.nil_append])
  unfold picD wsD
  (try array_get_dec)
  refine list_new ?_
  (try array_get_dec)
  rw [cut_to, ← List.map_take, List.map_map]
  refine wp_items (f := W.dat ∘ wrD) (xs := ws.take l) (fun pre env S' => ∃ x y, env = [some (.dat (.tuple (p.map .int))), some (.dat (.tuple (ws.map wrD))), some (.dat (.int l)), some (.dat (.int m)), some (.loc S.length), none, x, y, none] ∧ S' = S ++ [rowC (laid p pre)]) ⟨none, none, rfl, by unfold rowC laid; simp⟩ (fun pre w post env S' hx h => ?_) (fun env S' h => ?_)
  · obtain ⟨x, y, rfl, rfl⟩ := h
    have hw : w ∈ ws := List.mem_of_mem_take (by rw [hx]; simp)
    have wf := hf w hw
    refine wp_body ?_
    refine wp_tTup (w := .dat (.tuple [.int w.1, .int w.2])) (ws := [.dat (.int w.1), .dat (.int w.2)]) rfl rfl ?_
    refine wp_tCons (wp_name (wp_tCons (wp_name (wp_tNil ?_))))
    (try array_get_dec)
    refine wp_tSub ?_
    (try array_get_dec)
    refine set_loc (ws := (laid p pre).map fun x => .dat (.int x)) (at_app1 S _) (m := w.1) (by rw [List.length_map, len_laid]; exact ixN_nat wf.1) ?_
    (try array_get_dec)
    refine ⟨_, _, rfl, ?_⟩
    rw [set_app]
    unfold rowC laid
    rw [List.foldl_append]
    simp
  · obtain ⟨x, y, rfl, rfl⟩ := h
    have hlen : (laid p (ws.take l)).length = p.length := len_laid _ _
    (try array_get_dec)
    refine its_loc (at_app1 S _) ?_
    refine wp_compG (f := fun x => W.dat (.int x)) (xs := laid p (ws.take l)) (fun pre acc S' => acc = locs (S.length + 1) pre.length ∧ S' = S ++ [rowC (laid p (ws.take l))] ++ pre.map fun x => rowC [x]) (fun pre post acc S' hx h => ?_) (fun pre x post acc S' hx h => ?_) (fun acc S' h => ?_) _ [] (laid p (ws.take l)) [] _ rfl ?_ ⟨rfl, by simp⟩
    · rw [h.2]
      show (match (S ++ [rowC (laid p (ws.take l))] ++ pre.map fun x => rowC [x])[S.length]? with | some (.lst ws) => some ws[pre.length]? | _ => none : Option (Option W)) = _
      rw [List.append_assoc, List.singleton_append, at_app]
      exact next_of (S := S) hx
    · obtain ⟨rfl, rfl⟩ := h
      have hl := congrArg List.length hx
      simp only [List.length_append, List.length_cons] at hl
      (try array_get_dec)
      refine ⟨by unfold locs; simp; omega, ?_, by simp [rowC]⟩
      rw [List.length_append (as := pre), List.length_singleton, locs_succ]
      simp
      omega
    · obtain ⟨rfl, rfl⟩ := h
      rw [hlen, show p.length = (p.length - 1) + 1 by omega]
      refine locs_lw _ _ _ _ ?_
      rw [show (p.length - 1) + 1 = p.length by omega]
      (try array_get_dec)
      rw [cut_both, ← List.map_take, ← List.map_drop, List.map_map]
      have e0 : S ++ [rowC (laid p (ws.take l))] ++ ((laid p (ws.take l)).map fun x => rowC [x]) = (S ++ [rowC (laid p (ws.take l))]) ++ (single (laid p (ws.take l))).map rowC := by unfold single; rw [List.map_map]; rfl
      rw [e0]
      have eX : (S ++ [rowC (laid p (ws.take l))]).length = S.length + 1 := by simp
      refine wp_items (f := W.dat ∘ wrD) (xs := (ws.take m).drop l) (fun pre env S' => ∃ x y, env = [some (.dat (.tuple (p.map .int))), some (.dat (.tuple (ws.map wrD))), some (.dat (.int l)), some (.dat (.int m)), some (.loc S.length), some (.lw (locs (S.length + 1) p.length)), x, y, none] ∧ S' = (S ++ [rowC (laid p (ws.take l))]) ++ (pre.foldl put (single (laid p (ws.take l)))).map rowC) ⟨_, _, rfl, rfl⟩ (fun pre w post env S' hx h => ?_) (fun env S' h => ?_)
      · obtain ⟨x, y, rfl, rfl⟩ := h
        have hw : w ∈ ws := List.mem_of_mem_take (List.mem_of_mem_drop (by rw [hx]; simp))
        have wf := hf w hw
        have hR : (pre.foldl put (single (laid p (ws.take l)))).length = p.length := by rw [len_steps]; unfold single; rw [List.length_map, hlen]
        refine wp_body ?_
        refine wp_tTup (w := .dat (.tuple [.int w.1, .int w.2])) (ws := [.dat (.int w.1), .dat (.int w.2)]) rfl rfl ?_
        refine wp_tCons (wp_name (wp_tCons (wp_name (wp_tNil ?_))))
        (try array_get_dec)
        refine ix_seq (ws := locs (S.length + 1) p.length) rfl (locs_at wf.1) ?_
        have at1 := rows_at (X := S ++ [rowC (laid p (ws.take l))]) (R := pre.foldl put (single (laid p (ws.take l)))) (c := w.1) (by omega)
        rw [eX] at at1
        refine ⟨ty_loc at1, ?_⟩
        (try array_get_dec)
        have hl := congrArg List.length hx
        rw [List.length_append, List.length_drop, List.length_take] at hl
        have hr := steps_len pre w.1 (single (laid p (ws.take l)))
        have hs := single_len (laid p (ws.take l)) w.1
        refine app_loc at1 (by rw [List.length_map]; omega) ?_
        (try array_get_dec)
        refine ⟨_, _, rfl, ?_⟩
        have e1 := rows_put (X := S ++ [rowC (laid p (ws.take l))]) (R := pre.foldl put (single (laid p (ws.take l)))) (c := w.1) (f := w.2) (by omega)
        rw [eX] at e1
        rw [e1, List.foldl_append]
        rfl
      · obtain ⟨x, y, rfl, rfl⟩ := h
        (try array_get_dec)
        have hR : (vers p ws l m).length = p.length := len_vers _ _ _ _
        show (compG (.items (locs (S.length + 1) p.length)) _ _ _ _ _ _ _ _ ((S ++ [rowC (laid p (ws.take l))]) ++ (vers p ws l m).map rowC)).wp _ _
        refine wp_compM (f := fun i => W.loc (S.length + 1 + i)) (xs := List.range p.length) (fun i => .dat (rowT ((vers p ws l m).getD i []))) (by simp; omega) (fun i hi => ?_) ?_
        · have hi := List.mem_range.mp hi
          (try array_get_dec)
          refine tuple_loc (ds := ((vers p ws l m).getD i []).map .int) (by rw [← eX]; exact rows_at (by omega)) (by rw [List.map_map]; rfl) ?_
          exact ⟨rfl, rfl⟩
        · refine nl_map ?_
          (try array_get_dec)
          rw [← hR, rows_of]
          rw [List.append_assoc]
          refine rt_app ⟨rfl, rfl⟩
    · show (laid p (ws.take l)).length < _
      rw [hlen]
      simp [Iter.fuel]
      omega
end
end V

namespace V
open PySem L2 PyProof.Rows Rf Nm
section
variable {bs : List Nat} {S : Store} {n : Nat} {E : EK}
theorem enm_next {a : List W} {pre post : List (W × Nat)} {S : Store} (h : a.zipIdx = pre ++ post) : (Iter.enm (.items a)).next pre.length S = some (post.head?.map fun p => mkTup [.dat (.int (p.2 : Nat)), p.1]) := by
  have e : a[pre.length]? = post.head?.map Prod.fst := by
    have := congrArg (fun l => (l[pre.length]?).map Prod.fst) h
    simp only [List.getElem?_append_right (Nat.le_refl pre.length), Nat.sub_self, List.getElem?_zipIdx, Option.map_map] at this
    rw [List.head?_eq_getElem?, ← this]
    cases a[pre.length]? <;> rfl
  have e2 : ∀ p, post.head? = some p → p.2 = pre.length := fun p hp => by
    have := congrArg (fun l => l[pre.length]?) h
    simp only [List.getElem?_append_right (Nat.le_refl pre.length), Nat.sub_self, List.getElem?_zipIdx] at this
    rw [List.head?_eq_getElem?] at hp
    rw [hp] at this
    cases ha : a[pre.length]? with
    | none => rw [ha] at this; cases this
    | some w => rw [ha] at this; cases this; simp
  show (match (some a[pre.length]? : Option (Option W)) with
    | some (some w) => some (some (mkTup [.dat (.int (pre.length : Nat)), w]))
    | some none => some none
    | none => none : Option (Option W)) = _
  rw [e]
  cases hp : post.head? with
  | none => rfl
  | some p => rw [← e2 p hp]; rfl
theorem wp_compE {a : List W} {t : TM} {c : M Bool} {e : M W} {env : Rf.Env} {acc0 : List W} {Q : List W → Store → Prop} (g : W × Nat → Option W) (hl : acc0.length + a.length ≤ 100000)
    (step : ∀ p ∈ a.zipIdx, (t (mkTup [.dat (.int (p.2 : Nat)), p.1]) bs env S).wp (fun env1 S1 => (c bs env1 S1).wp (fun z S2 => (z = true → (e bs env1 S2).wp (fun y S3 => g p = some y ∧ S3 = S) NoE) ∧ (z = false → g p = none ∧ S2 = S)) NoE) NoE)
    (q : Q (acc0 ++ a.zipIdx.filterMap g) S) : (compG (.enm (.items a)) t c e (Iter.enm (.items a)).fuel 0 acc0 bs env S).wp Q E := by
  have lz : a.zipIdx.length = a.length := List.length_zipIdx
  refine wp_compG (f := fun p : W × Nat => mkTup [.dat (.int (p.2 : Nat)), p.1]) (xs := a.zipIdx) (fun pre acc S' => acc = acc0 ++ pre.filterMap g ∧ S' = S) (fun pre post acc S hx _ => enm_next hx) (fun pre x post acc S' hx ⟨h1, h2⟩ => ?_) (fun acc S' ⟨h1, h2⟩ => by subst h1 h2; exact q) _ [] a.zipIdx acc0 S rfl (by show a.zipIdx.length < a.length + 1; omega) ⟨by simp, rfl⟩
  subst h2
  have hm : x ∈ a.zipIdx := by rw [hx]; simp
  refine (step x hm).imp fun env1 S1 h3 => h3.imp fun z S2 h4 => ⟨fun hb => (h4.1 hb).imp fun y S3 ⟨h5, h6⟩ => ⟨?_, ?_, h6⟩, fun hb => ⟨?_, (h4.2 hb).2⟩⟩
  · have l2 : (pre.filterMap g).length ≤ pre.length := List.length_filterMap_le ..
    have l3 : pre.length < a.zipIdx.length := by rw [hx]; simp
    rw [h1, List.length_append]; omega
  · rw [List.filterMap_append, h1]; simp [h5]
  · rw [List.filterMap_append, h1]; simp [(h4.2 hb).1]
theorem wp_enmT {xs : List PyData} {ms : M (List W)} {env : Rf.Env} {Q : Iter → Store → Prop} (h : (ms bs env S).wp (fun ws S1 => ws = [.dat (.tuple xs)] ∧ Q (.enm (.items (xs.map .dat))) S1) E) : (mEnmA ms bs env S).wp Q E := bind_wp (h.imp fun ws S1 ⟨e, q⟩ => by subst e; exact q)
def cutT (c : List Nat) : PyData := .tuple (c.map fun (i : Nat) => .int i)
def cutD (c : List Nat × List Int) : PyData := .tuple [cutT c.1, picD c.2]
def lenOk (R : List (List Int)) : Prop := ∀ r ∈ R, r.length ≤ 9
theorem cuts_len (R : List (List Int)) : ∀ (found : List (List Nat × List Int)), lenOk R → (R.foldl cutStep found).length ≤ found.length * 9 ^ R.length := by
  induction R with
  | nil => exact fun f _ => by simp
  | cons r R ih =>
    intro f h
    have h2 : (cutStep f r).length ≤ f.length * 9 := by
      unfold cutStep
      rw [List.length_flatMap]
      induction f with
      | nil => simp
      | cons c f ihf =>
        have := h r (List.mem_cons_self ..)
        simp only [List.map_cons, List.sum_cons, List.length_map, List.length_zipIdx, List.length_cons] at ihf ⊢
        omega
    have h1 := ih (cutStep f r) fun x hx => h x (List.mem_cons_of_mem _ hx)
    rw [List.foldl_cons, List.length_cons, Nat.pow_succ]
    refine Nat.le_trans h1 ?_
    have := Nat.mul_le_mul_right (9 ^ R.length) h2
    rw [show f.length * (9 ^ R.length * 9) = f.length * 9 * 9 ^ R.length by rw [Nat.mul_assoc, Nat.mul_comm 9]]
    exact this
theorem ev_cuts (R : List (List Int)) (h4 : R.length ≤ 4) (hl : lenOk R) : F__cuts_with_pictures bs [.dat (verD R)] S = .ok (.dat (.list ((cutsOf R).map cutD))) S := by
  refine eq_of_wp ?_
  (unfold F__cuts_with_pictures m__cuts_with_pictures; with_reducible refine Rf.wp_fn rfl ?_; simp only [Rf.startE, List.map_cons, List.map_nil, List.length_cons, List.length_nil, Nat.reduceAdd, Nat.reduceSub, List.replicate, List.cons_append, List.nil_append])
  unfold verD
  (try array_get_dec)
  rw [List.map_map]
  refine wp_items (f := W.dat ∘ rowT) (xs := R) (fun pre env S' => ∃ a b c d e, env = [some (.dat (.tuple (R.map rowT))), some (.dat (.list ((pre.foldl cutStep [([], [])]).map cutD))), a, b, c, d, e] ∧ S' = S) ⟨_, _, _, _, _, rfl, rfl⟩ (fun pre r post env S' hx h => ?_) (fun env S' h => ?_)
  · obtain ⟨a, b, c, d, e, rfl, rfl⟩ := h
    have hr : r.length ≤ 9 := hl r (by rw [hx]; simp)
    have hpre : pre.length ≤ 3 := by
      have := congrArg List.length hx
      rw [List.length_append, List.length_cons] at this
      omega
    have lf : (pre.foldl cutStep [([], [])]).length ≤ 9 ^ 3 := by
      have := cuts_len pre [([], [])] fun x hx' => hl x (by rw [hx]; exact List.mem_append_left _ hx')
      refine Nat.le_trans this ?_
      rw [List.length_singleton, Nat.one_mul]
      exact Nat.pow_le_pow_right (by decide) hpre
    generalize hF : pre.foldl cutStep [([], [])] = F at lf
    have lens : ∀ x ∈ F, x.1.length ≤ 3 ∧ x.2.length ≤ 3 := by
      intro x hxF
      rw [← hF] at hxF
      obtain ⟨c1, c2, _⟩ := (cuts_mem (rows := pre) (c := x.1) (u := x.2)).mp hxF |>.facts
      omega
    (try array_get_dec)
    rw [List.map_map]
    refine wp_comp2T (f := W.dat ∘ cutD) (xs := F) (fun x => r.zipIdx.map fun y => .dat (cutD (x.1 ++ [y.2], x.2 ++ [y.1]))) ?_ (fun x hxF acc hacc => ?_) ?_
    · rw [List.length_flatten, List.map_map]
      have : ∀ L : List (List Nat × List Int), (L.map (List.length ∘ fun x : List Nat × List Int => r.zipIdx.map fun y => W.dat (cutD (x.1 ++ [y.2], x.2 ++ [y.1])))).sum = L.length * r.length := fun L => by
        induction L with
        | nil => simp
        | cons x L ih => rw [List.map_cons, List.sum_cons, ih, List.length_cons, Nat.add_mul]; simp; omega
      rw [this]
      exact Nat.le_trans (Nat.mul_le_mul lf hr) (by decide)
    · have hx3 := lens x hxF
      show (tTup _ _ (.dat (.tuple [cutT x.1, picD x.2])) _ _ _).wp _ _
      refine wp_tTup (ws := [.dat (cutT x.1), .dat (picD x.2)]) rfl rfl (wp_tCons (wp_name (wp_tCons (wp_name (wp_tNil ?_)))))
      (try array_get_dec)
      refine ⟨rfl, ?_⟩
      refine wp_enmT (xs := r.map .int) ?_
      (try array_get_dec)
      refine ⟨rfl, ?_⟩
      rw [List.length_map] at hacc
      rw [List.length_zipIdx] at hacc
      refine wp_compE (fun y => match y with | (.dat (.int f), i) => some (.dat (cutD (x.1 ++ [i], x.2 ++ [f]))) | _ => none) (by simpa using hacc) (fun y hy => ?_) ?_
      · obtain ⟨w, i⟩ := y
        obtain ⟨h1, h2, h3⟩ := List.mem_zipIdx hy
        simp only [List.getElem_map] at h3
        obtain ⟨f, rfl⟩ : ∃ f, w = W.dat (.int f) := ⟨_, h3⟩
        show (tTup _ _ (.dat (.tuple [.int (i : Nat), .int _])) _ _ _).wp _ _
        refine wp_tTup (ws := [.dat (.int (i : Nat)), .dat (.int _)]) rfl rfl (wp_tCons (wp_name (wp_tCons (wp_name (wp_tNil ?_)))))
        unfold cutT picD
        (try array_get_dec)
        refine add_tup (by simp; omega) ?_
        (try array_get_dec)
        refine add_tup (by simp; omega) ?_
        (try array_get_dec)
        refine ⟨?_, rfl⟩
        simp [cutD, cutT, picD]
      · refine ⟨?_, rfl⟩
        congr 1
        rw [List.map_map, List.zipIdx_map, List.filterMap_map, ← List.filterMap_eq_map]
        congr 1
    · have e1 : (F.map fun x => r.zipIdx.map fun y => W.dat (cutD (x.1 ++ [y.2], x.2 ++ [y.1]))).flatten = (cutStep F r).map fun c => W.dat (cutD c) := by
        unfold cutStep
        simp [List.flatMap_def, List.map_flatten, Function.comp_def]
      rw [e1]
      refine nl_map ?_
      (try array_get_dec)
      rw [List.foldl_append, hF]
      exact ⟨_, _, _, _, _, rfl, rfl⟩
  · obtain ⟨a, b, c, d, e, rfl, rfl⟩ := h
    (try array_get_dec)
    exact ⟨rfl, rfl⟩
end
end V

namespace V
open PySem L2 PyProof.Rows Rf Nm
def fit1 (q : Option Int × Int) : Bool := match q.1 with
  | some i => decide (i = q.2)
  | none => true
def fitsB (u : List Int) (l : List (Option Int)) : Bool := (l.zip u).all fit1
def meanB (rules : List Rule) (u : List Int) : Option Str := (rules.find? fun r => fitsB u r.1).map Prod.snd
def optS : Option Str → PyData
  | some z => .str z
  | none => .none
theorem zip_dat (l : List (Option Int)) (u : List Int) : ((l.map optD).map W.dat).zip ((u.map PyData.int).map W.dat) = (l.zip u).map fun q => (W.dat (optD q.1), W.dat (.int q.2)) := by
  rw [List.map_map, List.map_map, List.zip_map]
  rfl
section
variable {bs : List Nat} {S : Store} {n : Nat} {E : EK}
/-- a comprehension over zip of a pattern and a picture -/
theorem wp_compPP {l : List (Option Int)} {u : List Int} {t : TM} {c : M Bool} {e : M W} {env : Rf.Env} {Q : List W → Store → Prop} (g : Option Int × Int → Option W) (hl : l.length ≤ 100000)
    (step : ∀ q ∈ l.zip u, (t (.dat (.tuple [optD q.1, .int q.2])) bs env S).wp (fun env1 S1 => (c bs env1 S1).wp (fun z S2 => (z = true → (e bs env1 S2).wp (fun y S3 => g q = some y ∧ S3 = S) NoE) ∧ (z = false → g q = none ∧ S2 = S)) NoE) NoE)
    (q : Q ((l.zip u).filterMap g) S) : (compG (.zip (.items ((l.map optD).map .dat)) (.items ((u.map PyData.int).map .dat))) t c e (Iter.zip (.items ((l.map optD).map .dat)) (.items ((u.map PyData.int).map .dat))).fuel 0 [] bs env S).wp Q E := by
  have lz : (l.zip u).length ≤ l.length := by rw [List.length_zip]; omega
  refine wp_compG (f := fun q : Option Int × Int => W.dat (.tuple [optD q.1, .int q.2])) (xs := l.zip u) (fun pre acc S' => acc = pre.filterMap g ∧ S' = S) (fun pre post acc S hx _ => ?_) (fun pre x post acc S' hx ⟨h1, h2⟩ => ?_) (fun acc S' ⟨h1, h2⟩ => by subst h1 h2; exact q) _ [] (l.zip u) [] S rfl (by show (l.zip u).length < ((l.map optD).map W.dat).length + 1; simp; omega) ⟨rfl, rfl⟩
  · have e1 := zip_dat l u
    rw [hx, List.map_append] at e1
    have := zip_next_of (S := S) e1
    rw [List.length_map] at this
    rw [this]
    cases post <;> rfl
  · subst h2
    have hm : x ∈ l.zip u := by rw [hx]; simp
    refine (step x hm).imp fun env1 S1 h3 => h3.imp fun z S2 h4 => ⟨fun hb => (h4.1 hb).imp fun y S3 ⟨h5, h6⟩ => ⟨?_, ?_, h6⟩, fun hb => ⟨?_, (h4.2 hb).2⟩⟩
    · have l2 : (pre.filterMap g).length ≤ pre.length := List.length_filterMap_le ..
      have l3 : pre.length < (l.zip u).length := by rw [hx]; simp
      rw [h1]; omega
    · rw [List.filterMap_append, h1]; simp [h5]
    · rw [List.filterMap_append, h1]; simp [(h4.2 hb).1]
theorem ev_fits (u : List Int) (l : List (Option Int)) (hl : l.length ≤ 100) : F__fits bs [.dat (picD u), .dat (.tuple (l.map optD))] S = .ok (.dat (.bool (fitsB u l))) S := by
  refine eq_of_wp ?_
  (unfold F__fits m__fits; with_reducible refine Rf.wp_fn rfl ?_; simp only [Rf.startE, List.map_cons, List.map_nil, List.length_cons, List.length_nil, Nat.reduceAdd, Nat.reduceSub, List.replicate, List.cons_append, List.nil_append])
  unfold picD
  (try array_get_dec)
  refine wp_mZip ?_
  (try array_get_dec)
  refine zp_tup ?_
  refine wp_compPP (fun q => some (.dat (.bool (fit1 q)))) (by omega) (fun q hq => ?_) ?_
  · refine wp_tTup (ws := [.dat (optD q.1), .dat (.int q.2)]) rfl rfl (wp_tCons (wp_name (wp_tCons (wp_name (wp_tNil ?_)))))
    obtain ⟨o, x⟩ := q
    cases o with
    | none =>
      dsimp only [optD]
      (try array_get_dec)
      exact ⟨rfl, rfl⟩
    | some i =>
      dsimp only [optD]
      (try array_get_dec)
      exact ⟨rfl, rfl⟩
  · rw [List.filterMap_eq_map']
    (try array_get_dec)
    exact ⟨rfl, by simp⟩
theorem ev_meaning (u : List Int) (rules : List Rule) (k : Nat) (hk : k ≤ 6) (h24 : rules.length ≤ 24) (hr : ∀ r ∈ rules, ruleOk k r) : F__meaning bs [.dat (picD u), .dat (rsD rules)] S = .ok (.dat (optS (meanB rules u))) S := by
  refine eq_of_wp ?_
  (unfold F__meaning m__meaning; with_reducible refine Rf.wp_fn rfl ?_; simp only [Rf.startE, List.map_cons, List.map_nil, List.length_cons, List.length_nil, Nat.reduceAdd, Nat.reduceSub, List.replicate, List.cons_append, List.nil_append])
  unfold rsD
  (try array_get_dec)
  rw [List.map_map]
  refine wp_items (f := W.dat ∘ ruD) (xs := rules) (fun pre env S' => ∃ a b, env = [some (.dat (picD u)), some (.dat (.tuple (rules.map ruD))), a, b] ∧ S' = S ∧ ∀ r ∈ pre, fitsB u r.1 = false) ⟨_, _, rfl, rfl, fun r h => nomatch h⟩ (fun pre r post env S' hx h => ?_) (fun env S' h => ?_)
  · obtain ⟨a, b, rfl, rfl, hp⟩ := h
    have hm : r ∈ rules := by rw [hx]; simp
    refine wp_body ?_
    refine wp_tTup (w := .dat (.tuple [.tuple (r.1.map optD), .str r.2])) (ws := [.dat (.tuple (r.1.map optD)), .dat (.str r.2)]) rfl rfl (wp_tCons (wp_name (wp_tCons (wp_name (wp_tNil ?_)))))
    (try array_get_dec)
    refine wp_eq (ev_fits u r.1 (by have := (hr r hm).1; omega)) ?_
    cases hb : fitsB u r.1 with
    | true =>
      (try array_get_dec)
      refine ⟨?_, rfl⟩
      have : rules.find? (fun r => fitsB u r.1) = some r := by
        rw [hx, List.find?_append, List.find?_eq_none.mpr (fun z hz => by rw [hp z hz]; exact Bool.false_ne_true)]
        simp [hb]
      unfold meanB
      rw [this]
      rfl
    | false =>
      (try array_get_dec)
      refine ⟨_, _, rfl, rfl, fun z hz => ?_⟩
      rcases List.mem_append.mp hz with h | h
      · exact hp z h
      · rw [List.mem_singleton.mp h]; exact hb
  · obtain ⟨a, b, rfl, rfl, hp⟩ := h
    (try array_get_dec)
    refine ⟨?_, rfl⟩
    have : rules.find? (fun r => fitsB u r.1) = none := List.find?_eq_none.mpr (fun z hz => by rw [hp z hz]; exact Bool.false_ne_true)
    unfold meanB
    rw [this]
    rfl
theorem nil_of {ds : List PyData} (p : ∀ x ∈ ds, PD 10 x) {bs : List Nat} {S : Store} {neg : Bool} {Q : W → Store → Prop} (q : Q (.dat (.bool (ds.isEmpty != neg))) S) : wpo (eqF neg bs (.dat (.list ds)) (.dat (.list [])) S) Q := by
  refine eq_pd (pd_lst p) (pd_lst (n := 0) (fun _ h => nomatch h)) (by decide) ?_
  have e : PyData.eqv (.list ds) (.list []) = ds.isEmpty := by
    cases ds with
    | nil => rfl
    | cons a l => simp [PyData.eqv, PyData.eqvAll]
  rw [e]; exact q
theorem ones_are {α : Type} {p : α → Bool} {f : α → PyData} (l : List α) : ((l.filterMap fun x => if p x = true then none else some (W.dat (f x)))) = ((l.filter fun x => !p x).map f).map .dat := by
  induction l with
  | nil => rfl
  | cons x l ih => by_cases h : p x = true <;> simp [h, ih]
theorem ones_nil {α : Type} {p : α → Bool} {f : α → PyData} (l : List α) : ((l.filter fun x => !p x).map f).isEmpty = l.all p := by
  induction l with
  | nil => rfl
  | cons x l ih => by_cases h : p x = true <;> simp_all
theorem ev_law_meaning (u : List Int) (rules : List Rule) (k : Nat) (hk : k ≤ 6) (h24 : rules.length ≤ 24) (hr : ∀ r ∈ rules, ruleOk k r) : F__law_meaning bs [.dat (picD u), .dat (rsD rules)] S = .ok (.dat (optS (meanB rules u))) S := by
  refine eq_of_wp ?_
  (unfold F__law_meaning m__law_meaning; with_reducible refine Rf.wp_fn rfl ?_; simp only [Rf.startE, List.map_cons, List.map_nil, List.length_cons, List.length_nil, Nat.reduceAdd, Nat.reduceSub, List.replicate, List.cons_append, List.nil_append])
  unfold rsD
  (try array_get_dec)
  rw [List.map_map]
  refine wp_items (f := W.dat ∘ ruD) (xs := rules) (fun pre env S' => ∃ a b c d, env = [some (.dat (picD u)), some (.dat (.tuple (rules.map ruD))), a, b, c, d] ∧ S' = S ∧ ∀ r ∈ pre, fitsB u r.1 = false) ⟨_, _, _, _, rfl, rfl, fun r h => nomatch h⟩ (fun pre r post env S' hx h => ?_) (fun env S' h => ?_)
  · obtain ⟨a, b, c, d, rfl, rfl, hp⟩ := h
    have hm : r ∈ rules := by rw [hx]; simp
    have hl : r.1.length ≤ 6 := by have := (hr r hm).1; omega
    refine wp_body ?_
    refine wp_tTup (w := .dat (.tuple [.tuple (r.1.map optD), .str r.2])) (ws := [.dat (.tuple (r.1.map optD)), .dat (.str r.2)]) rfl rfl (wp_tCons (wp_name (wp_tCons (wp_name (wp_tNil ?_)))))
    (try array_get_dec)
    refine wp_mZip ?_
    unfold picD
    (try array_get_dec)
    refine zp_tup ?_
    refine wp_compPP (fun q => if fit1 q = true then none else some (.dat (.int 1))) (by omega) (fun q hq => ?_) ?_
    · refine wp_tTup (ws := [.dat (optD q.1), .dat (.int q.2)]) rfl rfl (wp_tCons (wp_name (wp_tCons (wp_name (wp_tNil ?_)))))
      obtain ⟨o, x⟩ := q
      cases o with
      | none =>
        dsimp only [optD]
        (try array_get_dec)
        exact ⟨rfl, rfl⟩
      | some i =>
        dsimp only [optD]
        (try array_get_dec)
        refine ifN (fun h => ?_) (fun h => ?_)
        · have e : fit1 (some i, x) = true := decide_eq_true h
          rw [if_pos e]
          exact ⟨rfl, rfl⟩
        · have e : fit1 (some i, x) = false := decide_eq_false h
          (try array_get_dec)
          rw [if_neg (by rw [e]; exact Bool.false_ne_true)]
          exact ⟨rfl, rfl⟩
    · rw [ones_are (f := fun _ => .int 1)]
      refine nl_dat ?_
      (try array_get_dec)
      refine nil_of (fun x hx => ?_) ?_
      · obtain ⟨_, _, rfl⟩ := List.mem_map.mp hx
        exact pd_int _
      · rw [ones_nil]
        rw [Bool.bne_false, show (r.1.zip u).all fit1 = fitsB u r.1 from rfl]
        cases hb : fitsB u r.1 with
        | true =>
          (try array_get_dec)
          refine ⟨?_, rfl⟩
          have : rules.find? (fun r => fitsB u r.1) = some r := by
            rw [hx, List.find?_append, List.find?_eq_none.mpr (fun z hz => by rw [hp z hz]; exact Bool.false_ne_true)]
            simp [hb]
          unfold meanB
          rw [this]
          rfl
        | false =>
          (try array_get_dec)
          refine ⟨_, _, _, _, rfl, rfl, fun z hz => ?_⟩
          rcases List.mem_append.mp hz with h | h
          · exact hp z h
          · rw [List.mem_singleton.mp h]; exact hb
  · obtain ⟨a, b, c, d, rfl, rfl, hp⟩ := h
    (try array_get_dec)
    refine ⟨?_, rfl⟩
    have : rules.find? (fun r => fitsB u r.1) = none := List.find?_eq_none.mpr (fun z hz => by rw [hp z hz]; exact Bool.false_ne_true)
    unfold meanB
    rw [this]
    rfl
end
end V

namespace V
open PySem L2 PyProof.Rows Rf Nm
section
variable {bs : List Nat} {S : Store} {n : Nat} {E : EK}
/-- a comprehension over zip of two tuples -/
theorem wp_compZF {α β : Type} {fa : α → PyData} {fb : β → PyData} {l : List α} {u : List β} {t : TM} {c : M Bool} {e : M W} {env : Rf.Env} {Q : List W → Store → Prop} (g : α × β → Option W) (hl : l.length ≤ 100000)
    (step : ∀ q ∈ l.zip u, (t (.dat (.tuple [fa q.1, fb q.2])) bs env S).wp (fun env1 S1 => (c bs env1 S1).wp (fun z S2 => (z = true → (e bs env1 S2).wp (fun y S3 => g q = some y ∧ S3 = S) NoE) ∧ (z = false → g q = none ∧ S2 = S)) NoE) NoE)
    (q : Q ((l.zip u).filterMap g) S) : (compG (.zip (.items ((l.map fa).map .dat)) (.items ((u.map fb).map .dat))) t c e (Iter.zip (.items ((l.map fa).map .dat)) (.items ((u.map fb).map .dat))).fuel 0 [] bs env S).wp Q E := by
  have lz : (l.zip u).length ≤ l.length := by rw [List.length_zip]; omega
  refine wp_compG (f := fun q : α × β => W.dat (.tuple [fa q.1, fb q.2])) (xs := l.zip u) (fun pre acc S' => acc = pre.filterMap g ∧ S' = S) (fun pre post acc S hx _ => ?_) (fun pre x post acc S' hx ⟨h1, h2⟩ => ?_) (fun acc S' ⟨h1, h2⟩ => by subst h1 h2; exact q) _ [] (l.zip u) [] S rfl (by show (l.zip u).length < ((l.map fa).map W.dat).length + 1; simp; omega) ⟨rfl, rfl⟩
  · have e1 : ((l.map fa).map W.dat).zip ((u.map fb).map W.dat) = (l.zip u).map fun q => (W.dat (fa q.1), W.dat (fb q.2)) := by
      rw [List.map_map, List.map_map, List.zip_map]
      rfl
    rw [hx, List.map_append] at e1
    have := zip_next_of (S := S) e1
    rw [List.length_map] at this
    rw [this]
    cases post <;> rfl
  · subst h2
    have hm : x ∈ l.zip u := by rw [hx]; simp
    refine (step x hm).imp fun env1 S1 h3 => h3.imp fun z S2 h4 => ⟨fun hb => (h4.1 hb).imp fun y S3 ⟨h5, h6⟩ => ⟨?_, ?_, h6⟩, fun hb => ⟨?_, (h4.2 hb).2⟩⟩
    · have l2 : (pre.filterMap g).length ≤ pre.length := List.length_filterMap_le ..
      have l3 : pre.length < (l.zip u).length := by rw [hx]; simp
      rw [h1]; omega
    · rw [List.filterMap_append, h1]; simp [h5]
    · rw [List.filterMap_append, h1]; simp [(h4.2 hb).1]
def ixOf : PyData → Nat
  | .int n => n.toNat
  | _ => 0
def fitIx (q : PyData × List Int) : Bool := isNum 0 ((q.2.length : Int) - 1) q.1
def leftOf (R : List (List Int)) : PyData → Option (List Int)
  | .tuple is => if is.length = R.length ∧ (is.zip R).all fitIx = true then some ((is.zip R).map fun q => q.2.getD (ixOf q.1) 0) else none
  | _ => none
def optP : Option (List Int) → PyData
  | some u => picD u
  | none => .none
theorem ix_fit {q : PyData × List Int} (h : fitIx q = true) : ∃ k : Nat, q.1 = .int k ∧ k < q.2.length ∧ ixOf q.1 = k := by
  unfold fitIx isNum at h
  split at h
  · rename_i i e
    simp only [decide_eq_true_eq] at h
    refine ⟨i.toNat, by rw [e]; congr 1; omega, by omega, by rw [e]; rfl⟩
  · cases h
theorem ev_picture_left (R : List (List Int)) (d : PyData) (hR : R.length ≤ 100) : F__picture_left bs [.dat (verD R), .dat d] S = .ok (.dat (optP (leftOf R d))) S := by
  refine eq_of_wp ?_
  (unfold F__picture_left m__picture_left; with_reducible refine Rf.wp_fn rfl ?_; simp only [Rf.startE, List.map_cons, List.map_nil, List.length_cons, List.length_nil, Nat.reduceAdd, Nat.reduceSub, List.replicate, List.cons_append, List.nil_append])
  unfold verD
  cases d with
  | tuple is =>
    (try array_get_dec)
    rw [List.length_map]
    refine ifN (fun hn => ?_) (fun hn => ?_)
    · have hn : is.length = R.length := by omega
      (try array_get_dec)
      refine wp_mZip ?_
      (try array_get_dec)
      refine zp_tup ?_
      rw [show (is.map W.dat) = ((is.map id).map W.dat) by rw [List.map_id]]
      refine wp_compZF (fa := id) (fb := rowT) (l := is) (u := R) (fun q => some (.dat (.bool (fitIx q)))) (by omega) (fun q hq => ?_) ?_
      · refine wp_tTup (ws := [.dat q.1, .dat (rowT q.2)]) rfl rfl (wp_tCons (wp_name (wp_tCons (wp_name (wp_tNil ?_)))))
        unfold rowT
        (try array_get_dec)
        rw [List.length_map]
        refine wp_eq (ev_is_number _ _ _) ?_
        exact ⟨rfl, rfl⟩
      · rw [List.filterMap_eq_map']
        (try array_get_dec)
        cases hf : (is.zip R).all fitIx with
        | false =>
          (try array_get_dec)
          have : leftOf R (.tuple is) = none := if_neg (fun z => by rw [hf] at z; exact Bool.false_ne_true z.2)
          rw [this]
          exact ⟨rfl, rfl⟩
        | true =>
          have e : leftOf R (.tuple is) = some ((is.zip R).map fun q => q.2.getD (ixOf q.1) 0) := if_pos ⟨hn, hf⟩
          (try array_get_dec)
          refine wp_mZip ?_
          (try array_get_dec)
          refine zp_tup ?_
          rw [show (is.map W.dat) = ((is.map id).map W.dat) by rw [List.map_id]]
          refine wp_compZF (fa := id) (fb := rowT) (l := is) (u := R) (fun q => some (.dat (.int (q.2.getD (ixOf q.1) 0)))) (by omega) (fun q hq => ?_) ?_
          · obtain ⟨k, h1, h2, h3⟩ := ix_fit (List.all_eq_true.mp hf q hq)
            obtain ⟨a, r⟩ := q
            dsimp only at h1 h2 h3
            subst h1
            refine wp_tTup (ws := [.dat (.int (k : Nat)), .dat (rowT r)]) rfl rfl (wp_tCons (wp_name (wp_tCons (wp_name (wp_tNil ?_)))))
            unfold rowT
            (try array_get_dec)
            refine ix_tup (d := .int r[k]) (atI_ofNat (by simp [h2])) ?_
            refine ⟨?_, rfl⟩
            show some (W.dat (PyData.int (r.getD (ixOf (PyData.int (k : Nat))) 0))) = some (W.dat (PyData.int r[k]))
            rw [h3, List.getD_eq_getElem?_getD, List.getElem?_eq_getElem h2]
            rfl
          · rw [List.filterMap_eq_map']
            refine nl_map ?_
            (try array_get_dec)
            rw [e]
            refine ⟨?_, rfl⟩
            show _ = W.dat (picD _)
            unfold picD
            rw [List.map_map]
            rfl
    · (try array_get_dec)
      have : leftOf R (.tuple is) = none := if_neg (fun z => hn (by omega))
      rw [this]
      exact ⟨rfl, rfl⟩
  | _ =>
    (try array_get_dec)
    exact ⟨rfl, rfl⟩
end
end V

namespace V
open PySem L2 PyProof.Rows Rf Nm
section
variable {bs : List Nat} {S : Store} {n : Nat} {E : EK}
theorem in_tupD {neg : Bool} {d : PyData} {es : List PyData} {Q : W → Store → Prop} (h : d.plain = true ∧ PyData.plainAll es = true ∧ d.depth ≤ 64) (q : Q (.dat (.bool ((es.any fun z => PyData.eqv z d) != neg))) S) : wpo (inAF neg bs (.dat d) (.dat (.tuple es)) S) Q := by
  have : inF neg bs (.dat d) (.dat (.tuple es)) S = some (.bl ((es.any fun z => PyData.eqv z d) != neg), S) := by
    unfold inF
    show (if _ ∧ _ ∧ _ then _ else _) = _
    rw [if_pos h]
  unfold inAF
  rw [this]; exact q
def badN (ns : List Str) : Option Str → Bool
  | some z => !decide (z ∈ ns)
  | none => true
theorem strs_plain (ns : List Str) : PyData.plainAll (ns.map .str) = true := by
  induction ns with
  | nil => rfl
  | cons z ns ih => rw [List.map_cons, PyData.plainAll, ih]; rfl
theorem in_names {o : Option Str} {ns : List Str} {Q : W → Store → Prop} (q : Q (.dat (.bool (badN ns o))) S) : wpo (inAF true bs (.dat (optS o)) (.dat (nsD ns)) S) Q := by
  unfold nsD
  refine in_tupD ⟨by cases o <;> rfl, strs_plain ns, by cases o <;> simp [optS, PyData.depth]⟩ ?_
  have e : (((ns.map PyData.str).any fun z => PyData.eqv z (optS o)) != true) = badN ns o := by
    cases o with
    | none =>
      have : ((ns.map PyData.str).any fun z => PyData.eqv z (optS none)) = false := List.any_eq_false.mpr fun z hz => by
        obtain ⟨y, _, rfl⟩ := List.mem_map.mp hz
        simp [optS, PyData.eqv]
      rw [this]; rfl
    | some z =>
      have : ((ns.map PyData.str).any fun y => PyData.eqv y (optS (some z))) = decide (z ∈ ns) := by
        rw [Bool.eq_iff_iff, List.any_eq_true, decide_eq_true_eq]
        constructor
        · rintro ⟨y, hy, he⟩
          obtain ⟨y', hy', rfl⟩ := List.mem_map.mp hy
          have : y' = z := by simpa [optS, PyData.eqv] using he
          exact this ▸ hy'
        · exact fun h => ⟨.str z, List.mem_map.mpr ⟨z, h, rfl⟩, by simp [optS, PyData.eqv]⟩
      rw [this]
      show (decide (z ∈ ns) != true) = !decide (z ∈ ns)
      cases decide (z ∈ ns) <;> rfl
  rw [e]
  exact q
/-- a picture is against the names of a moment -/
def badP (rules : List Rule) (ns : List Str) (u : List Int) : Bool := badN ns (meanB rules u)
/-- what a value must be to be a break -/
def dueB (p : List Int) (ws : List (Nat × Int)) (gaps : List Nat) (rules : List Rule) (pr : List (List Str)) : PyData → Bool
  | .tuple [.int m, c] => decide (0 ≤ m ∧ m ≤ ws.length) && (match leftOf (vers p ws (lastG gaps m.toNat) m.toNat) c with
    | some u => badP rules (pr.getD m.toNat []) u
    | none => false)
  | _ => false
theorem vers_lens {p : List Int} {ws : List (Nat × Int)} {l m : Nat} (h8 : ws.length ≤ 8) : lenOk (vers p ws l m) := by
  intro r hr
  obtain ⟨i, hi, rfl⟩ := List.mem_iff_getElem.mp hr
  have := steps_len ((ws.take m).drop l) i (single (laid p (ws.take l)))
  have h1 := single_len (laid p (ws.take l)) i
  have e : ((vers p ws l m).getD i []).length = (vers p ws l m)[i].length := by rw [List.getD_eq_getElem?_getD, List.getElem?_eq_getElem hi]; rfl
  have e2 : ((ws.take m).drop l).length ≤ ws.length := by rw [List.length_drop, List.length_take]; omega
  unfold vers at e ⊢
  omega
theorem due_no {p : List Int} {ws : List (Nat × Int)} {gaps : List Nat} {rules : List Rule} {pr : List (List Str)} {m c : PyData} (h : isNum 0 (ws.length : Nat) m = false) : dueB p ws gaps rules pr (.tuple [m, c]) = false := by
  unfold dueB isNum at *
  split
  · rename_i hh
    cases hh
    simp only at h
    rw [h]; rfl
  · rfl
theorem isNum_nat {k : Nat} {m : PyData} (h : isNum 0 (k : Nat) m = true) : ∃ j : Nat, m = .int j ∧ j ≤ k := by
  unfold isNum at h
  split at h
  · rename_i i
    simp only [decide_eq_true_eq] at h
    exact ⟨i.toNat, by congr 1; omega, by omega⟩
  · cases h
theorem due_yes {p : List Int} {ws : List (Nat × Int)} {gaps : List Nat} {rules : List Rule} {pr : List (List Str)} {j : Nat} {c : PyData} (h : j ≤ ws.length) : dueB p ws gaps rules pr (.tuple [.int j, c]) = match leftOf (vers p ws (lastG gaps j) j) c with
    | some u => badP rules (pr.getD j []) u
    | none => false := by
  unfold dueB
  dsimp only
  rw [decide_eq_true (by omega), Bool.true_and, Int.toNat_natCast]
theorem ev_is_break {p : List Int} {ws : List (Nat × Int)} {gaps : List Nat} {rules : List Rule} {pr : List (List Str)} (h : PlanOk p ws gaps rules pr) (d : PyData) :
    F_is_break bs [.dat (picD p), .dat (wsD ws), .dat (gpD gaps), .dat (rsD rules), .dat (prD pr), .dat d] S = .ok (.dat (.bool (dueB p ws gaps rules pr d))) S := by
  refine eq_of_wp ?_
  (unfold F_is_break m_is_break; with_reducible refine Rf.wp_fn rfl ?_; simp only [Rf.startE, List.map_cons, List.map_nil, List.length_cons, List.length_nil, Nat.reduceAdd, Nat.reduceSub, List.replicate, List.cons_append, List.nil_append])
  (try array_get_dec)
  refine wp_eq (ev_check_plan h) ?_
  cases d with
  | tuple l =>
    (try array_get_dec)
    refine ifN (fun hn => ?_) (fun hn => ?_)
    · obtain ⟨m, c, rfl⟩ : ∃ m c, l = [m, c] := by
        match l, hn with
        | [m, c], _ => exact ⟨m, c, rfl⟩
        | [], hn => exact absurd hn (by decide)
        | [_], hn => exact absurd hn (by simp)
        | _ :: _ :: _ :: _, hn => exact absurd hn (by simp; omega)
      (try array_get_dec)
      refine ix_tup rfl ?_
      unfold wsD
      (try array_get_dec)
      rw [List.length_map]
      refine wp_eq (ev_is_number _ _ _) ?_
      cases hm : isNum 0 (ws.length : Nat) m with
      | false =>
        rw [due_no hm]
        (try array_get_dec)
        exact ⟨rfl, rfl⟩
      | true =>
        obtain ⟨j, rfl, hj⟩ := isNum_nat hm
        rw [due_yes hj]
        (try array_get_dec)
        refine ix_tup rfl ?_
        (try array_get_dec)
        refine wp_eq (ev_last_gap gaps j h.g9) ?_
        (try array_get_dec)
        refine wp_eq (ev_versions p ws (lastG gaps j) j h.p1 h.p6 h.w8 h.wf) ?_
        (try array_get_dec)
        refine ix_tup rfl ?_
        (try array_get_dec)
        refine wp_eq (ev_picture_left _ c (by rw [len_vers]; have := h.p6; omega)) ?_
        cases hl : leftOf (vers p ws (lastG gaps j) j) c with
        | none =>
          dsimp only [optP]
          (try array_get_dec)
          exact ⟨rfl, rfl⟩
        | some u =>
          have hpr : j < pr.length := by have := h.ml; omega
          dsimp only [optP, picD]
          (try array_get_dec)
          refine wp_eq (ev_meaning u rules p.length h.p6 h.r24 h.rf) ?_
          unfold prD
          (try array_get_dec)
          refine ix_tup (d := nsD pr[j]) (atI_ofNat (by simp [hpr])) ?_
          (try array_get_dec)
          refine in_names ?_
          (try array_get_dec)
          refine ⟨?_, rfl⟩
          unfold badP
          rw [List.getD_eq_getElem?_getD, List.getElem?_eq_getElem hpr]
          rfl
    · (try array_get_dec)
      have e : dueB p ws gaps rules pr (.tuple l) = false := by
        unfold dueB
        split
        · rename_i heq
          cases heq
          exact absurd rfl hn
        · rfl
      rw [e]
      exact ⟨rfl, rfl⟩
  | _ =>
    (try array_get_dec)
    exact ⟨rfl, rfl⟩
end
end V

namespace V
open PySem L2 PyProof.Rows Rf Nm
/-- the first bad cut -/
def firstBad (R : List (List Int)) (rules : List Rule) (ns : List Str) : Option (List Nat) := ((cutsOf R).find? fun c => badP rules ns c.2).map Prod.fst
def optC : Option (List Nat) → PyData
  | some c => cutT c
  | none => .none
def brk (p : List Int) (ws : List (Nat × Int)) (gaps : List Nat) (rules : List Rule) (pr : List (List Str)) (m : Nat) : Option (List Nat) := firstBad (vers p ws (lastG gaps m) m) rules (pr.getD m [])
def keyT (l m : Nat) : PyData := .tuple [.int l, .int m]
def keyK (l m : Nat) : DKey := .tup [.inl l, .inl m]
def knownW (gaps : List Nat) (f : Nat → Option (List Nat)) (m : Nat) : List (PyData × W) := (List.range m).map fun j => (keyT (lastG gaps j) j, .dat (optC (f j)))
theorem set_same {S : Store} {k : Nat} {c : Cell} (h : S[k]? = some c) : S.set k c = S := by
  refine List.ext_getElem? fun i => ?_
  rw [List.getElem?_set]
  by_cases e : k = i
  · subst e
    rw [if_pos rfl, if_pos (List.getElem?_eq_some_iff.mp h).1, h]
  · rw [if_neg e]
theorem dkey_keyT (l m : Nat) : dkey (keyT l m) = some (keyK l m) := rfl
theorem look_new {gaps : List Nat} {f : Nat → Option (List Nat)} {m l : Nat} : (knownW gaps f m).find? (fun p => decide (dkey p.1 = some (keyK l m))) = none := by
  refine List.find?_eq_none.mpr fun p hp => ?_
  obtain ⟨j, hj, rfl⟩ := List.mem_map.mp hp
  have hj := List.mem_range.mp hj
  dsimp only
  rw [dkey_keyT, decide_eq_true_eq]
  intro e
  simp only [Option.some.injEq, keyK, DKey.tup.injEq, List.cons.injEq, Sum.inl.injEq] at e
  omega
theorem known_kind {gaps : List Nat} {f : Nat → Option (List Nat)} {m : Nat} {l j : Nat} : ((knownW gaps f m).all fun p => (dkey p.1).any fun k' => kindK k' == kindK (keyK l j)) = true := by
  refine List.all_eq_true.mpr fun p hp => ?_
  obtain ⟨i, hi, rfl⟩ := List.mem_map.mp hp
  rfl
theorem known_put {gaps : List Nat} {f : Nat → Option (List Nat)} {m : Nat} : putW (knownW gaps f m) (keyK (lastG gaps m) m) (.dat (optC (f m))) = knownW gaps f (m + 1) := by
  have e : ((knownW gaps f m).any fun p => decide (dkey p.1 = some (keyK (lastG gaps m) m))) = false := by
    refine List.any_eq_false.mpr fun p hp => ?_
    have := List.find?_eq_none.mp (look_new (gaps := gaps) (f := f) (m := m) (l := lastG gaps m)) p hp
    exact this
  unfold putW
  rw [e]
  unfold knownW
  rw [List.range_succ, List.map_append]
  rfl
theorem look_last {gaps : List Nat} {f : Nat → Option (List Nat)} {m : Nat} : lookW (knownW gaps f (m + 1)) (keyK (lastG gaps m) m) = some (.dat (optC (f m))) := by
  unfold lookW
  have e : knownW gaps f (m + 1) = knownW gaps f m ++ [(keyT (lastG gaps m) m, .dat (optC (f m)))] := by
    unfold knownW
    rw [List.range_succ, List.map_append]
    rfl
  rw [e, List.find?_append, look_new, Option.none_or]
  simp [dkey_keyT]
section
variable {bs : List Nat} {S : Store} {n : Nat} {E : EK}
theorem notin_known {gaps : List Nat} {f : Nat → Option (List Nat)} {m k : Nat} {Q : W → Store → Prop} (h : S[k]? = some (.dic (knownW gaps f m))) (q : Q (.dat (.bool true)) S) : wpo (inBF true bs (.dat (keyT (lastG gaps m) m)) (.loc k) S) Q := by
  have e1 : inF true bs (.dat (keyT (lastG gaps m) m)) (.loc k) S = none := by
    unfold inF
    have : viewD S (.loc k) = none := by unfold viewD; simp only [h]
    rw [this]
    rfl
  have e2 : inSF true bs (.dat (keyT (lastG gaps m) m)) (.loc k) S = none := rfl
  have e3 : inDF true bs (.dat (keyT (lastG gaps m) m)) (.loc k) S = some (.bl true, S) := by
    unfold inDF
    have : dicOf S (.loc k) = some (knownW gaps f m) := by unfold dicOf; simp only [h]
    simp only [this, dkey_keyT]
    rw [if_pos (by unfold dicRdy isDicC; simp only [h, Bool.true_or, Bool.and_true]; exact known_kind)]
    unfold lookW
    rw [look_new]
    rfl
  unfold inBF inAF
  rw [e1, e2, e3]
  exact q
theorem ix_known {gaps : List Nat} {f : Nat → Option (List Nat)} {m k : Nat} {Q : W → Store → Prop} (h : S[k]? = some (.dic (knownW gaps f (m + 1)))) (q : Q (.dat (optC (f m))) S) : wpo (ixF bs (.loc k) (.dat (keyT (lastG gaps m) m)) S) Q := by
  have e1 : seqOf S (.loc k) = none := by unfold seqOf; simp only [tupOf, lstOf, h]
  have e2 : dicOf S (.loc k) = some (knownW gaps f (m + 1)) := by unfold dicOf; simp only [h]
  have : ixF bs (.loc k) (.dat (keyT (lastG gaps m) m)) S = some (.dat (optC (f m)), S) := by
    unfold ixF
    rw [e1]
    show (match dicOf S (.loc k), dkey (keyT (lastG gaps m) m) with | some ws, some k' => (lookW ws k').map (·, S) | _, _ => none) = _
    rw [e2, dkey_keyT]
    show (lookW _ _).map _ = _
    rw [look_last]
    rfl
  rw [this]
  exact q
theorem set_known {gaps : List Nat} {f : Nat → Option (List Nat)} {m k : Nat} {P : Store → Prop} (hm : m ≤ 100) (h : S[k]? = some (.dic (knownW gaps f m))) (q : P (S.set k (.dic (knownW gaps f (m + 1))))) : ∃ S3, setF bs (.loc k) (.dat (keyT (lastG gaps m) m)) (.dat (optC (f m))) S = some S3 ∧ P S3 := by
  refine ⟨_, ?_, q⟩
  unfold setF
  simp only [h, dkey_keyT, may_d]
  rw [if_pos ⟨trivial, by unfold knownW; simp; omega, known_kind⟩, known_put]
/-- a Plan and its dict of what is known -/
def planF (p : List Int) (ws : List (Nat × Int)) (rules : List Rule) (pr : List (List Str)) (k : Nat) : List (Str × W) := [("begun", .dat (picD p)), ("writes", .dat (wsD ws)), ("rules", .dat (rsD rules)), ("promise", .dat (prD pr)), ("known", .loc k)]
theorem ev_look {p : List Int} {ws : List (Nat × Int)} {gaps : List Nat} {rules : List Rule} {pr : List (List Str)} (h : PlanOk p ws gaps rules pr) (h4 : p.length ≤ 4) {k m : Nat} (hm : m ≤ ws.length) (hS : S[n]? = some (.ins 0 (planF p ws rules pr k))) :
    F_Plan__look bs [.loc n, .dat (.int (lastG gaps m : Nat)), .dat (.int m)] S = .ok (.dat (optC (brk p ws gaps rules pr m))) S := by
  have hpr : m < pr.length := by have := h.ml; omega
  refine eq_of_wp ?_
  (unfold F_Plan__look m_Plan__look; with_reducible refine Rf.wp_fn rfl ?_; simp only [Rf.startE, List.map_cons, List.map_nil, List.length_cons, List.length_nil, Nat.reduceAdd, Nat.reduceSub, List.replicate, List.cons_append, List.nil_append])
  (try array_get_dec)
  refine fl_d hS (by decide) rfl ?_
  (try array_get_dec)
  refine fl_d hS (by decide) rfl ?_
  (try array_get_dec)
  refine wp_eq (ev_versions p ws (lastG gaps m) m h.p1 h.p6 h.w8 h.wf) ?_
  (try array_get_dec)
  refine wp_eq (ev_cuts _ (by rw [len_vers]; exact h4) (vers_lens h.w8)) ?_
  (try array_get_dec)
  rw [List.map_map]
  refine wp_items (f := W.dat ∘ cutD) (xs := cutsOf (vers p ws (lastG gaps m) m)) (fun pre env S' => ∃ a b, env = [some (.loc n), some (.dat (.int (lastG gaps m : Nat))), some (.dat (.int m)), some (.dat (verD (vers p ws (lastG gaps m) m))), a, b] ∧ S' = S ∧ ∀ c ∈ pre, badP rules (pr.getD m []) c.2 = false) ⟨_, _, rfl, rfl, fun c hc => nomatch hc⟩ (fun pre c post env S' hx hI => ?_) (fun env S' hI => ?_)
  · obtain ⟨a, b, rfl, rfl, hp⟩ := hI
    refine wp_body ?_
    refine wp_tTup (w := .dat (.tuple [cutT c.1, picD c.2])) (ws := [.dat (cutT c.1), .dat (picD c.2)]) rfl rfl (wp_tCons (wp_name (wp_tCons (wp_name (wp_tNil ?_)))))
    (try array_get_dec)
    refine fl_d hS (by decide) rfl ?_
    (try array_get_dec)
    refine wp_eq (ev_meaning c.2 rules p.length h.p6 h.r24 h.rf) ?_
    (try array_get_dec)
    refine fl_d hS (by decide) rfl ?_
    unfold prD
    (try array_get_dec)
    refine ix_tup (d := nsD pr[m]) (atI_ofNat (by simp [hpr])) ?_
    (try array_get_dec)
    refine in_names ?_
    have eb : badN pr[m] (meanB rules c.2) = badP rules (pr.getD m []) c.2 := by
      unfold badP
      rw [List.getD_eq_getElem?_getD, List.getElem?_eq_getElem hpr]
      rfl
    rw [eb]
    cases hb : badP rules (pr.getD m []) c.2 with
    | true =>
      (try array_get_dec)
      refine ⟨?_, rfl⟩
      have : (cutsOf (vers p ws (lastG gaps m) m)).find? (fun c => badP rules (pr.getD m []) c.2) = some c := by
        rw [hx, List.find?_append, List.find?_eq_none.mpr (fun z hz => by rw [hp z hz]; exact Bool.false_ne_true)]
        show (match badP rules (pr.getD m []) c.2 with | true => some c | false => post.find? _) = some c
        rw [hb]
      unfold brk firstBad
      rw [this]
      rfl
    | false =>
      (try array_get_dec)
      refine ⟨_, _, rfl, rfl, fun z hz => ?_⟩
      rcases List.mem_append.mp hz with h | h
      · exact hp z h
      · rw [List.mem_singleton.mp h]; exact hb
  · obtain ⟨a, b, rfl, rfl, hp⟩ := hI
    (try array_get_dec)
    refine ⟨?_, rfl⟩
    have : (cutsOf (vers p ws (lastG gaps m) m)).find? (fun c => badP rules (pr.getD m []) c.2) = none := List.find?_eq_none.mpr (fun z hz => by rw [hp z hz]; exact Bool.false_ne_true)
    unfold brk firstBad
    rw [this]
    rfl
theorem ev_broken {p : List Int} {ws : List (Nat × Int)} {gaps : List Nat} {rules : List Rule} {pr : List (List Str)} (h : PlanOk p ws gaps rules pr) (h4 : p.length ≤ 4) {k m : Nat} (hm : m ≤ ws.length) (hnk : n ≠ k) (hS : S[n]? = some (.ins 0 (planF p ws rules pr k))) (hK : S[k]? = some (.dic (knownW gaps (brk p ws gaps rules pr) m))) :
    F_Plan__broken bs [.loc n, .dat (.int (lastG gaps m : Nat)), .dat (.int m)] S = .ok (.dat (optC (brk p ws gaps rules pr m))) (S.set k (.dic (knownW gaps (brk p ws gaps rules pr) (m + 1)))) := by
  have hk := (List.getElem?_eq_some_iff.mp hK).1
  refine eq_of_wp ?_
  (unfold F_Plan__broken m_Plan__broken; with_reducible refine Rf.wp_fn rfl ?_; simp only [Rf.startE, List.map_cons, List.map_nil, List.length_cons, List.length_nil, Nat.reduceAdd, Nat.reduceSub, List.replicate, List.cons_append, List.nil_append])
  (try array_get_dec)
  refine fl_l hS (by decide) rfl ?_
  refine notin_known hK ?_
  (try array_get_dec)
  refine me_mk hS (by rfl) ?_
  (try array_get_dec)
  refine wp_eq (ev_look h h4 hm hS) ?_
  refine wp_tSub ?_
  (try array_get_dec)
  refine fl_l hS (by decide) rfl ?_
  (try array_get_dec)
  refine set_known (f := brk p ws gaps rules pr) (by have := h.w8; omega) hK ?_
  (try array_get_dec)
  have hS2 : (S.set k (.dic (knownW gaps (brk p ws gaps rules pr) (m + 1))))[n]? = some (.ins 0 (planF p ws rules pr k)) := by rw [List.getElem?_set_ne (Ne.symm hnk)]; exact hS
  have hK2 : (S.set k (.dic (knownW gaps (brk p ws gaps rules pr) (m + 1))))[k]? = some (.dic (knownW gaps (brk p ws gaps rules pr) (m + 1))) := List.getElem?_set_self hk
  refine fl_l hS2 (by decide) rfl ?_
  (try array_get_dec)
  refine ix_known (f := brk p ws gaps rules pr) hK2 ?_
  exact rt_len (by simp) ⟨rfl, rfl⟩
theorem first_none {f : Nat → Option (List Nat)} : ∀ N, (∀ j < N, f j = none) → (List.range N).findSome? (fun m => (f m).map fun c => (m, c)) = none := by
  intro N h
  rw [List.findSome?_eq_none_iff]
  intro x hx
  rw [h x (List.mem_range.mp hx)]
  rfl
theorem first_some {f : Nat → Option (List Nat)} {i : Nat} {c : List Nat} (hc : f i = some c) (hp : ∀ j < i, f j = none) : ∀ N, i < N → (List.range N).findSome? (fun m => (f m).map fun c => (m, c)) = some (i, c)
  | 0, h => by omega
  | N + 1, h => by
    rw [List.range_succ, List.findSome?_append]
    by_cases e : i < N
    · rw [first_some hc hp N e]; rfl
    · have : N = i := by omega
      subst this
      rw [first_none N hp, List.findSome?_singleton, hc]
      rfl
def breakOf (p : List Int) (ws : List (Nat × Int)) (gaps : List Nat) (rules : List Rule) (pr : List (List Str)) : Option (Nat × List Nat) := (List.range (ws.length + 1)).findSome? fun m => (brk p ws gaps rules pr m).map fun c => (m, c)
def optB : Option (Nat × List Nat) → PyData
  | some (m, c) => .tuple [.int m, cutT c]
  | none => .none
theorem wp_broken_by {p : List Int} {ws : List (Nat × Int)} {gaps : List Nat} {rules : List Rule} {pr : List (List Str)} {Q : W → Store → Prop} (h : PlanOk p ws gaps rules pr) (h4 : p.length ≤ 4) {k : Nat} (hnk : n ≠ k) (hS : S[n]? = some (.ins 0 (planF p ws rules pr k))) (hK : S[k]? = some (.dic []))
    (q : ∀ i, Q (.dat (optB (breakOf p ws gaps rules pr))) (S.set k (.dic (knownW gaps (brk p ws gaps rules pr) i)))) : (F_Plan__broken_by bs [.loc n, .dat (gpD gaps)] S).wp Q E := by
  have hk := (List.getElem?_eq_some_iff.mp hK).1
  (unfold F_Plan__broken_by m_Plan__broken_by; with_reducible refine Rf.wp_fn rfl ?_; simp only [Rf.startE, List.map_cons, List.map_nil, List.length_cons, List.length_nil, Nat.reduceAdd, Nat.reduceSub, List.replicate, List.cons_append, List.nil_append])
  (try array_get_dec)
  refine fl_d hS (by decide) rfl ?_
  unfold wsD
  (try array_get_dec)
  rw [List.length_map]
  have h8 := h.w8
  refine ⟨_, rfl, by omega, ?_⟩
  refine wp_range (fun i env S' => ∃ x y, env = [some (.loc n), some (.dat (gpD gaps)), x, y] ∧ S' = S.set k (.dic (knownW gaps (brk p ws gaps rules pr) i)) ∧ ∀ j < i, brk p ws gaps rules pr j = none) ⟨_, _, rfl, by rw [show knownW gaps (brk p ws gaps rules pr) 0 = [] from rfl]; exact (set_same hK).symm, fun j hj => by omega⟩ (fun i env S' hi hI => ?_) (fun env S' hI => ?_)
  · obtain ⟨x, y, rfl, rfl, hp⟩ := hI
    have hS2 : (S.set k (.dic (knownW gaps (brk p ws gaps rules pr) i)))[n]? = some (.ins 0 (planF p ws rules pr k)) := by rw [List.getElem?_set_ne (Ne.symm hnk)]; exact hS
    have hK2 : (S.set k (.dic (knownW gaps (brk p ws gaps rules pr) i)))[k]? = some (.dic (knownW gaps (brk p ws gaps rules pr) i)) := List.getElem?_set_self hk
    (try array_get_dec)
    refine me_mk hS2 (by rfl) ?_
    (try array_get_dec)
    refine wp_eq (ev_last_gap gaps i h.g9) ?_
    (try array_get_dec)
    refine wp_eq (ev_broken h h4 (by omega) hnk hS2 hK2) ?_
    rw [List.set_set]
    cases hb : brk p ws gaps rules pr i with
    | none =>
      dsimp only [optC]
      (try array_get_dec)
      refine ⟨_, _, rfl, rfl, fun j hj => ?_⟩
      by_cases e : j < i
      · exact hp j e
      · have : j = i := by omega
        subst this
        exact hb
    | some c =>
      dsimp only [optC, cutT]
      (try array_get_dec)
      refine rt_len (by simp) ?_
      have e : breakOf p ws gaps rules pr = some (i, c) := first_some hb hp _ (by omega)
      have := q (i + 1)
      rw [e] at this
      exact this
  · obtain ⟨x, y, rfl, rfl, hp⟩ := hI
    (try array_get_dec)
    refine rt_len (by simp) ?_
    have e : breakOf p ws gaps rules pr = none := first_none _ fun j hj => hp j (by omega)
    have := q ((ws.length : Int) + 1).toNat
    rw [e] at this
    exact this
end
end V

namespace V
open PySem L2 PyProof.Rows Rf Nm
section
variable {bs : List Nat} {S : Store} {n : Nat} {E : EK}
theorem may_all {bs : List Nat} {n : Nat} {w : W} (h : ∀ q ∈ bs, q ≤ n) : mayW bs n w = true := by
  unfold mayW
  rw [List.all_eq_true]
  intro q hq
  rw [decide_eq_true (h q hq), Bool.true_or]
theorem sf_all {f : Str} {bs : List Nat} {n : Nat} {fs : List (Str × W)} {w : W} {S : Store} {P : Store → Prop} (hn : S[n]? = some (.ins 0 fs)) (hb : ∀ q ∈ bs, q ≤ n) (hl : fs.length < 900) (q : P (S.set n (.ins 0 (putFW f w fs)))) : SF [0] f bs P (.loc n) w S := by
  refine ⟨_, ?_, q⟩
  unfold setFld
  simp only [hn]
  rw [if_pos ⟨by decide, hl, may_all hb⟩]
theorem putFW_new {f : Str} {w : W} (ks : List Str) : ∀ {fs : List (Str × W)}, fs.map (·.1) = ks → f ∉ ks → putFW f w fs = fs ++ [(f, w)] := by
  intro fs hk h
  subst hk
  induction fs with
  | nil => rfl
  | cons p fs ih =>
    rw [List.map_cons, List.mem_cons, not_or] at h
    obtain ⟨k, x⟩ := p
    rw [putFW, if_neg (Ne.symm h.1), ih h.2]; rfl
theorem set_k (S : Store) (c d : Cell) (T : Store) : (S ++ c :: T).set S.length d = S ++ d :: T := by simp
theorem ev_init {p : List Int} {ws : List (Nat × Int)} {rules : List Rule} {pr : List (List Str)} (hb : ∀ q ∈ bs, q ≤ S.length) : F_Plan____init__ bs [.loc S.length, .dat (picD p), .dat (wsD ws), .dat (rsD rules), .dat (prD pr)] (S ++ [.ins 0 []]) = .ok (.dat .none) (S ++ [.ins 0 (planF p ws rules pr (S.length + 1)), .dic []]) := by
  refine eq_of_wp ?_
  unfold F_Plan____init__ m_Plan____init__
  refine wp_fnN rfl ?_
  simp only [Rf.startE, List.map_cons, List.map_nil, List.length_cons, List.length_nil, Nat.reduceAdd, Nat.reduceSub, List.replicate, List.cons_append, List.nil_append]
  (try array_get_dec)
  refine sf_all (at_app1 _ _) hb (by decide) ?_
  rw [set_app, putFW_new [] rfl (by simp)]
  (try array_get_dec)
  refine sf_all (at_app1 _ _) hb (show 1 < 900 by decide) ?_
  rw [set_app, putFW_new ["begun"] rfl (by decide +kernel)]
  (try array_get_dec)
  refine sf_all (at_app1 _ _) hb (show 2 < 900 by decide) ?_
  rw [set_app, putFW_new ["begun", "writes"] rfl (by decide +kernel)]
  (try array_get_dec)
  refine sf_all (at_app1 _ _) hb (show 3 < 900 by decide) ?_
  rw [set_app, putFW_new ["begun", "writes", "rules"] rfl (by decide +kernel)]
  (try array_get_dec)
  simp only [List.append_assoc, List.cons_append, List.nil_append, List.length_append, List.length_cons, List.length_nil, Nat.reduceAdd, Nat.zero_add]
  refine sf_all (at_app _ _ _) hb (show 4 < 900 by decide) ?_
  rw [set_k, putFW_new ["begun", "writes", "rules", "promise"] rfl (by decide +kernel)]
  exact ⟨trivial, rfl⟩
theorem ev_break_of {p : List Int} {ws : List (Nat × Int)} {gaps : List Nat} {rules : List Rule} {pr : List (List Str)} (h : PlanOk p ws gaps rules pr) (h4 : p.length ≤ 4) (hb : ∀ q ∈ bs, q ≤ S.length) :
    F_break_of bs [.dat (picD p), .dat (wsD ws), .dat (gpD gaps), .dat (rsD rules), .dat (prD pr)] S = .ok (.dat (optB (breakOf p ws gaps rules pr))) S := by
  have hb2 : ∀ q ∈ S.length :: bs, q ≤ S.length := fun q hq => by
    rcases List.mem_cons.mp hq with rfl | h
    · exact Nat.le_refl _
    · exact hb q h
  refine eq_of_wp ?_
  (unfold F_break_of m_break_of; with_reducible refine Rf.wp_fn rfl ?_; simp only [Rf.startE, List.map_cons, List.map_nil, List.length_cons, List.length_nil, Nat.reduceAdd, Nat.reduceSub, List.replicate, List.cons_append, List.nil_append])
  (try array_get_dec)
  refine wp_eq (ev_check_plan h) ?_
  (try array_get_dec)
  refine wp_make ?_
  (try array_get_dec)
  refine wp_eq (ev_init hb2) ⟨rfl, ?_⟩
  refine me_mk (at_app _ _ _) (by rfl) ?_
  (try array_get_dec)
  refine wp_broken_by h h4 (k := S.length + 1) (by omega) (at_app _ _ _) (by simp) fun i => ?_
  rw [List.set_append_right _ _ (by omega)]
  exact rt_app ⟨rfl, rfl⟩
def noneOf (p : List Int) (ws : List (Nat × Int)) (gaps : List Nat) (rules : List Rule) (pr : List (List Str)) : Bool := (breakOf p ws gaps rules pr).isNone
theorem ev_keeps {p : List Int} {ws : List (Nat × Int)} {gaps : List Nat} {rules : List Rule} {pr : List (List Str)} (h : PlanOk p ws gaps rules pr) (h4 : p.length ≤ 4) (hb : ∀ q ∈ bs, q ≤ S.length) :
    F_keeps bs [.dat (picD p), .dat (wsD ws), .dat (gpD gaps), .dat (rsD rules), .dat (prD pr)] S = .ok (.dat (.bool (noneOf p ws gaps rules pr))) S := by
  have hb2 : ∀ q ∈ S.length :: bs, q ≤ S.length := fun q hq => by
    rcases List.mem_cons.mp hq with rfl | h
    · exact Nat.le_refl _
    · exact hb q h
  refine eq_of_wp ?_
  (unfold F_keeps m_keeps; with_reducible refine Rf.wp_fn rfl ?_; simp only [Rf.startE, List.map_cons, List.map_nil, List.length_cons, List.length_nil, Nat.reduceAdd, Nat.reduceSub, List.replicate, List.cons_append, List.nil_append])
  (try array_get_dec)
  refine wp_eq (ev_break_of h h4 hb2) ?_
  unfold noneOf
  cases breakOf p ws gaps rules pr with
  | none =>
    dsimp only [optB]
    (try array_get_dec)
    exact ⟨rfl, rfl⟩
  | some c =>
    dsimp only [optB]
    (try array_get_dec)
    exact ⟨rfl, rfl⟩
/-! what a break is -/
theorem firstBad_cut {R : List (List Int)} {rules : List Rule} {ns : List Str} {c : List Nat} (h : firstBad R rules ns = some c) : ∃ u, CutOf c u R ∧ badP rules ns u = true := by
  unfold firstBad at h
  rw [Option.map_eq_some_iff] at h
  obtain ⟨⟨c', u⟩, h1, rfl⟩ := h
  have h2 := List.find?_some (p := fun c : List Nat × List Int => badP rules ns c.2) h1
  exact ⟨u, cuts_mem.mp (List.mem_of_find?_eq_some h1), h2⟩
theorem firstBad_none {R : List (List Int)} {rules : List Rule} {ns : List Str} : (firstBad R rules ns).isNone = !((cutsOf R).any fun c => badP rules ns c.2) := by
  unfold firstBad
  cases h : (cutsOf R).find? fun c => badP rules ns c.2 with
  | none =>
    have : ((cutsOf R).any fun c => badP rules ns c.2) = false := List.any_eq_false.mpr fun c hc => List.find?_eq_none.mp h c hc
    rw [this]; rfl
  | some c =>
    have : ((cutsOf R).any fun c => badP rules ns c.2) = true := List.any_eq_true.mpr ⟨c, List.mem_of_find?_eq_some h, List.find?_some (p := fun c : List Nat × List Int => badP rules ns c.2) h⟩
    rw [this]; rfl
theorem left_cut {c : List Nat} {u : List Int} {R : List (List Int)} (h : CutOf c u R) : leftOf R (cutT c) = some u := by
  have key : (c.map fun (i : Nat) => PyData.int i).length = R.length ∧ ((c.map fun (i : Nat) => PyData.int i).zip R).all fitIx = true ∧ (((c.map fun (i : Nat) => PyData.int i).zip R).map fun q => q.2.getD (ixOf q.1) 0) = u := by
    induction h with
    | nil => exact ⟨rfl, rfl, rfl⟩
    | @cons i f r c u rs h _ ih =>
      obtain ⟨a, b, d⟩ := ih
      obtain ⟨h1, h2⟩ := List.getElem?_eq_some_iff.mp h
      refine ⟨by simp at a ⊢; exact a, ?_, ?_⟩
      · rw [List.map_cons, List.zip_cons_cons, List.all_cons, b, Bool.and_true]
        exact decide_eq_true (show 0 ≤ (i : Int) ∧ (i : Int) ≤ (r.length : Int) - 1 by omega)
      · rw [List.map_cons, List.zip_cons_cons, List.map_cons, d]
        congr 1
        show r.getD ((i : Int)).toNat 0 = f
        rw [Int.toNat_natCast, List.getD_eq_getElem?_getD, h]
        rfl
  unfold cutT leftOf
  dsimp only
  rw [if_pos ⟨key.1, key.2.1⟩, key.2.2]
theorem breakOf_due {p : List Int} {ws : List (Nat × Int)} {gaps : List Nat} {rules : List Rule} {pr : List (List Str)} {m : Nat} {c : List Nat} (h : breakOf p ws gaps rules pr = some (m, c)) : dueB p ws gaps rules pr (.tuple [.int m, cutT c]) = true := by
  unfold breakOf at h
  obtain ⟨j, hj, e⟩ := List.exists_of_findSome?_eq_some h
  rw [Option.map_eq_some_iff] at e
  obtain ⟨c', e1, e2⟩ := e
  cases e2
  have hj := List.mem_range.mp hj
  rw [due_yes (by omega)]
  obtain ⟨u, h1, h2⟩ := firstBad_cut e1
  rw [left_cut h1]
  exact h2
theorem noneOf_is {p : List Int} {ws : List (Nat × Int)} {gaps : List Nat} {rules : List Rule} {pr : List (List Str)} : noneOf p ws gaps rules pr = (List.range (ws.length + 1)).all fun m => !((cutsOf (vers p ws (lastG gaps m) m)).any fun c => badP rules (pr.getD m []) c.2) := by
  unfold noneOf breakOf
  rw [Bool.eq_iff_iff, Option.isNone_iff_eq_none, List.findSome?_eq_none_iff, List.all_eq_true]
  constructor
  · intro h m hm
    have := h m hm
    rw [Option.map_eq_none_iff] at this
    rw [← firstBad_none]
    unfold brk at this
    rw [this]; rfl
  · intro h m hm
    have := h m hm
    rw [← firstBad_none, Option.isNone_iff_eq_none] at this
    unfold brk
    rw [this]; rfl
end
end V

namespace V
open PySem L2 PyProof.Rows Rf Nm
section
variable {bs : List Nat} {S : Store} {n : Nat} {E : EK} {Q : W → Store → Prop}
theorem in_gaps {gaps : List Nat} {j : Nat} {Q : W → Store → Prop} (q : Q (.dat (.bool (decide (j ∈ gaps)))) S) : wpo (inAF false bs (.dat (.int (j : Nat))) (.dat (gpD gaps)) S) Q := by
  unfold gpD
  have hp : PyData.plainAll (gaps.map fun (g : Nat) => PyData.int g) = true := by
    clear q
    induction gaps with
    | nil => rfl
    | cons g gs ih => rw [List.map_cons, PyData.plainAll, ih]; rfl
  refine in_tupD ⟨rfl, hp, by simp [PyData.depth]⟩ ?_
  have e : (((gaps.map fun (g : Nat) => PyData.int g).any fun z => PyData.eqv z (.int (j : Nat))) != false) = decide (j ∈ gaps) := by
    rw [Bool.bne_false, Bool.eq_iff_iff, List.any_eq_true, decide_eq_true_eq]
    constructor
    · rintro ⟨y, hy, he⟩
      obtain ⟨g, hg, rfl⟩ := List.mem_map.mp hy
      have : (g : Int) = j := by simpa [PyData.eqv] using he
      have : g = j := by omega
      exact this ▸ hg
    · exact fun h => ⟨.int j, List.mem_map.mpr ⟨j, h, rfl⟩, by simp [PyData.eqv]⟩
  rw [e]
  exact q
theorem locs_und {b k m : Nat} (h : m ≤ b) : W.und m (.lw (locs b (k + 1))) = false := by
  have : locs b (k + 1) = .loc b :: (List.range k).map fun i => W.loc (b + (i + 1)) := by
    unfold locs
    rw [List.range_succ_eq_map, List.map_cons, List.map_map]
    rfl
  rw [this]
  show (decide (b < m) && _) = false
  rw [decide_eq_false (by omega), Bool.false_and]
theorem rowsAt_is {p : List Int} {ws : List (Nat × Int)} {gaps : List Nat} {m j : Nat} (h : j ≤ ws.length) : ∃ l, rowsAt p ws gaps m j = vers p ws l j :=
  ⟨_, rows_vers j _ h ((top_is (gaps.filter fun g => decide (g ≤ j ∧ g < m))).congr fun g => by simp [List.mem_filter])⟩
theorem rowsAt_len {p : List Int} {ws : List (Nat × Int)} {gaps : List Nat} {m j : Nat} (h : j ≤ ws.length) : (rowsAt p ws gaps m j).length = p.length := by
  obtain ⟨l, e⟩ := rowsAt_is (p := p) (gaps := gaps) (m := m) h
  rw [e, len_vers]
theorem rowsAt_lens {p : List Int} {ws : List (Nat × Int)} {gaps : List Nat} {m j c : Nat} (h : j ≤ ws.length) (h8 : ws.length ≤ 8) : ((rowsAt p ws gaps m j).getD c []).length ≤ 9 := by
  obtain ⟨l, e⟩ := rowsAt_is (p := p) (gaps := gaps) (m := m) h
  rw [e, List.getD_eq_getElem?_getD]
  by_cases hc : c < (vers p ws l j).length
  · rw [List.getElem?_eq_getElem hc]
    exact vers_lens h8 _ (List.getElem_mem hc)
  · rw [List.getElem?_eq_none (by omega)]
    exact Nat.zero_le _
theorem last_at {R : List (List Int)} {i : Nat} (h : i < R.length) : (lastR R).getD i 0 = (R.getD i []).getLastD 0 := by
  unfold lastR
  rw [List.getD_eq_getElem?_getD, List.getElem?_map, List.getD_eq_getElem?_getD, List.getElem?_eq_getElem h]
  rfl
theorem put_ne {R : List (List Int)} (h : ∀ r ∈ R, r ≠ []) (w : Nat × Int) : ∀ r ∈ put R w, r ≠ [] := by
  intro r hr
  unfold put at hr
  obtain ⟨i, hi, rfl⟩ := List.mem_iff_getElem.mp hr
  rw [List.getElem_modify]
  split
  · simp
  · exact h _ (List.getElem_mem _)
theorem steps_ne (ws : List (Nat × Int)) : ∀ {R : List (List Int)}, (∀ r ∈ R, r ≠ []) → ∀ r ∈ ws.foldl put R, r ≠ [] := by
  induction ws with
  | nil => exact fun h => h
  | cons w ws ih => exact fun h => ih (put_ne h w)
theorem vers_ne {p : List Int} {ws : List (Nat × Int)} {l m : Nat} : ∀ r ∈ vers p ws l m, r ≠ [] := steps_ne _ fun r hr => by
  obtain ⟨x, _, rfl⟩ := List.mem_map.mp hr
  simp
theorem last_ix {r : List Int} (h : r ≠ []) : L2.atI (r.map fun x => W.dat (.int x)) (-1) = some (.dat (.int (r.getLastD 0))) := by
  have hl : 0 < r.length := List.length_pos_iff.mpr h
  have e : L2.ixN (r.map fun x => W.dat (.int x)).length (-1) = some (r.length - 1) := by
    unfold L2.ixN
    rw [List.length_map, if_neg (by decide), if_pos (by omega)]
    congr 1
    omega
  unfold L2.atI
  rw [e]
  show (r.map fun x => W.dat (.int x))[r.length - 1]? = _
  rw [List.getElem?_map, ← List.getLast?_eq_getElem?, List.getLastD_eq_getLast?]
  rw [List.getLast?_eq_some_getLast h]
  rfl
theorem wp_law_rows {p : List Int} {ws : List (Nat × Int)} {gaps : List Nat} {m : Nat} (hp1 : 1 ≤ p.length) (hp : p.length ≤ 6) (h8 : ws.length ≤ 8) (hf : writesOk p ws) (hm : m ≤ ws.length)
    (q : ∀ X : Store, Q (.lw (locs (S.length + X.length) p.length)) (S ++ X ++ (vers p ws (lastG gaps m) m).map rowC)) :
    (F__law_rows bs [.dat (picD p), .dat (wsD ws), .dat (gpD gaps), .dat (.int m)] S).wp Q E := by
  (unfold F__law_rows m__law_rows; with_reducible refine Rf.wp_fn rfl ?_; simp only [Rf.startE, List.map_cons, List.map_nil, List.length_cons, List.length_nil, Nat.reduceAdd, Nat.reduceSub, List.replicate, List.cons_append, List.nil_append])
  unfold picD wsD
  (try array_get_dec)
  refine wp_compG (f := W.dat) (xs := p.map .int) (fun pre acc S' => acc = locs S.length pre.length ∧ S' = S ++ pre.map fun d => Cell.lst [.dat d]) (fun pre post acc S' hx h => ?_) (fun pre x post acc S' hx h => ?_) (fun acc S' h => ?_) _ [] (p.map .int) [] _ rfl ?_ ⟨rfl, by simp⟩
  · have := next_of (f := W.dat) (S := S') hx
    exact this
  · obtain ⟨rfl, rfl⟩ := h
    have hl := congrArg List.length hx
    simp only [List.length_append, List.length_cons, List.length_map] at hl
    (try array_get_dec)
    refine ⟨by unfold locs; simp; omega, ?_, by simp⟩
    rw [List.length_append (as := pre), List.length_singleton, locs_succ]
    simp
  · obtain ⟨rfl, rfl⟩ := h
    rw [List.length_map, show p.length = (p.length - 1) + 1 by omega]
    refine locs_lw _ _ _ _ ?_
    rw [show (p.length - 1) + 1 = p.length by omega]
    have e0 : ((p.map PyData.int).map fun d => Cell.lst [.dat d]) = (single p).map rowC := by unfold single; rw [List.map_map, List.map_map]; rfl
    rw [e0]
    (try array_get_dec)
    refine wp_range (fun j env S' => ∃ (X : Store) (x y z : Option W), env = [some (.dat (.tuple (p.map .int))), some (.dat (.tuple (ws.map wrD))), some (.dat (gpD gaps)), some (.dat (.int m)), some (.lw (locs (S.length + X.length) p.length)), x, y, z] ∧ S' = S ++ X ++ (rowsAt p ws gaps m j).map rowC) ⟨[], _, _, _, rfl, by simp [rowsAt]⟩ (fun j env S' hj h => ?_) (fun env S' h => ?_)
    · obtain ⟨X, x, y, z, rfl, rfl⟩ := h
      have hj : j < m := by omega
      have hjw : j < ws.length := by omega
      have wf := hf ws[j] (List.getElem_mem hjw)
      have eX : (S ++ X).length = S.length + X.length := List.length_append
      (try array_get_dec)
      refine ix_tup (d := .tuple [.int ws[j].1, .int ws[j].2]) (atI_ofNat (by simp [hjw, wrD])) ?_
      (try array_get_dec)
      refine ix_tup rfl ?_
      (try array_get_dec)
      have lr : (rowsAt p ws gaps m j).length = p.length := rowsAt_len (by omega)
      have lr2 : ((rowsAt p ws gaps m j).getD ws[j].1 []).length ≤ 9 := rowsAt_lens (by omega) h8
      refine ix_seq (ws := locs (S.length + X.length) p.length) rfl (locs_at wf.1) ?_
      have at1 := rows_at (X := S ++ X) (R := rowsAt p ws gaps m j) (c := ws[j].1) (by omega)
      rw [eX] at at1
      refine ⟨ty_loc at1, ?_⟩
      (try array_get_dec)
      refine ix_tup (d := .tuple [.int ws[j].1, .int ws[j].2]) (atI_ofNat (by simp [hjw, wrD])) ?_
      (try array_get_dec)
      refine ix_tup rfl ?_
      (try array_get_dec)
      refine app_loc (ws := ((rowsAt p ws gaps m j).getD ws[j].1 []).map fun x => .dat (.int x)) at1 (by rw [List.length_map]; omega) ?_
      have e1 := rows_put (X := S ++ X) (R := rowsAt p ws gaps m j) (c := ws[j].1) (f := ws[j].2) (by omega)
      rw [eX] at e1
      rw [e1]
      have ew : (ws[j].1, ws[j].2) = ws.getD j (0, 0) := by rw [List.getD_eq_getElem?_getD, List.getElem?_eq_getElem hjw]; rfl
      rw [ew]
      (try array_get_dec)
      rw [show ((j : Int) + 1) = ((j + 1 : Nat) : Int) by omega]
      refine in_gaps ?_
      have key : rowsAt p ws gaps m (j + 1) = if j + 1 ∈ gaps ∧ j + 1 < m then single (lastR (put (rowsAt p ws gaps m j) (ws.getD j (0, 0)))) else put (rowsAt p ws gaps m j) (ws.getD j (0, 0)) := rfl
      have ne : ∀ r ∈ put (rowsAt p ws gaps m j) (ws.getD j (0, 0)), r ≠ [] := by
        obtain ⟨l, e⟩ := rowsAt_is (p := p) (ws := ws) (gaps := gaps) (m := m) (j := j) (by omega)
        rw [e]
        exact put_ne vers_ne _
      have lR : (put (rowsAt p ws gaps m j) (ws.getD j (0, 0))).length = p.length := by rw [len_put, lr]
      generalize put (rowsAt p ws gaps m j) (ws.getD j (0, 0)) = R1 at key ne lR
      clear e1 at1 lr2 lr
      by_cases c1 : j + 1 ∈ gaps
      · rw [decide_eq_true c1]
        (try array_get_dec)
        refine ifD (fun c2 => ?_) (fun c2 => ?_)
        · rw [key, if_pos ⟨c1, by omega⟩]
          (try array_get_dec)
          refine wp_compG (f := fun i => W.loc (S.length + X.length + i)) (xs := List.range p.length) (fun pre acc S' => acc = locs (S.length + X.length + p.length) pre.length ∧ S' = S ++ X ++ R1.map rowC ++ pre.map fun i => rowC [(lastR R1).getD i 0]) (fun pre post acc S' hx _ => next_of (S := S') hx) (fun pre i post acc S' hx h => ?_) (fun acc S' h => ?_) _ [] (List.range p.length) [] _ rfl (by show (List.range p.length).length < (locs _ _).length + 1; unfold locs; simp) ⟨rfl, by simp⟩
          · obtain ⟨rfl, rfl⟩ := h
            obtain ⟨_, rfl, hi⟩ := range_at hx
            have at2 := rows_at (X := S ++ X) (R := R1) (c := pre.length) (by omega)
            rw [eX] at at2
            have hr : R1.getD pre.length [] ≠ [] := by
              rw [List.getD_eq_getElem?_getD, List.getElem?_eq_getElem (by omega)]
              exact ne _ (List.getElem_mem _)
            (try array_get_dec)
            refine ix_loc (at_old at2 _) (last_ix hr) ?_
            (try array_get_dec)
            refine ⟨by unfold locs; simp; omega, ?_, ?_⟩
            · rw [List.length_append (as := pre), List.length_singleton, locs_succ]
              simp [lR]
              omega
            · rw [List.map_append, ← List.append_assoc, ← last_at (by omega)]
              rfl
          · obtain ⟨rfl, rfl⟩ := h
            rw [List.length_range, show p.length = (p.length - 1) + 1 by omega]
            refine locs_lw _ _ _ _ ?_
            rw [show (p.length - 1) + 1 = p.length by omega]
            (try array_get_dec)
            refine ⟨X ++ R1.map rowC, some (.dat (.int j)), y, z, ?_, ?_⟩
            · rw [List.length_append, List.length_map, lR, ← Nat.add_assoc]
              rfl
            · rw [← List.append_assoc]
              congr 1
              unfold single
              rw [List.map_map]
              refine List.ext_getElem? fun i => ?_
              rw [List.getElem?_map, List.getElem?_map]
              have ll : (lastR R1).length = p.length := by unfold lastR; rw [List.length_map, lR]
              by_cases h : i < p.length
              · rw [List.getElem?_range h, List.getElem?_eq_getElem (by omega)]
                show some (rowC [(lastR R1).getD i 0]) = some (rowC [(lastR R1)[i]])
                rw [List.getD_eq_getElem?_getD, List.getElem?_eq_getElem (by omega)]
                rfl
              · rw [List.getElem?_eq_none (by simpa using h), List.getElem?_eq_none (by omega)]
                rfl
        · rw [key, if_neg (fun z => c2 (by omega))]
          (try array_get_dec)
          exact ⟨X, _, _, _, rfl, rfl⟩
      · rw [decide_eq_false c1, key, if_neg (fun z => c1 z.1)]
        (try array_get_dec)
        exact ⟨X, _, _, _, rfl, rfl⟩
    · obtain ⟨X, x, y, z, rfl, rfl⟩ := h
      (try array_get_dec)
      rw [Int.toNat_natCast, rows_are hm]
      have := q X
      show RT _ _ _ _
      unfold RT
      rw [if_neg (by rw [show p.length = (p.length - 1) + 1 by omega, locs_und (by omega)]; exact Bool.false_ne_true)]
      exact this
  · show (p.map PyData.int).length < _
    simp [Iter.fuel]
end
end V

namespace V
open PySem L2 PyProof.Rows Rf Nm
def srt (r : List Int) : List Int := sortInts (uniq r)
theorem srt_mem (r : List Int) (x : Int) : x ∈ srt r ↔ x ∈ r := by
  unfold srt
  rw [(sortInts_perm _).mem_iff, uniq_mem]
theorem srt_len (r : List Int) : (srt r).length ≤ r.length := by
  unfold srt
  rw [(sortInts_perm _).length_eq]
  exact uniq_len _
def allOf (R : List (List Int)) : List (List Int) := R.foldl (allStep srt) [[]]
theorem step_len (f : List (List Int)) (r : List Int) : (allStep srt f r).length = f.length * (srt r).length := by
  unfold allStep
  rw [List.length_flatMap]
  induction f with
  | nil => simp
  | cons c f ih => rw [List.map_cons, List.sum_cons, ih, List.length_map, List.length_cons, Nat.add_mul, Nat.one_mul, Nat.add_comm]
theorem all_len (R : List (List Int)) : ∀ (some : List (List Int)), lenOk R → (R.foldl (allStep srt) some).length ≤ some.length * 9 ^ R.length := by
  induction R with
  | nil => exact fun f _ => by simp
  | cons r R ih =>
    intro f h
    have h2 : (allStep srt f r).length ≤ f.length * 9 := by
      have hs := srt_len r
      have hr := h r (List.mem_cons_self ..)
      unfold allStep
      rw [List.length_flatMap]
      induction f with
      | nil => simp
      | cons c f ihf =>
        simp only [List.map_cons, List.sum_cons, List.length_map, List.length_cons] at ihf ⊢
        omega
    have h1 := ih (allStep srt f r) fun x hx => h x (List.mem_cons_of_mem _ hx)
    rw [List.foldl_cons, List.length_cons, Nat.pow_succ]
    refine Nat.le_trans h1 ?_
    have := Nat.mul_le_mul_right (9 ^ R.length) h2
    rw [show f.length * (9 ^ R.length * 9) = f.length * 9 * 9 ^ R.length by rw [Nat.mul_assoc, Nat.mul_comm 9]]
    exact this
section
variable {bs : List Nat} {S : Store} {n : Nat} {E : EK} {Q : W → Store → Prop}
theorem sort_setC {r : List Int} (h : S[n]? = some (rowC r)) (hl : r.length < 60) (q : Q (.dat (.list ((srt r).map .int))) S) : wpo (sortSetF false bs [.loc n] S) Q := by
  have e : sortSetF false bs [.loc n] S = some (.dat (.list ((srt r).map .int)), S) := by
    unfold sortSetF
    have h1 : lstOf S (.loc n) = some ((r.map PyData.int).map W.dat) := by
      unfold lstOf
      simp only [h, rowC]
      rw [List.map_map]
      rfl
    simp only [h1, Rf.ints_of]
    rw [if_pos hl]
    show some (mkLst _, S) = _
    rw [show ((sortInts (uniq r)).map fun i => W.dat (.int i)) = ((srt r).map PyData.int).map W.dat by rw [List.map_map]; rfl, mkLst_dat]
  unfold wpo
  rw [e]; exact q
/-- a list of pictures: written, or in a cell -/
inductive PicsAt (k : Nat) (S : Store) : W → List (List Int) → Prop
  | dat {L : List (List Int)} : PicsAt k S (.dat (.list (L.map picD))) L
  | loc {i : Nat} {L : List (List Int)} (hk : k ≤ i) (h : S[i]? = some (.lst (L.map fun u => .dat (picD u)))) : PicsAt k S (.loc i) L
theorem wp_law_all {R : List (List Int)} {b : Nat} (h4 : R.length ≤ 4) (hl : lenOk R) (hat : ∀ i < R.length, S[b + i]? = some (rowC (R.getD i [])))
    (q : ∀ w T, PicsAt S.length (S ++ T) w (allOf R) → Q w (S ++ T)) : (F__law_all bs [.lw (locs b R.length)] S).wp Q E := by
  (unfold F__law_all m__law_all; with_reducible refine Rf.wp_fn rfl ?_; simp only [Rf.startE, List.map_cons, List.map_nil, List.length_cons, List.length_nil, Nat.reduceAdd, Nat.reduceSub, List.replicate, List.cons_append, List.nil_append])
  (try array_get_dec)
  refine wp_items (f := fun i => W.loc (b + i)) (xs := List.range R.length) (fun pre env S' => ∃ w x y z u T, env = [some (.lw (locs b R.length)), some w, x, y, z, u] ∧ S' = S ++ T ∧ PicsAt S.length (S ++ T) w ((R.take pre.length).foldl (allStep srt) [[]])) ⟨_, _, _, _, _, [], rfl, by simp, PicsAt.dat (L := [[]])⟩ (fun pre i post env S' hx h => ?_) (fun env S' h => ?_)
  · obtain ⟨w, x, y, z, u, T, rfl, rfl, hw⟩ := h
    obtain ⟨_, rfl, hi⟩ := range_at hx
    generalize hL : (R.take pre.length).foldl (allStep srt) [[]] = L at hw
    have hlow : pre.length ≤ 3 := by omega
    have lL : L.length ≤ 9 ^ 3 := by
      rw [← hL]
      have := all_len (R.take pre.length) [[]] fun x hx => hl x (List.mem_of_mem_take hx)
      refine Nat.le_trans this ?_
      rw [List.length_singleton, Nat.one_mul]
      exact Nat.pow_le_pow_right (by decide) (by rw [List.length_take]; omega)
    have e93 : 9 ^ 3 = 729 := by decide
    have lens : ∀ c ∈ L, c.length ≤ 4 := fun c hc => by
      rw [← hL] at hc
      obtain ⟨b', hb', u, hu, rfl⟩ := (all_mem srt_mem _ _ _).mp hc
      rw [List.mem_singleton.mp hb', List.nil_append]
      obtain ⟨c2, h2⟩ := picks_cut hu
      have := h2.facts.2.1
      rw [List.length_take] at this
      omega
    have iter : ∃ it, iterS (S ++ T ++ [Cell.lst []]) w = some it ∧ (∀ (c : Cell) (p1 p2 : List (List Int)), L = p1 ++ p2 → it.next p1.length (S ++ T ++ [c]) = some (p2.head?.map fun u => W.dat (picD u))) ∧ L.length < it.fuel ∧ w.weak = w := by
      cases hw with
      | dat =>
        refine ⟨_, rfl, fun c p1 p2 e => ?_, by simp [Iter.fuel], rfl⟩
        rw [List.map_map]
        exact next_of (f := W.dat ∘ picD) (S := S ++ T ++ [c]) e
      | loc hk h =>
        have lt := (List.getElem?_eq_some_iff.mp h).1
        rename_i i
        refine ⟨.cell i, ?_, fun c p1 p2 e => ?_, ?_, rfl⟩
        · simp only [iterS, iterA, iterT, tupOf, iterL, at_old h, Option.map_none]
        · show (match (S ++ T ++ [c])[i]? with | some (.lst ws) => some ws[p1.length]? | _ => none : Option (Option W)) = _
          rw [at_old h]
          exact next_of (S := S) e
        · show L.length < 100000
          omega
    obtain ⟨it, i1, i2, i3, i4⟩ := iter
    (try array_get_dec)
    refine wp_var (w := w) rfl ?_
    refine ⟨it, by rw [i4]; exact i1, ?_⟩
    have hrow : R.getD pre.length [] ∈ R := by
      rw [List.getD_eq_getElem?_getD, List.getElem?_eq_getElem hi]
      exact List.getElem_mem _
    have hr9 := hl _ hrow
    generalize hr : R.getD pre.length [] = r at hr9
    have hs9 := srt_len r
    refine wp_forG (f := fun u => W.dat (picD u)) (xs := L) (fun p1 env S' => ∃ c u, env = [some (.lw (locs b R.length)), some w, some (.loc (b + pre.length)), some (.loc (S ++ T).length), c, u] ∧ S' = S ++ T ++ [.lst ((allStep srt p1 r).map fun u => W.dat (picD u))]) (fun p1 p2 env S' hx h => ?_) (fun p1 c p2 env S' hx h => ?_) (fun env S' h => ?_) _ [] L _ _ rfl i3 ⟨_, _, rfl, rfl⟩
    · obtain ⟨c, u, rfl, rfl⟩ := h
      exact i2 _ _ _ hx
    · obtain ⟨c', u', rfl, rfl⟩ := h
      (try array_get_dec)
      refine ⟨ty_loc (at_app1 _ _), ?_⟩
      (try array_get_dec)
      have at1 : (S ++ T ++ [Cell.lst ((allStep srt p1 r).map fun u => W.dat (picD u))])[b + pre.length]? = some (rowC r) := by
        rw [← hr]
        exact at_old (at_old (hat _ hi) T) _
      refine sort_setC at1 (by omega) ?_
      (try array_get_dec)
      rw [List.map_map]
      have lc := lens c (by rw [hx]; simp)
      refine wp_compM (f := W.dat ∘ PyData.int) (xs := srt r) (fun x => .dat (picD (c ++ [x]))) (by omega) (fun x hx => ?_) ?_
      · unfold picD
        (try array_get_dec)
        refine add_tup (by simp; omega) ?_
        refine ⟨?_, rfl⟩
        simp
      · refine nl_map ?_
        (try array_get_dec)
        have lp : p1.length ≤ L.length := by rw [hx]; simp
        have lq : (allStep srt p1 r).length ≤ 729 * 9 := by rw [step_len]; exact Nat.mul_le_mul (by omega) (by omega)
        refine ext_loc (at_app1 _ _) (by rw [List.length_map, List.length_map]; omega) ?_
        refine ⟨_, _, rfl, ?_⟩
        rw [set_app]
        unfold allStep
        rw [List.flatMap_append, List.map_append, List.map_map]
        simp [Function.comp_def]
    · obtain ⟨c, u, rfl, rfl⟩ := h
      (try array_get_dec)
      refine ⟨_, _, _, _, _, T ++ [Cell.lst ((allStep srt L r).map fun u => W.dat (picD u))], rfl, by rw [List.append_assoc], ?_⟩
      refine .loc (by simp) ?_
      rw [← List.append_assoc, at_app1, List.length_append, List.length_singleton, List.take_add_one, List.getElem?_eq_getElem hi, List.foldl_append, hL, ← hr, List.getD_eq_getElem?_getD, List.getElem?_eq_getElem hi]
      rfl
  · obtain ⟨w, x, y, z, u, T, rfl, rfl, hw⟩ := h
    rw [List.length_range, List.take_length] at hw
    (try array_get_dec)
    have := q w
    cases hw with
    | dat => exact rt_app (by have := q _ [] (.dat); rw [List.append_nil] at this; exact this)
    | loc hk h => exact rt_new hk (q _ T (.loc hk h))
end
end V

namespace V
open PySem L2 PyProof.Rows Rf Nm
theorem sortX {ys : List Str} (few : ys.length < 4000) {bs : List Nat} {S : Store} {Q : W → Store → Prop} (q : Q (.dat (.list (((uniq ys).mergeSort sLe).map .str))) S) : wpo (sortSetXF false bs [.dat (.list (ys.map .str))] S) Q := by
  have e : sortSetXF false bs [.dat (.list (ys.map .str))] S = some (.dat (.list (((uniq ys).mergeSort sLe).map .str)), S) := by
    have l : lstOf S (.dat (.list (ys.map .str))) = some ((ys.map PyData.str).map W.dat) := rfl
    cases ys with
    | nil =>
      have : (uniq ([] : List Str)).mergeSort sLe = [] := List.mergeSort_nil
      have s0 : sortInts (uniq ([] : List Int)) = [] := (sortInts_eq (ns := uniq ([] : List Int)) (ms := []) (by decide) (by decide)).symm
      rw [this]
      have f1 : sortSetF false bs [.dat (.list (([] : List Str).map .str))] S = some (.dat (.list []), S) := by
        show (if 0 < 60 then some (newL false ((sortInts (uniq ([] : List Int))).map fun i => W.dat (.int i)) S) else none) = _
        rw [s0]; rfl
      unfold sortSetXF
      rw [f1]; rfl
    | cons y ys =>
      have i : intsW (((y :: ys).map PyData.str).map W.dat) = none := rfl
      have a : (allDat (((y :: ys).map PyData.str).map W.dat)).bind rowsID = none := by rw [allDat_map]; rfl
      have s : strsW (((y :: ys).map PyData.str).map W.dat) = some (y :: ys) := by
        generalize y :: ys = l
        induction l with
        | nil => rfl
        | cons z l ih => simp only [List.map_cons, strsW, ih]; rfl
      have f1 : sortSetF false bs [.dat (.list ((y :: ys).map .str))] S = none := by
        unfold sortSetF
        dsimp only
        simp only [l, i, a]
      unfold sortSetXF
      simp only [f1, l, Option.bind_some, s, if_pos few]
      show some (mkLst _, S) = _
      rw [show (((uniq (y :: ys)).mergeSort sLe).map fun y => W.dat (.str y)) = (((uniq (y :: ys)).mergeSort sLe).map PyData.str).map W.dat by rw [List.map_map]; rfl, mkLst_dat]
  unfold wpo
  rw [e]; exact q
theorem sorted_strict {ys : List Str} : ((uniq ys).mergeSort sLe).Pairwise ltS := by
  have h1 := strs_up (uniq ys)
  have h2 : ((uniq ys).mergeSort sLe).Nodup := (List.mergeSort_perm _ _).nodup_iff.mpr (uniq_nodup ys)
  refine (List.pairwise_and_iff.mpr ⟨h1, h2⟩).imp fun {a b} ⟨h, ne⟩ => ?_
  unfold sLe at h
  unfold ltS
  rw [decide_eq_true_iff] at h
  by_cases z : a.cps.toList < b.cps.toList
  · exact z
  · exact absurd (str_ext (List.le_antisymm h (List.not_lt.mp z))) ne
theorem all_lenK {k : Nat} (R : List (List Int)) : ∀ (some : List (List Int)), (∀ r ∈ R, r.length ≤ k) → (R.foldl (allStep srt) some).length ≤ some.length * k ^ R.length := by
  induction R with
  | nil => exact fun f _ => by simp
  | cons r R ih =>
    intro f h
    have hs := srt_len r
    have hr := h r (List.mem_cons_self ..)
    have h2 : (allStep srt f r).length ≤ f.length * k := by rw [step_len]; exact Nat.mul_le_mul_left _ (by omega)
    have h1 := ih (allStep srt f r) fun x hx => h x (List.mem_cons_of_mem _ hx)
    rw [List.foldl_cons, List.length_cons, Nat.pow_succ]
    refine Nat.le_trans h1 ?_
    have := Nat.mul_le_mul_right (k ^ R.length) h2
    rw [show f.length * (k ^ R.length * k) = f.length * k * k ^ R.length by rw [Nat.mul_assoc, Nat.mul_comm k]]
    exact this
theorem vers_lens7 {p : List Int} {ws : List (Nat × Int)} {l m : Nat} (h6 : ws.length ≤ 6) : ∀ r ∈ vers p ws l m, r.length ≤ 7 := by
  intro r hr
  obtain ⟨i, hi, rfl⟩ := List.mem_iff_getElem.mp hr
  have := steps_len ((ws.take m).drop l) i (single (laid p (ws.take l)))
  have h1 := single_len (laid p (ws.take l)) i
  have e : ((vers p ws l m).getD i []).length = (vers p ws l m)[i].length := by rw [List.getD_eq_getElem?_getD, List.getElem?_eq_getElem hi]; rfl
  have e2 : ((ws.take m).drop l).length ≤ ws.length := by rw [List.length_drop, List.length_take]; omega
  unfold vers at e ⊢
  omega
theorem all_few {R : List (List Int)} (h4 : R.length ≤ 4) (h7 : ∀ r ∈ R, r.length ≤ 7) : (allOf R).length ≤ 2401 := by
  have := all_lenK R [[]] h7
  rw [List.length_singleton, Nat.one_mul] at this
  refine Nat.le_trans this (Nat.le_trans (Nat.pow_le_pow_right (by decide) h4) (by decide))
def namesOf (rules : List Rule) (R : List (List Int)) : List Str := (uniq ((allOf R).filterMap (meanB rules))).mergeSort sLe
theorem PicsAt.iter {k : Nat} {S : Store} {w : W} {L : List (List Int)} (h : PicsAt k S w L) (hl : L.length < 100000) : ∃ it, iterS S w = some it ∧ (∀ (p1 p2 : List (List Int)), L = p1 ++ p2 → it.next p1.length S = some (p2.head?.map fun u => W.dat (picD u))) ∧ L.length < it.fuel ∧ w.weak = w := by
  cases h with
  | dat =>
    refine ⟨_, rfl, fun p1 p2 e => ?_, by simp [Iter.fuel], rfl⟩
    rw [List.map_map]
    exact next_of (f := W.dat ∘ picD) (S := S) e
  | loc hk h =>
    rename_i i
    refine ⟨.cell i, ?_, fun p1 p2 e => ?_, hl, rfl⟩
    · simp only [iterS, iterA, iterT, tupOf, iterL, h, Option.map_none]
    · show (match S[i]? with | some (.lst ws) => some ws[p1.length]? | _ => none : Option (Option W)) = _
      rw [h]
      exact next_of (S := S) e
section
variable {bs : List Nat} {S : Store} {n : Nat} {E : EK} {Q : W → Store → Prop}
theorem ev_law_names {p : List Int} {ws : List (Nat × Int)} {gaps : List Nat} {rules : List Rule} {m : Nat} (hp1 : 1 ≤ p.length) (hp4 : p.length ≤ 4) (h6 : ws.length ≤ 6) (hf : writesOk p ws) (hm : m ≤ ws.length) (h24 : rules.length ≤ 24) (hr : ∀ r ∈ rules, ruleOk p.length r) :
    F__law_names bs [.dat (picD p), .dat (wsD ws), .dat (gpD gaps), .dat (rsD rules), .dat (.int m)] S = .ok (.dat (nsD (namesOf rules (vers p ws (lastG gaps m) m)))) S := by
  have h7 := vers_lens7 (p := p) (l := lastG gaps m) (m := m) h6
  have hR4 : (vers p ws (lastG gaps m) m).length ≤ 4 := by rw [len_vers]; exact hp4
  have few := all_few hR4 h7
  refine eq_of_wp ?_
  (unfold F__law_names m__law_names; with_reducible refine Rf.wp_fn rfl ?_; simp only [Rf.startE, List.map_cons, List.map_nil, List.length_cons, List.length_nil, Nat.reduceAdd, Nat.reduceSub, List.replicate, List.cons_append, List.nil_append])
  (try array_get_dec)
  refine wp_law_rows hp1 (by omega) (by omega) hf hm fun X => ?_
  (try array_get_dec)
  have eX : (S ++ X).length = S.length + X.length := List.length_append
  rw [← eX, ← len_vers p ws (lastG gaps m) m]
  refine wp_law_all hR4 (vers_lens (by omega)) (fun i hi => rows_at hi) fun w T hw => ?_
  obtain ⟨it, i1, i2, i3, i4⟩ := hw.iter (by unfold allOf at *; omega)
  refine ⟨it, i1, ?_⟩
  have e2 : S ++ X ++ (vers p ws (lastG gaps m) m).map rowC ++ T = S ++ (X ++ ((vers p ws (lastG gaps m) m).map rowC ++ T)) := by simp
  rw [e2] at i2 ⊢
  clear hw i1 e2
  generalize X ++ ((vers p ws (lastG gaps m) m).map rowC ++ T) = Y at i2 ⊢
  generalize hA : allOf (vers p ws (lastG gaps m) m) = A at i2 i3 few
  refine wp_compG (f := fun u => W.dat (picD u)) (xs := A) (fun pre acc S' => acc = pre.map (fun u => W.dat (optS (meanB rules u))) ∧ S' = S ++ Y) (fun p1 p2 acc S' hx h => ?_) (fun p1 u p2 acc S' hx h => ?_) (fun acc S' h => ?_) _ [] A [] _ rfl i3 ⟨rfl, rfl⟩
  · rw [h.2]
    exact i2 _ _ hx
  · obtain ⟨rfl, rfl⟩ := h
    have := congrArg List.length hx
    rw [List.length_append, List.length_cons] at this
    (try array_get_dec)
    refine wp_eq (ev_law_meaning u rules p.length (by omega) h24 hr) ?_
    exact ⟨by rw [List.length_map]; omega, by simp, rfl⟩
  · obtain ⟨rfl, rfl⟩ := h
    refine nl_map ?_
    (try array_get_dec)
    rw [List.map_map]
    refine wp_compP (f := W.dat ∘ fun u => optS (meanB rules u)) (xs := A) (fun u => (meanB rules u).map fun z => .dat (.str z)) (by omega) (fun u hu => ?_) ?_
    · cases hm2 : meanB rules u with
      | none =>
        rw [Function.comp_apply, hm2]
        dsimp only [optS]
        (try array_get_dec)
        exact ⟨rfl, rfl⟩
      | some z =>
        rw [Function.comp_apply, hm2]
        dsimp only [optS]
        (try array_get_dec)
        exact ⟨rfl, rfl⟩
    · have e3 : A.filterMap (fun u => (meanB rules u).map fun z => W.dat (.str z)) = ((A.filterMap (meanB rules)).map PyData.str).map W.dat := by
        rw [List.map_map, List.map_filterMap]
        rfl
      rw [e3]
      refine nl_dat ?_
      (try array_get_dec)
      refine sortX (by have := List.length_filterMap_le (meanB rules) A; omega) ?_
      (try array_get_dec)
      rw [← hA]
      exact ⟨rfl, rfl⟩
end
end V

namespace V
open PySem L2 PyProof.Rows Rf Nm
/-- the law's own word: every picture that may be left is kept -/
def keptB (p : List Int) (ws : List (Nat × Int)) (gaps : List Nat) (rules : List Rule) (pr : List (List Str)) : Bool := (List.range pr.length).all fun m => !((allOf (vers p ws (lastG gaps m) m)).any fun u => badP rules (pr.getD m []) u)
theorem kept_is {p : List Int} {ws : List (Nat × Int)} {gaps : List Nat} {rules : List Rule} {pr : List (List Str)} (h : pr.length = ws.length + 1) : noneOf p ws gaps rules pr = keptB p ws gaps rules pr := by
  rw [noneOf_is]
  unfold keptB
  rw [h]
  congr 1
  funext m
  rw [show allOf (vers p ws (lastG gaps m) m) = (vers p ws (lastG gaps m) m).foldl (allStep srt) [[]] from rfl, all_cuts srt_mem]
theorem none_bad {α : Type} {f : α → PyData} {P : α → Bool} (A : List α) : ((A.filter P).map f).isEmpty = !(A.any P) := by
  induction A with
  | nil => rfl
  | cons u A ih => cases h : P u <;> simp_all
theorem zip_at2 {pr : List (List Str)} {pre post : List (W × Nat)} {q : W × Nat} (h : ((pr.map nsD).map W.dat).zipIdx = pre ++ q :: post) : q = (.dat (nsD (pr.getD pre.length [])), pre.length) ∧ pre.length < pr.length := by
  have e := congrArg (fun l => l[pre.length]?) h
  simp only [List.getElem?_append_right (Nat.le_refl pre.length), Nat.sub_self, List.getElem?_cons_zero, List.getElem?_zipIdx, List.getElem?_map, Nat.zero_add] at e
  have hl := congrArg List.length h
  rw [List.length_zipIdx, List.length_map, List.length_map, List.length_append, List.length_cons] at hl
  have lt : pre.length < pr.length := by omega
  rw [List.getElem?_eq_getElem lt] at e
  simp only [Option.map_some, Option.some.injEq] at e
  refine ⟨?_, lt⟩
  rw [← e, List.getD_eq_getElem?_getD, List.getElem?_eq_getElem lt]
  rfl
theorem pd_pic {u : List Int} : PD 10 (picD u) := PD.mono (pd_tup (n := 0) fun x hx => by
  obtain ⟨i, _, rfl⟩ := List.mem_map.mp hx
  exact pd_int _) (by decide)
section
variable {bs : List Nat} {S : Store} {n : Nat} {E : EK} {Q : W → Store → Prop}
theorem ev_law_is_kept {p : List Int} {ws : List (Nat × Int)} {gaps : List Nat} {rules : List Rule} {pr : List (List Str)} (h : PlanOk p ws gaps rules pr) (hp4 : p.length ≤ 4) (h6 : ws.length ≤ 6) :
    F__law_is_kept bs [.dat (picD p), .dat (wsD ws), .dat (gpD gaps), .dat (rsD rules), .dat (prD pr)] S = .ok (.dat (.bool (keptB p ws gaps rules pr))) S := by
  refine eq_of_wp ?_
  (unfold F__law_is_kept m__law_is_kept; with_reducible refine Rf.wp_fn rfl ?_; simp only [Rf.startE, List.map_cons, List.map_nil, List.length_cons, List.length_nil, Nat.reduceAdd, Nat.reduceSub, List.replicate, List.cons_append, List.nil_append])
  (try array_get_dec)
  refine wp_enmT (xs := pr.map nsD) ?_
  (try array_get_dec)
  refine ⟨rfl, ?_⟩
  refine wp_forG (f := fun q : W × Nat => mkTup [.dat (.int (q.2 : Nat)), q.1]) (xs := ((pr.map nsD).map W.dat).zipIdx) (fun pre env S' => ∃ a b c d Y, env = [some (.dat (picD p)), some (.dat (wsD ws)), some (.dat (gpD gaps)), some (.dat (rsD rules)), some (.dat (prD pr)), a, b, c, d] ∧ S' = S ++ Y ∧ ∀ m < pre.length, ((allOf (vers p ws (lastG gaps m) m)).any fun u => badP rules (pr.getD m []) u) = false) (fun pre post env S' hx _ => enm_next hx) (fun pre q post env S' hx hI => ?_) (fun env S' hI => ?_) _ [] _ _ _ rfl (by show _ < ((pr.map nsD).map W.dat).length + 1; simp) ⟨_, _, _, _, [], rfl, by simp, fun m hm => nomatch hm⟩
  · obtain ⟨a, b, c, d, Y, rfl, rfl, hp⟩ := hI
    have hq : q = (.dat (nsD (pr.getD pre.length [])), pre.length) ∧ pre.length < pr.length := zip_at2 hx
    obtain ⟨rfl, hpl⟩ := hq
    refine wp_body ?_
    refine wp_tTup (w := .dat (.tuple [.int (pre.length : Nat), nsD (pr.getD pre.length [])])) (ws := [.dat (.int (pre.length : Nat)), .dat (nsD (pr.getD pre.length []))]) rfl rfl (wp_tCons (wp_name (wp_tCons (wp_name (wp_tNil ?_)))))
    have hm : pre.length ≤ ws.length := by have := h.ml; omega
    have h7 := vers_lens7 (p := p) (l := lastG gaps pre.length) (m := pre.length) h6
    have hR4 : (vers p ws (lastG gaps pre.length) pre.length).length ≤ 4 := by rw [len_vers]; exact hp4
    have few := all_few hR4 h7
    (try array_get_dec)
    refine wp_law_rows h.p1 h.p6 h.w8 h.wf hm fun X => ?_
    (try array_get_dec)
    rw [← List.length_append, ← len_vers p ws (lastG gaps pre.length) pre.length]
    refine wp_law_all hR4 (vers_lens h.w8) (fun i hi => rows_at hi) fun w T hw => ?_
    obtain ⟨it, i1, i2, i3, i4⟩ := hw.iter (by omega)
    have e2 : S ++ Y ++ X ++ (vers p ws (lastG gaps pre.length) pre.length).map rowC ++ T = S ++ (Y ++ (X ++ ((vers p ws (lastG gaps pre.length) pre.length).map rowC ++ T))) := by simp
    rw [e2] at i1 i2 ⊢
    clear hw e2
    generalize Y ++ (X ++ ((vers p ws (lastG gaps pre.length) pre.length).map rowC ++ T)) = Z at i1 i2 ⊢
    (try array_get_dec)
    refine wp_var (w := w) rfl ?_
    refine ⟨it, by rw [i4]; exact i1, ?_⟩
    generalize hA : allOf (vers p ws (lastG gaps pre.length) pre.length) = A at i2 i3 few
    generalize hN : pr.getD pre.length [] = N at hx
    refine wp_compG (f := fun u => W.dat (picD u)) (xs := A) (fun p1 acc S' => acc = (p1.filter (badP rules N)).map (fun u => W.dat (picD u)) ∧ S' = S ++ Z) (fun p1 p2 acc S' hx h => ?_) (fun p1 u p2 acc S' hx hI => ?_) (fun acc S' hI => ?_) _ [] A [] _ rfl i3 ⟨rfl, rfl⟩
    · rw [h.2]
      exact i2 _ _ hx
    · obtain ⟨rfl, rfl⟩ := hI
      have hl := congrArg List.length hx
      rw [List.length_append, List.length_cons] at hl
      have hl2 := List.length_filter_le (badP rules N) p1
      (try array_get_dec)
      refine wp_eq (ev_law_meaning u rules p.length h.p6 h.r24 h.rf) ?_
      (try array_get_dec)
      refine in_names ?_
      rw [show badN N (meanB rules u) = badP rules N u from rfl]
      cases hb : badP rules N u with
      | true =>
        (try array_get_dec)
        refine ⟨by rw [List.length_map]; omega, ?_, rfl⟩
        rw [List.filter_append, List.map_append]
        simp [hb]
      | false =>
        (try array_get_dec)
        refine ⟨?_, rfl⟩
        rw [List.filter_append, List.map_append]
        simp [hb]
    · obtain ⟨rfl, rfl⟩ := hI
      refine nl_map ?_
      (try array_get_dec)
      refine nil_of (fun x hx => ?_) ?_
      · obtain ⟨u, _, rfl⟩ := List.mem_map.mp hx
        exact pd_pic
      · rw [none_bad, show ((!A.any (badP rules N)) != true) = A.any (badP rules N) by cases A.any (badP rules N) <;> rfl]
        have hm2 : pre.length ∈ List.range pr.length := List.mem_range.mpr hpl
        cases hb : A.any (badP rules N) with
        | true =>
          (try array_get_dec)
          refine ⟨?_, rfl⟩
          have : keptB p ws gaps rules pr = false := by
            unfold keptB
            refine List.all_eq_false.mpr ⟨pre.length, hm2, ?_⟩
            rw [hA, hN, hb]
            exact Bool.false_ne_true
          rw [this]
        | false =>
          (try array_get_dec)
          refine ⟨_, _, _, _, Z, rfl, rfl, fun m hm => ?_⟩
          rw [List.length_append, List.length_singleton] at hm
          by_cases e : m < pre.length
          · exact hp m e
          · have : m = pre.length := by omega
            subst this
            rw [hA, hN]
            exact hb
  · obtain ⟨a, b, c, d, Y, rfl, rfl, hp⟩ := hI
    (try array_get_dec)
    rw [List.length_zipIdx, List.length_map, List.length_map] at hp
    have : keptB p ws gaps rules pr = true := by
      unfold keptB
      refine List.all_eq_true.mpr fun m hm => ?_
      rw [hp m (List.mem_range.mp hm)]
      rfl
    rw [this]
    exact ⟨rfl, rfl⟩
end
end V

namespace V
open PySem L2 PyProof.Rows Rf Nm
theorem zip_range {α β : Type} {l : List α} {u : List β} {a : α} {b : β} {k : Nat} (hl : l.length = k) (hu : u.length = k) : l.zip u = (List.range k).map fun j => (l.getD j a, u.getD j b) := by
  refine List.ext_getElem? fun i => ?_
  rw [List.getElem?_map]
  by_cases h : i < k
  · rw [List.getElem?_range h, List.getElem?_eq_getElem (by rw [List.length_zip]; omega), List.getElem_zip]
    show _ = some (l.getD i a, u.getD i b)
    rw [List.getD_eq_getElem?_getD, List.getD_eq_getElem?_getD, List.getElem?_eq_getElem (by omega), List.getElem?_eq_getElem (by omega)]
    rfl
  · rw [List.getElem?_eq_none (by rw [List.length_zip]; omega), List.getElem?_eq_none (by simpa using h)]
    rfl
section
variable {bs : List Nat} {S : Store} {n : Nat} {E : EK}
/-- a comprehension over zip of cells and a tuple -/
theorem wp_compZL {is : List PyData} {b k : Nat} {t : TM} {c : M Bool} {e : M W} {env : Rf.Env} {Q : List W → Store → Prop} (g : Nat → Option W) (hk : is.length = k) (hl : k ≤ 100000)
    (step : ∀ j < k, (t (.tw [.loc (b + j), .dat (is.getD j .none)]) bs env S).wp (fun env1 S1 => (c bs env1 S1).wp (fun z S2 => (z = true → (e bs env1 S2).wp (fun y S3 => g j = some y ∧ S3 = S) NoE) ∧ (z = false → g j = none ∧ S2 = S)) NoE) NoE)
    (q : Q ((List.range k).filterMap g) S) : (compG (.zip (.items (locs b k)) (.items (is.map .dat))) t c e (Iter.zip (.items (locs b k)) (.items (is.map .dat))).fuel 0 [] bs env S).wp Q E := by
  have ll : (locs b k).length = k := by unfold locs; simp
  have ez : (locs b k).zip (is.map W.dat) = (List.range k).map fun j => (W.loc (b + j), W.dat (is.getD j .none)) := by
    rw [zip_range (a := W.loc 0) (b := W.dat .none) ll (by rw [List.length_map]; exact hk)]
    refine List.map_congr_left fun j hj => ?_
    have hj := List.mem_range.mp hj
    have e1 : (locs b k).getD j (W.loc 0) = W.loc (b + j) := by unfold locs; simp [hj]
    have e2 : (is.map W.dat).getD j (W.dat .none) = W.dat (is.getD j .none) := by
      rw [List.getD_eq_getElem?_getD, List.getElem?_map, List.getD_eq_getElem?_getD, List.getElem?_eq_getElem (by omega)]
      rfl
    rw [e1, e2]
  refine wp_compG (f := fun j => W.tw [.loc (b + j), .dat (is.getD j .none)]) (xs := List.range k) (fun pre acc S' => acc = pre.filterMap g ∧ S' = S) (fun pre post acc S hx _ => ?_) (fun pre x post acc S' hx ⟨h1, h2⟩ => ?_) (fun acc S' ⟨h1, h2⟩ => by subst h1 h2; exact q) _ [] (List.range k) [] S rfl (by show (List.range k).length < (locs b k).length + 1; simp [ll]) ⟨rfl, rfl⟩
  · have e1 := ez
    rw [hx, List.map_append] at e1
    have := zip_next_of (S := S) e1
    rw [List.length_map] at this
    rw [this]
    cases post <;> rfl
  · subst h2
    obtain ⟨_, rfl, hm⟩ := range_at hx
    refine (step _ hm).imp fun env1 S1 h3 => h3.imp fun z S2 h4 => ⟨fun hb => (h4.1 hb).imp fun y S3 ⟨h5, h6⟩ => ⟨?_, ?_, h6⟩, fun hb => ⟨?_, (h4.2 hb).2⟩⟩
    · have l2 : (pre.filterMap g).length ≤ pre.length := List.length_filterMap_le ..
      rw [h1]; omega
    · rw [List.filterMap_append, h1]; simp [h5]
    · rw [List.filterMap_append, h1]; simp [(h4.2 hb).1]
theorem wp_zipLT {is : List PyData} {b k : Nat} {ms : M (List W)} {env : Rf.Env} {Q : Iter → Store → Prop} (h : (ms bs env S).wp (fun ws S1 => ws = [.lw (locs b k), .dat (.tuple is)] ∧ Q (.zip (.items (locs b k)) (.items (is.map .dat))) S1) E) : (mZipB true false ms bs env S).wp Q E := bind_wp (h.imp fun ws S1 ⟨e, q⟩ => by subst e; exact q)
theorem due_bad {p : List Int} {ws : List (Nat × Int)} {gaps : List Nat} {rules : List Rule} {pr : List (List Str)} {l : List PyData} (hn : ¬ (l.length : Int) = 2) : dueB p ws gaps rules pr (.tuple l) = false := by
  unfold dueB
  split
  · rename_i heq
    cases heq
    exact absurd rfl hn
  · rfl
theorem ev_law_is_due {p : List Int} {ws : List (Nat × Int)} {gaps : List Nat} {rules : List Rule} {pr : List (List Str)} (h : PlanOk p ws gaps rules pr) (d : PyData) :
    F__law_is_due bs [.dat (picD p), .dat (wsD ws), .dat (gpD gaps), .dat (rsD rules), .dat (prD pr), .dat d] S = .ok (.dat (.bool (dueB p ws gaps rules pr d))) S := by
  refine eq_of_wp ?_
  (unfold F__law_is_due m__law_is_due; with_reducible refine Rf.wp_fn rfl ?_; simp only [Rf.startE, List.map_cons, List.map_nil, List.length_cons, List.length_nil, Nat.reduceAdd, Nat.reduceSub, List.replicate, List.cons_append, List.nil_append])
  cases d with
  | tuple l =>
    (try array_get_dec)
    refine ifN (fun hn => ?_) (fun hn => ?_)
    · obtain ⟨m, c, rfl⟩ : ∃ m c, l = [m, c] := by
        match l, hn with
        | [m, c], _ => exact ⟨m, c, rfl⟩
        | [], hn => exact absurd hn (by decide)
        | [_], hn => exact absurd hn (by simp)
        | _ :: _ :: _ :: _, hn => exact absurd hn (by simp; omega)
      (try array_get_dec)
      refine ix_tup rfl ?_
      unfold wsD
      (try array_get_dec)
      rw [List.length_map]
      refine wp_eq (ev_law_is_whole _ _) ?_
      rw [show ((ws.length : Int) + 1 - 1) = (ws.length : Nat) by omega]
      cases hm : isNum 0 (ws.length : Nat) m with
      | false =>
        rw [due_no hm]
        (try array_get_dec)
        exact ⟨rfl, rfl⟩
      | true =>
        obtain ⟨j, rfl, hj⟩ := isNum_nat hm
        rw [due_yes hj]
        (try array_get_dec)
        refine ix_tup rfl ?_
        (try array_get_dec)
        refine wp_law_rows h.p1 h.p6 h.w8 h.wf hj fun X => ?_
        (try array_get_dec)
        refine ix_tup rfl ?_
        have hR : (vers p ws (lastG gaps j) j).length = p.length := len_vers _ _ _ _
        have ll : (locs (S.length + X.length) p.length).length = p.length := by unfold locs; simp
        have eX : (S ++ X).length = S.length + X.length := List.length_append
        have hp6 := h.p6
        have hpr : j < pr.length := by have := h.ml; omega
        have at1 : ∀ i < p.length, (S ++ X ++ (vers p ws (lastG gaps j) j).map rowC)[S.length + X.length + i]? = some (.lst (((vers p ws (lastG gaps j) j).getD i []).map fun x => .dat (.int x))) := fun i hi => by
          rw [← eX]
          exact rows_at (by omega)
        generalize vers p ws (lastG gaps j) j = R at hR at1 ⊢
        have ht : List.take S.length (S ++ X ++ R.map rowC) = S := by rw [List.append_assoc]; simp
        cases c with
        | tuple is =>
          (try array_get_dec)
          rw [ll]
          refine ifN (fun h2 => ?_) (fun h2 => ?_)
          · have h2 : is.length = p.length := by omega
            have ez : is.zip R = (List.range p.length).map fun i => (is.getD i .none, R.getD i []) := zip_range h2 hR
            (try array_get_dec)
            refine wp_zipLT (is := is) (b := S.length + X.length) (k := p.length) ?_
            (try array_get_dec)
            refine ⟨rfl, ?_⟩
            refine wp_compZL (fun i => if fitIx (is.getD i .none, R.getD i []) = true then none else some (.dat (.int 1))) h2 (by omega) (fun i hi => ?_) ?_
            · refine wp_tTup (ws := [.loc (S.length + X.length + i), .dat (is.getD i .none)]) rfl rfl (wp_tCons (wp_name (wp_tCons (wp_name (wp_tNil ?_)))))
              (try array_get_dec)
              refine len_loc (at1 i hi) ?_
              (try array_get_dec)
              rw [List.length_map]
              refine wp_eq (ev_law_is_whole _ _) ?_
              rw [show isNum 0 (((R.getD i []).length : Int) - 1) (is.getD i .none) = fitIx (is.getD i .none, R.getD i []) from rfl]
              cases fitIx (is.getD i .none, R.getD i []) with
              | true =>
                (try array_get_dec)
                exact ⟨rfl, rfl⟩
              | false =>
                (try array_get_dec)
                exact ⟨rfl, rfl⟩
            · rw [ones_are (p := fun i => fitIx (is.getD i .none, R.getD i [])) (f := fun _ => .int 1)]
              refine nl_dat ?_
              (try array_get_dec)
              refine nil_of (fun x hx => ?_) ?_
              · obtain ⟨_, _, rfl⟩ := List.mem_map.mp hx
                exact pd_int _
              · rw [ones_nil]
                have ea : ((List.range p.length).all fun i => fitIx (is.getD i .none, R.getD i [])) = (is.zip R).all fitIx := by
                  rw [ez, List.all_map]
                  rfl
                rw [ea, show ((is.zip R).all fitIx != true) = !((is.zip R).all fitIx) by cases (is.zip R).all fitIx <;> rfl]
                cases hf : (is.zip R).all fitIx with
                | false =>
                  (try array_get_dec)
                  have : leftOf R (.tuple is) = none := if_neg (fun z => by rw [hf] at z; exact Bool.false_ne_true z.2)
                  rw [this]
                  exact ⟨rfl, ht⟩
                | true =>
                  have e : leftOf R (.tuple is) = some ((is.zip R).map fun q => q.2.getD (ixOf q.1) 0) := if_pos ⟨by omega, hf⟩
                  rw [e]
                  (try array_get_dec)
                  have fit : ∀ i < p.length, fitIx (is.getD i .none, R.getD i []) = true := fun i hi => by
                    rw [← ea] at hf
                    exact List.all_eq_true.mp hf i (List.mem_range.mpr hi)
                  refine wp_zipLT (is := is) (b := S.length + X.length) (k := p.length) ?_
                  (try array_get_dec)
                  refine ⟨rfl, ?_⟩
                  refine wp_compZL (fun i => some (.dat (.int ((R.getD i []).getD (ixOf (is.getD i .none)) 0)))) h2 (by omega) (fun i hi => ?_) ?_
                  · refine wp_tTup (ws := [.loc (S.length + X.length + i), .dat (is.getD i .none)]) rfl rfl (wp_tCons (wp_name (wp_tCons (wp_name (wp_tNil ?_)))))
                    obtain ⟨k, k1, k2, k3⟩ := ix_fit (fit i hi)
                    dsimp only at k1 k2 k3
                    rw [k1] at k3 ⊢
                    (try array_get_dec)
                    refine ix_loc (at1 i hi) (atI_ofNat (w := .dat (.int (R.getD i [])[k])) (by simp [k2])) ?_
                    refine ⟨?_, rfl⟩
                    rw [k3, List.getD_eq_getElem?_getD (l := R.getD i []), List.getElem?_eq_getElem k2]
                    rfl
                  · rw [List.filterMap_eq_map']
                    refine nl_map ?_
                    (try array_get_dec)
                    have eu : ((List.range p.length).map fun i => PyData.int ((R.getD i []).getD (ixOf (is.getD i .none)) 0)) = (((is.zip R).map fun q => q.2.getD (ixOf q.1) 0).map PyData.int) := by
                      rw [ez, List.map_map, List.map_map]
                      rfl
                    rw [eu]
                    generalize (is.zip R).map (fun q => q.2.getD (ixOf q.1) 0) = u
                    refine wp_eq (ev_law_meaning u rules p.length hp6 h.r24 h.rf) ?_
                    (try array_get_dec)
                    refine ix_tup rfl ?_
                    unfold prD
                    (try array_get_dec)
                    refine ix_tup (d := nsD pr[j]) (atI_ofNat (by simp [hpr])) ?_
                    refine in_names ?_
                    have eb : badN pr[j] (meanB rules u) = badP rules (pr.getD j []) u := by
                      unfold badP
                      rw [List.getD_eq_getElem?_getD, List.getElem?_eq_getElem hpr]
                      rfl
                    rw [eb]
                    (try array_get_dec)
                    exact ⟨rfl, ht⟩
          · (try array_get_dec)
            have : leftOf R (.tuple is) = none := if_neg (fun z => h2 (by omega))
            rw [this]
            exact ⟨rfl, ht⟩
        | _ =>
          (try array_get_dec)
          exact ⟨rfl, ht⟩
    · (try array_get_dec)
      rw [due_bad hn]
      exact ⟨rfl, rfl⟩
  | _ =>
    (try array_get_dec)
    exact ⟨rfl, rfl⟩
end
end V

namespace V
open PySem L2 PyProof.Rows Rf Nm

/-! ### draws -/
section
variable {bs : List Nat} {S : Store} {n : Nat} {E : EK}
theorem wp_drop (hv : Vat S n) {t : Int} (ht : 0 < t) (ht2 : t ≤ 1000000000000000000) : (F__law_dip bs [.loc n, .dat (.int t)] S).wp (fun w S' => DW n S (fun w => ∃ r : Int, w = .dat (.int r) ∧ 0 ≤ r ∧ r < t) w S') E := by
  have hn := hv.lt
  obtain ⟨a, b, c, e⟩ := hv
  have res : ∀ x : Int, ∃ r : Int, W.dat (.int (x % t)) = .dat (.int r) ∧ 0 ≤ r ∧ r < t := fun x => ⟨x % t, rfl, Int.emod_nonneg _ (by omega), Int.emod_lt_of_pos _ ht⟩
  (unfold F__law_dip m__law_dip; with_reducible refine Rf.wp_fn rfl ?_; simp only [Rf.startE, List.map_cons, List.map_nil, List.length_cons, List.length_nil, Nat.reduceAdd, Nat.reduceSub, List.replicate, List.cons_append, List.nil_append])
  (try array_get_dec)
  refine ix_loc (w := .int a) e rfl ?_
  (try array_get_dec)
  refine ifD (fun h => ?_) (fun h => ?_)
  · (try array_get_dec)
    refine ix_loc (w := .int a) e rfl ?_
    (try array_get_dec)
    refine ix_loc (w := .int a) e rfl ?_
    (try array_get_dec)
    refine wp_tSub ?_
    (try array_get_dec)
    refine set_loc (m := 0) e rfl ?_
    (try array_get_dec)
    refine rt_len (by simp) ⟨res _, drawn_set hn _ _ _⟩
  · (try array_get_dec)
    refine ix_loc (w := .int c) e rfl ?_
    (try array_get_dec)
    refine wp_tSub ?_
    (try array_get_dec)
    refine set_loc (m := 2) e rfl ?_
    have e1 : (S.set n (.lst [.int a, .int b, .int (c + 1)]))[n]? = some (.lst [.int a, .int b, .int (c + 1)]) := List.getElem?_set_self hn
    show SO.wp _ _ _ _ _ _
    (try array_get_dec)
    refine ix_loc (w := .int b) e1 rfl ?_
    (try array_get_dec)
    refine ix_loc (w := .int (c + 1)) e1 rfl ?_
    (try array_get_dec)
    refine ix_loc (w := .int (c + 1)) e1 rfl ?_
    (try array_get_dec)
    refine rt_len (by simp) ⟨res _, drawn_set hn _ _ _⟩
theorem wp_taste (hv : Vat S n) {ds : List PyData} (h0 : ds ≠ []) (hl : ds.length ≤ 100000) : (F__law_taste bs [.loc n, .dat (.list ds)] S).wp (fun w S' => DW n S (fun w => ∃ d ∈ ds, w = .dat d) w S') E := by
  have hp : 0 < ds.length := List.length_pos_iff.mpr h0
  (unfold F__law_taste m__law_taste; with_reducible refine Rf.wp_fn rfl ?_; simp only [Rf.startE, List.map_cons, List.map_nil, List.length_cons, List.length_nil, Nat.reduceAdd, Nat.reduceSub, List.replicate, List.cons_append, List.nil_append])
  (try array_get_dec)
  refine (wp_drop hv (by omega) (by omega)).use fun w S' ⟨⟨r, hw, r0, r1⟩, hd⟩ => ?_
  subst hw
  (try array_get_dec)
  obtain ⟨k, rfl⟩ := Int.eq_ofNat_of_zero_le r0
  have hk : k < ds.length := by omega
  refine ix_lst (d := ds[k]) (atI_ofNat (List.getElem?_eq_getElem hk)) ?_
  exact rt_len hd.len ⟨⟨_, List.getElem_mem hk, rfl⟩, hd⟩
theorem wp_vat (ns : List Int) (k : Nat) : (F__law_bowl bs [.lw (ns.map fun n => .dat (.int n)), .dat (.int k)] S).wp (fun w S' => w = .loc S.length ∧ ∃ a b c : Int, S' = S ++ [.lst [.int a, .int b, .int c]]) E := by
  (unfold F__law_bowl m__law_bowl; with_reducible refine Rf.wp_fn rfl ?_; simp only [Rf.startE, List.map_cons, List.map_nil, List.length_cons, List.length_nil, Nat.reduceAdd, Nat.reduceSub, List.replicate, List.cons_append, List.nil_append])
  (try array_get_dec)
  refine ifD (fun h => ?_) (fun h => ?_)
  · rw [List.length_map] at h
    have hk : k < ns.length := by omega
    (try array_get_dec)
    refine ix_seq (w := .dat (.int ns[k])) (ws := ns.map fun n => .dat (.int n)) rfl (atI_ofNat (by rw [List.getElem?_map, List.getElem?_eq_getElem hk]; rfl)) ?_
    (try array_get_dec)
    refine pow_int (r := 1000000000000000000000000000000000000000000000000000000) (by decide) (by decide) ?_
    (try array_get_dec)
    refine pow_int (r := 1000000000000000000000000000000000000000000000000000000000000000000000000000000000000000000000000000000000000000000000000000000000000000000000000000000000000000000000000000000000000000000000000000000000000000000000000000000000000000000000000000000000000000000000000000000000000000000000000000000000000000000000000000000000000000000000000000000000000000000000000000000000000000000) (by decide +kernel) (by decide +kernel) ?_
    refine mod_int (by decide +kernel) ?_
    (try array_get_dec)
    refine pow_int (r := 10000000000000000) (by decide) (by decide) ?_
    (try array_get_dec)
    exact rt_new (Nat.le_refl _) ⟨rfl, _, _, _, rfl⟩
  · (try array_get_dec)
    refine pow_int (r := 1000000000000000000000000000000000000000000000000000000) (by decide) (by decide) ?_
    (try array_get_dec)
    refine pow_int (r := 1000000000000000000000000000000000000000000000000000000000000000000000000000000000000000000000000000000000000000000000000000000000000000000000000000000000000000000000000000000000000000000000000000000000000000000000000000000000000000000000000000000000000000000000000000000000000000000000000000000000000000000000000000000000000000000000000000000000000000000000000000000000000000000) (by decide +kernel) (by decide +kernel) ?_
    refine mod_int (by decide +kernel) ?_
    (try array_get_dec)
    refine pow_int (r := 10000000000000000) (by decide) (by decide) ?_
    (try array_get_dec)
    exact rt_new (Nat.le_refl _) ⟨rfl, _, _, _, rfl⟩
end
end V

namespace V
open PySem L2 PyProof.Rows Rf Nm
section
variable {bs : List Nat} {S : Store} {n : Nat} {E : EK}
theorem wp_law_gaps (hv : Vat S n) {many : Nat} (h8 : many ≤ 8) : (F__law_gaps bs [.loc n, .dat (.int many)] S).wp (fun w S' => DW n S (fun w => ∃ gaps : List Nat, w = .dat (gpD gaps) ∧ (∀ g ∈ gaps, 1 ≤ g ∧ g ≤ many) ∧ gaps.Pairwise (· < ·) ∧ gaps.length ≤ 8) w S') E := by
  have hn := hv.lt
  (unfold F__law_gaps m__law_gaps; with_reducible refine Rf.wp_fn rfl ?_; simp only [Rf.startE, List.map_cons, List.map_nil, List.length_cons, List.length_nil, Nat.reduceAdd, Nat.reduceSub, List.replicate, List.cons_append, List.nil_append])
  (try array_get_dec)
  rw [show ((many : Int) + 1) = ((many + 1 : Nat) : Int) from rfl, rangeW_1, Nat.add_sub_cancel]
  refine wp_items (f := fun k : Nat => W.dat (.int (1 + (k : Int)))) (xs := List.range many) (fun pre env S' => ∃ (x : Option W) (gaps : List Nat) (S1 : Store), env = [some (.loc n), some (.dat (.int many)), some (.loc S.length), x] ∧ S' = S1 ++ [.lst (gaps.map fun (g : Nat) => W.dat (.int g))] ∧ Drawn n S S1 ∧ (∀ g ∈ gaps, 1 ≤ g ∧ g ≤ pre.length) ∧ gaps.Pairwise (· < ·) ∧ gaps.length ≤ pre.length) ⟨_, [], S, rfl, rfl, .refl hv, fun g h => (nomatch h), List.Pairwise.nil, Nat.le_refl _⟩ (fun pre k post env S' hx h => ?_) (fun env S' h => ?_)
  · obtain ⟨x, gaps, S1, rfl, rfl, dr, hg, hp, hl⟩ := h
    obtain ⟨_, rfl, hk⟩ := range_at hx
    (try array_get_dec)
    refine (wp_drop (dr.vat.app _) (by decide) (by decide)).use fun w S4 ⟨⟨r, hw, r0, r1⟩, d4⟩ => ?_
    subst hw
    obtain ⟨S5, rfl, d5⟩ := d4.split (by rw [dr.len]; exact hn)
    have len5 : S5.length = S.length := d5.len.trans dr.len
    (try array_get_dec)
    refine ifD (fun h => ?_) (fun h => ?_)
    · (try array_get_dec)
      have at1 : (S5 ++ [Cell.lst (gaps.map fun (g : Nat) => W.dat (.int g))])[S.length]? = some (.lst (gaps.map fun (g : Nat) => W.dat (.int g))) := by rw [← len5]; exact at_app1 _ _
      refine ⟨ty_loc at1, ?_⟩
      (try array_get_dec)
      refine app_loc at1 (by rw [List.length_map]; omega) ?_
      (try array_get_dec)
      refine ⟨some (.dat (.int (1 + (pre.length : Int)))), gaps ++ [1 + pre.length], S5, rfl, ?_, dr.trans d5, ?_, ?_, ?_⟩
      · rw [← len5, set_app, List.map_append]
        simp
      · intro g hgm
        rw [List.length_append, List.length_singleton]
        rcases List.mem_append.mp hgm with h | h
        · have := hg g h; omega
        · rw [List.mem_singleton.mp h]; omega
      · refine List.pairwise_append.mpr ⟨hp, List.pairwise_singleton _ _, fun a ha b hb => ?_⟩
        rw [List.mem_singleton.mp hb]
        have := hg a ha
        omega
      · rw [List.length_append, List.length_append, List.length_singleton, List.length_singleton]; omega
    · (try array_get_dec)
      refine ⟨some (.dat (.int (1 + (pre.length : Int)))), gaps, S5, rfl, rfl, dr.trans d5, fun g h => ?_, hp, ?_⟩
      · rw [List.length_append, List.length_singleton]
        have := hg g h; omega
      · rw [List.length_append, List.length_singleton]; omega
  · obtain ⟨x, gaps, S1, rfl, rfl, dr, hg, hp, hl⟩ := h
    rw [List.length_range] at hg hl
    (try array_get_dec)
    refine tuple_loc (ds := gaps.map fun (g : Nat) => .int g) (by rw [← dr.len]; exact at_app1 _ _) (by rw [List.map_map]; rfl) ?_
    rw [← dr.len]
    refine rt_app ⟨⟨gaps, rfl, hg, hp, by omega⟩, dr⟩
end
end V

namespace V
open PySem L2 PyProof.Rows Rf Nm
section
variable {bs : List Nat} {S : Store} {n : Nat} {E : EK}
theorem wp_law_drawn (hv : Vat S n) : (F__law_drawn bs [.loc n] S).wp (fun w S' => DW n S (fun w => ∃ (p : List Int) (ws : List (Nat × Int)), w = .dat (.tuple [picD p, wsD ws]) ∧ 1 ≤ p.length ∧ p.length ≤ 4 ∧ figs p ∧ ws.length ≤ 6 ∧ writesOk p ws) w S') E := by
  have hn := hv.lt
  (unfold F__law_drawn m__law_drawn; with_reducible refine Rf.wp_fn rfl ?_; simp only [Rf.startE, List.map_cons, List.map_nil, List.length_cons, List.length_nil, Nat.reduceAdd, Nat.reduceSub, List.replicate, List.cons_append, List.nil_append])
  (try array_get_dec)
  refine (wp_drop hv (by decide) (by decide)).use fun w S1 ⟨⟨r, hw, r0, r1⟩, d1⟩ => ?_
  subst hw
  (try array_get_dec)
  obtain ⟨size, hsz⟩ : ∃ size : Nat, (1 + r : Int) = size := ⟨(1 + r).toNat, by omega⟩
  rw [hsz]
  have s4 : 1 ≤ size ∧ size ≤ 4 := by omega
  (try array_get_dec)
  refine wp_compRange (fun i acc S3 => ∃ p : List Int, acc = (p.map fun x => W.dat (.int x)) ∧ p.length = i ∧ figs p ∧ Drawn n S S3) ⟨[], rfl, rfl, fun x h => (nomatch h), d1⟩ ?_ ?_
  · rintro i acc S3 hi ⟨p, rfl, len, all, dr⟩
    (try array_get_dec)
    refine (wp_drop dr.vat (by decide) (by decide)).use fun w S4 ⟨⟨k, hw, k0, k1⟩, d4⟩ => ?_
    subst hw
    refine ⟨by rw [List.length_map]; omega, p ++ [k], by simp, by simp [len], fun z hz => ?_, dr.trans d4⟩
    rcases List.mem_append.mp hz with h | h
    · exact all z h
    · rw [List.mem_singleton.mp h]; omega
  · rintro acc S3 ⟨p, rfl, len, all, dr⟩
    rw [Int.toNat_natCast] at len
    refine nl_map ?_
    (try array_get_dec)
    refine (wp_drop (dr.vat.app _) (by decide) (by decide)).use fun w S4 ⟨⟨k, hw, k0, k1⟩, d4⟩ => ?_
    subst hw
    obtain ⟨S5, rfl, d5⟩ := d4.split (by rw [dr.len]; exact hn)
    have d05 := dr.trans d5
    have len5 : S5.length = S.length := d05.len
    (try array_get_dec)
    rw [show S3.length = S.length from dr.len]
    refine wp_range (fun i env S' => ∃ (x y : Option W) (ws : List (Nat × Int)) (S6 : Store), env = [some (.loc n), some (.dat (.int size)), some (.dat (.tuple (p.map .int))), some (.loc S.length), x, y] ∧ S' = S6 ++ [.lst (ws.map fun w => W.dat (wrD w))] ∧ Drawn n S S6 ∧ ws.length = i ∧ writesOk p ws) ⟨_, _, [], S5, rfl, rfl, d05, rfl, fun w h => (nomatch h)⟩ (fun i env S' hi h => ?_) (fun env S' h => ?_)
    · obtain ⟨x, y, ws, S6, rfl, rfl, d6, lw, hf⟩ := h
      have at1 : (S6 ++ [Cell.lst (ws.map fun w => W.dat (wrD w))])[S.length]? = some (.lst (ws.map fun w => W.dat (wrD w))) := by rw [← d6.len]; exact at_app1 _ _
      (try array_get_dec)
      refine (wp_drop (d6.vat.app _) (by omega) (by omega)).use fun w S7 ⟨⟨c, hw, c0, c1⟩, d7⟩ => ?_
      subst hw
      obtain ⟨S8, rfl, d8⟩ := d7.split (by rw [d6.len]; exact hn)
      (try array_get_dec)
      refine (wp_taste ((d6.trans d8).vat.app _) (ds := [.int 0, .int 1, .int 1, .int 2, .int 3, .int 9]) (by decide) (by decide)).use fun w S9 ⟨⟨d, hd, hw⟩, d9⟩ => ?_
      subst hw
      obtain ⟨S10, rfl, d10⟩ := d9.split (by rw [(d6.trans d8).len]; exact hn)
      obtain ⟨f, rfl, f0, f9⟩ : ∃ f, d = PyData.int f ∧ 0 ≤ f ∧ f ≤ 9 := by
        simp only [List.mem_cons, List.not_mem_nil, or_false] at hd
        rcases hd with rfl | rfl | rfl | rfl | rfl | rfl <;> exact ⟨_, rfl, by decide, by decide⟩
      have dd := (d6.trans d8).trans d10
      have at2 : (S10 ++ [Cell.lst (ws.map fun w => W.dat (wrD w))])[S.length]? = some (.lst (ws.map fun w => W.dat (wrD w))) := by rw [← dd.len]; exact at_app1 _ _
      (try array_get_dec)
      refine app_loc at2 (by rw [List.length_map]; omega) ?_
      (try array_get_dec)
      refine ⟨_, _, ws ++ [(c.toNat, f)], S10, rfl, ?_, dd, by simp [lw], fun w hw => ?_⟩
      · rw [← dd.len, set_app, List.map_append]
        have e : (c.toNat : Int) = c := by omega
        simp [wrD, e]
      · rcases List.mem_append.mp hw with h | h
        · exact hf w h
        · rw [List.mem_singleton.mp h]
          exact ⟨by omega, f0, f9⟩
    · obtain ⟨x, y, ws, S6, rfl, rfl, d6, lw, hf⟩ := h
      (try array_get_dec)
      refine tuple_loc (ds := ws.map wrD) (by rw [← d6.len]; exact at_app1 _ _) (by rw [List.map_map]; rfl) ?_
      (try array_get_dec)
      rw [← d6.len]
      refine rt_app ⟨⟨p, ws, rfl, by omega, by omega, all, by omega, hf⟩, d6⟩
end
end V

namespace V
open PySem L2 PyProof.Rows Rf Nm
def five : List Str := ["a", "b", "old", "new", "rest", "zz"]
theorem five_ok : ∀ z ∈ five, okN z := by
  have h : ∀ z ∈ five, (decide (1 ≤ z.length) && decide (z.length ≤ 8) && z.cps.toList.all letB) = true := by decide +kernel
  intro z hz
  have := h z hz
  simp only [Bool.and_eq_true, decide_eq_true_eq] at this
  exact ⟨this.1.1, this.1.2, this.2⟩
def rule5 (k : Nat) (r : Rule) : Prop := ruleOk k r ∧ r.2 ∈ five
theorem rep_one (d : PyData) : ∀ j, (List.replicate j [d]).flatten = List.replicate j d
  | 0 => rfl
  | j + 1 => by rw [List.replicate_succ, List.flatten_cons, List.replicate_succ, rep_one d j]; rfl
section
variable {bs : List Nat} {S : Store} {n : Nat} {E : EK}
theorem mul1_tup {k : Bool} {d : PyData} {j : Nat} {Q : W → Store → Prop} (h1 : 1 ≤ j) (h2 : j ≤ 1000) (q : Q (.dat (.tuple (List.replicate j d))) S) : wpo (mulF1 k bs (.dat (.tuple [d])) (.dat (.int j)) S) Q := by
  by_cases e : j = 1
  · subst e
    exact q
  · have : mulF1 k bs (.dat (.tuple [d])) (.dat (.int j)) S = mulF k bs (.dat (.tuple [d])) (.dat (.int j)) S := by
      unfold mulF1
      split
      · rename_i h
        injection h with h
        injection h with h
        omega
      · rfl
    rw [this]
    refine mul_tup ⟨by simp, by simp, by omega, by omega⟩ ?_
    rw [Int.toNat_natCast]
    rw [rep_one]
    exact q
end
end V

namespace V
open PySem L2 PyProof.Rows Rf Nm
theorem mul1_lst {d : PyData} {j : Nat} {bs : List Nat} {S : Store} {Q : W → Store → Prop} (h : j ≤ 1000) (q : Q (.dat (.list (List.replicate j d))) S) : wpo (mulF1 false bs (.dat (.list [d])) (.dat (.int j)) S) Q := by
  have e : mulF1 false bs (.dat (.list [d])) (.dat (.int j)) S = mulF false bs (.dat (.list [d])) (.dat (.int j)) S := by
    unfold mulF1
    split
    · rfl
    · rfl
  have e2 : (List.replicate ((j : Int)).toNat ([d].map W.dat)).flatten = (List.replicate j d).map W.dat := by
    rw [Int.toNat_natCast, List.map_replicate]
    clear e q
    induction j with
    | zero => rfl
    | succ j ih => rw [List.replicate_succ, List.flatten_cons, ih (by omega), List.replicate_succ]; rfl
  rw [e]
  show wpo (if ([d].map W.dat).length ≤ 1000 ∧ 0 ≤ (j : Int) ∧ (j : Int) ≤ 1000 then some (newL false (List.replicate ((j : Int)).toNat ([d].map W.dat)).flatten S) else none) Q
  rw [if_pos ⟨by simp, by omega, by omega⟩, e2]
  show Q (mkLst _) S
  rw [mkLst_dat]; exact q
theorem add_locL {c : Nat} {es ds : List PyData} {bs : List Nat} {S : Store} {Q : W → Store → Prop} (h : S[c]? = some (.lst (es.map .dat))) (hl : es.length + ds.length ≤ 100000) (q : Q (.dat (.list (es ++ ds))) S) : wpo (addF false bs (.loc c) (.dat (.list ds)) S) Q := by
  have l1 : lstM S (.loc c) = some (es.map .dat) := by simp only [lstM, h]
  have l2 : lstM S (.dat (.list ds)) = some (ds.map .dat) := rfl
  have t : tupOf (.loc c) = none := rfl
  have e : addF false bs (.loc c) (.dat (.list ds)) S = some (.dat (.list (es ++ ds)), S) := by
    unfold addF
    simp only [l1, l2, t, List.length_map, if_pos hl, ← List.map_append]
    show some (mkLst _, S) = _
    rw [mkLst_dat]
  unfold wpo
  rw [e]; exact q
section
variable {bs : List Nat} {S : Store} {n : Nat} {E : EK}
theorem wp_law_rules (hv : Vat S n) {size : Nat} (s1 : 1 ≤ size) (s4 : size ≤ 4) : (F__law_rules bs [.loc n, .dat (.int size)] S).wp (fun w S' => DW n S (fun w => ∃ rules : List Rule, w = .dat (rsD rules) ∧ rules.length ≤ 5 ∧ ∀ r ∈ rules, rule5 size r) w S') E := by
  have hn := hv.lt
  (unfold F__law_rules m__law_rules; with_reducible refine Rf.wp_fn rfl ?_; simp only [Rf.startE, List.map_cons, List.map_nil, List.length_cons, List.length_nil, Nat.reduceAdd, Nat.reduceSub, List.replicate, List.cons_append, List.nil_append])
  (try array_get_dec)
  refine (wp_drop (hv.app _) (by decide) (by decide)).use fun w S1 ⟨⟨k, hw, k0, k1⟩, d1⟩ => ?_
  subst hw
  obtain ⟨S2, rfl, d2⟩ := d1.split hn
  (try array_get_dec)
  refine wp_range (fun i env S' => ∃ (x y z : Option W) (rules : List Rule) (S6 : Store), env = [some (.loc n), some (.dat (.int size)), some (.loc S.length), x, y, z] ∧ S' = S6 ++ [.lst (rules.map fun r => W.dat (ruD r))] ∧ Drawn n S S6 ∧ rules.length = i ∧ ∀ r ∈ rules, rule5 size r) ⟨_, _, _, [], S2, rfl, rfl, d2, rfl, fun w h => (nomatch h)⟩ (fun i env S' hi h => ?_) (fun env S' h => ?_)
  · obtain ⟨x, y, z, rules, S6, rfl, rfl, d6, lw, hf⟩ := h
    (try array_get_dec)
    refine wp_compRange (fun j acc S3 => ∃ (l : List (Option Int)) (S7 : Store), acc = (l.map fun o => W.dat (optD o)) ∧ l.length = j ∧ (∀ o ∈ l, figO o) ∧ S3 = S7 ++ [.lst (rules.map fun r => W.dat (ruD r))] ∧ Drawn n S S7) ⟨[], S6, rfl, rfl, fun x h => (nomatch h), rfl, d6⟩ ?_ ?_
    · rintro j acc S3 hj ⟨l, S7, rfl, len, all, rfl, d7⟩
      (try array_get_dec)
      refine (wp_taste (d7.vat.app _) (ds := [.none, .none, .int 0, .int 1, .int 2]) (by decide) (by decide)).use fun w S9 ⟨⟨d, hd, hw⟩, d9⟩ => ?_
      subst hw
      obtain ⟨S10, rfl, d10⟩ := d9.split (by rw [d7.len]; exact hn)
      obtain ⟨o, rfl, ho⟩ : ∃ o, d = optD o ∧ figO o := by
        simp only [List.mem_cons, List.not_mem_nil, or_false] at hd
        rcases hd with rfl | rfl | rfl | rfl | rfl
        · exact ⟨none, rfl, fun i h => (nomatch h)⟩
        · exact ⟨none, rfl, fun i h => (nomatch h)⟩
        · exact ⟨some 0, rfl, fun i h => by cases h; decide⟩
        · exact ⟨some 1, rfl, fun i h => by cases h; decide⟩
        · exact ⟨some 2, rfl, fun i h => by cases h; decide⟩
      refine ⟨by rw [List.length_map]; omega, l ++ [o], S10, by simp, by simp [len], fun z hz => ?_, rfl, d7.trans d10⟩
      rcases List.mem_append.mp hz with h | h
      · exact all z h
      · rw [List.mem_singleton.mp h]; exact ho
    · rintro acc S3 ⟨l, S7, rfl, len, all, rfl, d7⟩
      rw [Int.toNat_natCast] at len
      refine nl_map ?_
      (try array_get_dec)
      have len7 : S7.length = S.length := d7.len
      refine ⟨ty_loc (by rw [← len7]; exact at_app1 _ _), ?_⟩
      (try array_get_dec)
      refine (wp_taste (d7.vat.app _) (ds := [.str "a", .str "b", .str "old", .str "new"]) (by decide) (by decide)).use fun w S9 ⟨⟨d, hd, hw⟩, d9⟩ => ?_
      subst hw
      obtain ⟨S10, rfl, d10⟩ := d9.split (by rw [len7]; exact hn)
      have dd := d7.trans d10
      obtain ⟨nm, rfl, hnm⟩ : ∃ nm, d = PyData.str nm ∧ nm ∈ five := by
        simp only [List.mem_cons, List.not_mem_nil, or_false] at hd
        rcases hd with rfl | rfl | rfl | rfl <;> exact ⟨_, rfl, by decide⟩
      (try array_get_dec)
      have at2 : (S10 ++ [Cell.lst (rules.map fun r => W.dat (ruD r))])[S.length]? = some (.lst (rules.map fun r => W.dat (ruD r))) := by rw [← dd.len]; exact at_app1 _ _
      refine app_loc at2 (by rw [List.length_map]; omega) ?_
      (try array_get_dec)
      refine ⟨_, _, _, rules ++ [(l, nm)], S10, rfl, ?_, dd, by simp [lw], fun r hr => ?_⟩
      · rw [← dd.len, set_app, List.map_append]
        simp [ruD]
      · rcases List.mem_append.mp hr with h | h
        · exact hf r h
        · rw [List.mem_singleton.mp h]
          exact ⟨⟨len, all, five_ok nm hnm⟩, hnm⟩
  · obtain ⟨x, y, z, rules, S6, rfl, rfl, d6, lw, hf⟩ := h
    (try array_get_dec)
    refine mul1_tup s1 (by omega) ?_
    (try array_get_dec)
    refine (wp_drop (d6.vat.app _) (by decide) (by decide)).use fun w S7 ⟨⟨q, hw, q0, q1⟩, d7⟩ => ?_
    subst hw
    obtain ⟨S8, rfl, d8⟩ := d7.split (by rw [d6.len]; exact hn)
    have dd := d6.trans d8
    (try array_get_dec)
    obtain ⟨j, hj, j1⟩ : ∃ j : Nat, (if decide (0 < q) = true then (1 : Int) else 0) = j ∧ j ≤ 1 := by
      by_cases h : 0 < q
      · exact ⟨1, by rw [decide_eq_true h]; rfl, Nat.le_refl _⟩
      · exact ⟨0, by rw [decide_eq_false h]; rfl, by omega⟩
    rw [hj]
    refine mul1_lst (by omega) ?_
    have at1 : (S8 ++ [Cell.lst (rules.map fun r => W.dat (ruD r))])[S.length]? = some (.lst ((rules.map ruD).map .dat)) := by
      rw [← dd.len, List.map_map]
      exact at_app1 _ _
    refine add_locL at1 (by rw [List.length_map, List.length_replicate]; omega) ?_
    (try array_get_dec)
    rw [← dd.len]
    refine rt_app ⟨⟨rules ++ (List.replicate j (List.replicate size none, ("rest" : Str)) : List Rule), ?_, ?_, fun r hr => ?_⟩, dd⟩
    · unfold rsD
      rw [List.map_append, List.map_replicate]
      unfold ruD
      rw [List.map_replicate]
      rfl
    · rw [List.length_append, List.length_replicate]; omega
    · rcases List.mem_append.mp hr with h | h
      · exact hf r h
      · rw [(List.mem_replicate.mp h).2]
        have hre : ("rest" : Str) ∈ five := by decide
        refine ⟨⟨by simp, fun o ho => ?_, five_ok _ hre⟩, hre⟩
        rw [(List.mem_replicate.mp ho).2]
        exact fun i h => (nomatch h)
end
end V

namespace V
open PySem L2 PyProof.Rows Rf Nm
def good5 (ns : List Str) : Prop := (∀ z ∈ ns, z ∈ five) ∧ ns.Pairwise ltS
theorem few_of {α : Type} [DecidableEq α] : ∀ {l m : List α}, l.Nodup → (∀ x ∈ l, x ∈ m) → l.length ≤ m.length
  | [], _, _, _ => Nat.zero_le _
  | a :: l, m, nd, h => by
    have ha := h a (List.mem_cons_self ..)
    have nd2 := List.nodup_cons.mp nd
    have := few_of (l := l) (m := m.erase a) nd2.2 fun x hx => (List.mem_erase_of_ne (fun e : x = a => nd2.1 (by rw [← e]; exact hx))).mpr (h x (List.mem_cons_of_mem _ hx))
    rw [List.length_erase_of_mem ha] at this
    have := List.length_pos_of_mem ha
    rw [List.length_cons]; omega
theorem good5.ok {ns : List Str} (h : good5 ns) : namesOk ns := by
  refine ⟨fun z hz => five_ok z (h.1 z hz), h.2, ?_⟩
  have nd : ns.Nodup := h.2.imp fun {a b} hl e => by
    subst e
    exact absurd hl (List.lt_irrefl _)
  have := few_of nd h.1
  have e : five.length = 6 := rfl
  omega
theorem sort5 {ys : List Str} (h : ∀ z ∈ ys, z ∈ five) : good5 ((uniq ys).mergeSort sLe) :=
  ⟨fun z hz => h z (uniq_mem.mp ((List.mergeSort_perm _ _).mem_iff.mp hz)), sorted_strict⟩
theorem names5 {k : Nat} {rules : List Rule} (h : ∀ r ∈ rules, rule5 k r) (R : List (List Int)) : good5 (namesOf rules R) := by
  refine sort5 fun z hz => ?_
  obtain ⟨u, _, hu⟩ := List.mem_filterMap.mp hz
  unfold meanB at hu
  cases hf : rules.find? fun r => fitsB u r.1 with
  | none => rw [hf] at hu; cases hu
  | some r =>
    rw [hf] at hu
    cases hu
    exact (h r (List.mem_of_find?_eq_some hf)).2
theorem good5.filter {ns : List Str} (h : good5 ns) (f : Str → Bool) : good5 (ns.filter f) := ⟨fun z hz => h.1 z (List.mem_filter.mp hz).1, h.2.filter _⟩
theorem drop_nm (nm : Str) (N : List Str) : N.filterMap (fun z => if z = nm then none else some (W.dat (.str z))) = ((N.filter fun z => decide (z ≠ nm)).map PyData.str).map W.dat := by
  rw [List.map_map]
  induction N with
  | nil => rfl
  | cons z N ih =>
    by_cases h : z = nm
    · simpa [h] using ih
    · simpa [h] using ih
section
variable {bs : List Nat} {S : Store} {n : Nat} {E : EK}
theorem wp_law_promise (hv : Vat S n) {p : List Int} {ws : List (Nat × Int)} {gaps : List Nat} {rules : List Rule} (hp1 : 1 ≤ p.length) (hp4 : p.length ≤ 4) (h6 : ws.length ≤ 6) (hf : writesOk p ws) (h5 : rules.length ≤ 5) (hr : ∀ r ∈ rules, rule5 p.length r) :
    (F__law_promise bs [.loc n, .dat (picD p), .dat (wsD ws), .dat (gpD gaps), .dat (rsD rules)] S).wp (fun w S' => DW n S (fun w => ∃ pr : List (List Str), w = .dat (prD pr) ∧ pr.length = ws.length + 1 ∧ ∀ ns ∈ pr, namesOk ns) w S') E := by
  have hn := hv.lt
  (unfold F__law_promise m__law_promise; with_reducible refine Rf.wp_fn rfl ?_; simp only [Rf.startE, List.map_cons, List.map_nil, List.length_cons, List.length_nil, Nat.reduceAdd, Nat.reduceSub, List.replicate, List.cons_append, List.nil_append])
  (try array_get_dec)
  have lw : (wsD ws : PyData) = .tuple (ws.map wrD) := rfl
  rw [lw]
  (try array_get_dec)
  rw [List.length_map]
  refine ⟨_, rfl, ⟨by omega, by omega⟩, ?_⟩
  refine wp_compRange (fun i acc S3 => ∃ pr : List (List Str), acc = (pr.map fun ns => W.dat (nsD ns)) ∧ pr.length = i ∧ (∀ ns ∈ pr, good5 ns) ∧ S3 = S) ⟨[], rfl, rfl, fun x h => (nomatch h), rfl⟩ ?_ ?_
  · rintro i acc S3 hi ⟨pr, rfl, len, all, rfl⟩
    (try array_get_dec)
    rw [← lw]
    refine wp_eq (ev_law_names hp1 hp4 h6 hf (by omega) (by omega) fun r h => (hr r h).1) ?_
    refine ⟨by rw [List.length_map]; omega, pr ++ [namesOf rules (vers p ws (lastG gaps i) i)], by simp, by simp [len], fun z hz => ?_, rfl⟩
    rcases List.mem_append.mp hz with h | h
    · exact all z h
    · rw [List.mem_singleton.mp h]
      exact names5 hr _
  rintro acc S3 ⟨pr, rfl, len, all, rfl⟩
  refine nl_cell ?_
  (try array_get_dec)
  refine (wp_drop (hv.app _) (by decide) (by decide)).use fun w S4 ⟨⟨k, hw, k0, k1⟩, d4⟩ => ?_
  subst hw
  obtain ⟨S5, rfl, d5⟩ := d4.split hn
  (try array_get_dec)
  refine wp_range (fun i env S' => ∃ (x y z v : Option W) (pr : List (List Str)) (S6 : Store), env = [some (.loc n), some (.dat (picD p)), some (.dat (wsD ws)), some (.dat (gpD gaps)), some (.dat (rsD rules)), some (.loc S3.length), x, y, z, v, none, none] ∧ S' = S6 ++ [.lst (pr.map fun ns => W.dat (nsD ns))] ∧ Drawn n S3 S6 ∧ pr.length = ws.length + 1 ∧ ∀ ns ∈ pr, good5 ns) ⟨_, _, _, _, pr, S5, rfl, rfl, d5, by omega, all⟩ (fun i env S' hi h => ?_) (fun env S' h => ?_)
  · obtain ⟨x, y, z, v, pr, S6, rfl, rfl, d6, len, all⟩ := h
    have at1 : ∀ S7 : Store, S7.length = S3.length → (S7 ++ [Cell.lst (pr.map fun ns => W.dat (nsD ns))])[S3.length]? = some (.lst (pr.map fun ns => W.dat (nsD ns))) := fun S7 h => by rw [← h]; exact at_app1 _ _
    (try array_get_dec)
    refine len_loc (at1 _ d6.len) ?_
    (try array_get_dec)
    refine (wp_drop (d6.vat.app _) (by rw [List.length_map]; omega) (by rw [List.length_map]; omega)).use fun w S7 ⟨⟨r, hw, r0, r1⟩, d7⟩ => ?_
    subst hw
    rw [List.length_map] at r1
    obtain ⟨m, rfl⟩ : ∃ m : Nat, r = m := ⟨r.toNat, by omega⟩
    have hm : m < pr.length := by omega
    obtain ⟨S8, rfl, d8⟩ := d7.split (by rw [d6.len]; exact hn)
    have dd := d6.trans d8
    (try array_get_dec)
    refine (wp_taste (dd.vat.app _) (ds := [.str "a", .str "b", .str "old", .str "new", .str "rest", .str "zz"]) (by decide) (by decide)).use fun w S9 ⟨⟨d, hd, hw⟩, d9⟩ => ?_
    subst hw
    obtain ⟨S10, rfl, d10⟩ := d9.split (by rw [dd.len]; exact hn)
    have de := dd.trans d10
    obtain ⟨nm, rfl, hnm⟩ : ∃ nm, d = PyData.str nm ∧ nm ∈ five := by
      simp only [List.mem_cons, List.not_mem_nil, or_false] at hd
      rcases hd with rfl | rfl | rfl | rfl | rfl | rfl <;> exact ⟨_, rfl, by decide⟩
    (try array_get_dec)
    generalize hN : pr.getD m [] = N
    have hN5 : good5 N := by
      rw [← hN, List.getD_eq_getElem?_getD, List.getElem?_eq_getElem hm]
      exact all _ (List.getElem_mem hm)
    refine ix_loc (w := .dat (nsD N)) (at1 _ de.len) (atI_ofNat (by rw [List.getElem?_map, List.getElem?_eq_getElem hm, ← hN, List.getD_eq_getElem?_getD, List.getElem?_eq_getElem hm]; rfl)) ?_
    refine ⟨.items ((N.map PyData.str).map W.dat), rfl, ?_⟩
    rw [List.map_map]
    have hNl := hN5.ok.2.2
    refine wp_compP (f := W.dat ∘ PyData.str) (xs := N) (fun z => if z = nm then none else some (.dat (.str z))) (by omega) (fun z hz => ?_) ?_
    · (try array_get_dec)
      refine ifN (fun h => ⟨if_pos h, rfl⟩) (fun h => ?_)
      (try array_get_dec)
      exact ⟨if_neg h, rfl⟩
    · rw [drop_nm]
      refine nl_dat ?_
      have hG : good5 (N.filter fun z => decide (z ≠ nm)) := hN5.filter _
      have fin : ∀ (S11 : Store) (ns : List Str), Drawn n S3 S11 → good5 ns → ∃ S3_1, setF (S3.length :: bs) (.loc S3.length) (.dat (.int m)) (.dat (nsD ns)) (S11 ++ [Cell.lst (pr.map fun ns => W.dat (nsD ns))]) = some S3_1 ∧ ∃ pr2 : List (List Str), S3_1 = S11 ++ [Cell.lst (pr2.map fun ns => W.dat (nsD ns))] ∧ pr2.length = ws.length + 1 ∧ ∀ ns ∈ pr2, good5 ns := fun S11 ns d11 hg => by
        refine set_loc (m := m) (at1 _ d11.len) (by rw [List.length_map]; exact ixN_nat hm) ⟨pr.set m ns, ?_, by rw [List.length_set]; exact len, fun x hx => ?_⟩
        · rw [← d11.len, set_app, List.map_set]
        · rcases List.mem_or_eq_of_mem_set hx with h | h
          · exact all x h
          · rw [h]; exact hg
      generalize (N.filter fun z => decide (z ≠ nm)) = M at hG
      have hMl := hG.ok.2.2
      (try array_get_dec)
      refine (wp_drop (de.vat.app _) (by decide) (by decide)).use fun w S11 ⟨⟨q, hw, q0, q1⟩, d11⟩ => ?_
      subst hw
      obtain ⟨S12, rfl, d12⟩ := d11.split (by rw [de.len]; exact hn)
      have df := de.trans d12
      (try array_get_dec)
      refine ifD (fun h => ?_) (fun h => ?_)
      · (try array_get_dec)
        refine wp_tSub ?_
        (try array_get_dec)
        obtain ⟨S13, e13, pr2, rfl, l2, a2⟩ := fin S12 M df hG
        exact ⟨_, e13, _, _, _, _, pr2, S12, rfl, rfl, df, l2, a2⟩
      · (try array_get_dec)
        refine add_lst (by rw [List.length_map, List.length_singleton]; omega) ?_
        rw [show M.map PyData.str ++ [PyData.str nm] = (M ++ [nm]).map PyData.str by simp]
        (try array_get_dec)
        refine sortX (ys := M ++ [nm]) (by rw [List.length_append, List.length_singleton]; omega) ?_
        have hG2 : good5 ((uniq (M ++ [nm])).mergeSort sLe) := sort5 fun z hz => by
          rcases List.mem_append.mp hz with h | h
          · exact hG.1 z h
          · rw [List.mem_singleton.mp h]; exact hnm
        generalize (uniq (M ++ [nm])).mergeSort sLe = M2 at hG2
        (try array_get_dec)
        refine wp_tSub ?_
        (try array_get_dec)
        obtain ⟨S13, e13, pr2, rfl, l2, a2⟩ := fin S12 M2 df hG2
        exact ⟨_, e13, _, _, _, _, pr2, S12, rfl, rfl, df, l2, a2⟩
  · obtain ⟨x, y, z, v, pr, S6, rfl, rfl, d6, len, all⟩ := h
    (try array_get_dec)
    refine tuple_loc (ds := pr.map nsD) (by rw [← d6.len]; exact at_app1 _ _) (by rw [List.map_map]; rfl) ?_
    rw [← d6.len]
    exact rt_app ⟨⟨pr, rfl, len, fun ns h => (all ns h).ok⟩, d6⟩
end
end V

namespace V
open PySem L2 PyProof.Rows Rf Nm
section
variable {bs : List Nat} {S : Store} {n : Nat} {E : EK}
theorem add_locW {c : Nat} {us : List W} {ds : List PyData} {Q : W → Store → Prop} (h : S[c]? = some (.lst us)) (hl : us.length + ds.length ≤ 100000) (q : Q (.loc S.length) (S ++ [.lst (us ++ ds.map .dat)])) : wpo (addF true bs (.loc c) (.dat (.list ds)) S) Q := by
  have l1 : lstM S (.loc c) = some us := by simp only [lstM, h]
  have l2 : lstM S (.dat (.list ds)) = some (ds.map .dat) := rfl
  have t : tupOf (.loc c) = none := rfl
  have e : addF true bs (.loc c) (.dat (.list ds)) S = some (.loc S.length, S ++ [.lst (us ++ ds.map .dat)]) := by
    unfold addF
    simp only [l1, l2, t, List.length_map, if_pos hl]
    rfl
  unfold wpo
  rw [e]; exact q
def AllD (us : List W) : Prop := ∃ ds : List PyData, us = ds.map .dat
theorem AllD.nil : AllD [] := ⟨[], rfl⟩
theorem AllD.cons {d : PyData} {us : List W} (h : AllD us) : AllD (.dat d :: us) := by
  obtain ⟨ds, rfl⟩ := h
  exact ⟨d :: ds, rfl⟩
theorem AllD.map (ds : List PyData) : AllD (ds.map .dat) := ⟨ds, rfl⟩
theorem AllD.app {a b : List W} (h : AllD a) (g : AllD b) : AllD (a ++ b) := by
  obtain ⟨x, rfl⟩ := h
  obtain ⟨y, rfl⟩ := g
  exact ⟨x ++ y, List.map_append.symm⟩
/-- what stands while the list grows: its cell behind S0, plain items -/
structure Near (S0 Y : Store) (c : Nat) (k : Nat) : Prop where
  at_ : ∃ us, (S0 ++ Y)[c]? = some (.lst us) ∧ AllD us ∧ us.length = k
  le : S0.length ≤ c
theorem add_near {S0 Y : Store} {c k : Nat} {ds : List PyData} {Q : W → Store → Prop} (h : Near S0 Y c k) (hk : k + ds.length ≤ 100000) (q : ∀ Y2 c2, Near S0 Y2 c2 (k + ds.length) → Q (.loc c2) (S0 ++ Y2)) : wpo (addF true bs (.loc c) (.dat (.list ds)) (S0 ++ Y)) Q := by
  obtain ⟨us, h1, h2, h3⟩ := h.at_
  refine add_locW h1 (by omega) ?_
  rw [List.append_assoc]
  refine q _ _ ⟨⟨us ++ ds.map .dat, ?_, h2.app (.map _), by simp [h3]⟩, by simp⟩
  rw [← List.append_assoc]
  exact at_app1 _ _
theorem app_near {S0 Y : Store} {c k : Nat} {d : PyData} {Q : W → Store → Prop} (h : Near S0 Y c k) (hk : k < 100000) (q : ∀ Y2, Near S0 Y2 c (k + 1) → Q (.dat .none) (S0 ++ Y2)) : wpo (appF bs (.loc c) [.dat d] (S0 ++ Y)) Q := by
  obtain ⟨us, h1, h2, h3⟩ := h.at_
  refine app_loc h1 (by omega) ?_
  have hc := (List.getElem?_eq_some_iff.mp h1).1
  rw [List.set_append_right _ _ h.le]
  refine q _ ⟨⟨us ++ [.dat d], ?_, h2.app (.cons .nil), by simp [h3]⟩, h.le⟩
  rw [← List.set_append_right _ _ h.le]
  exact List.getElem?_set_self hc
theorem wp_compL {b k : Nat} {t : TM} {e : M W} {env : Rf.Env} {Q : List W → Store → Prop} (g : Nat → PyData) (hl : k ≤ 100000)
    (step : ∀ j < k, (t (.loc (b + j)) bs env S).wp (fun env1 S1 => (e bs env1 S1).wp (fun y S3 => y = .dat (g j) ∧ S3 = S) NoE) NoE)
    (q : Q (((List.range k).map g).map .dat) S) : (compG (.items (locs b k)) t mYes e (Iter.items (locs b k)).fuel 0 [] bs env S).wp Q E := by
  refine wp_compG (f := fun j => W.loc (b + j)) (xs := List.range k) (fun pre acc S' => acc = (pre.map g).map .dat ∧ S' = S) (fun pre post acc S' hx _ => next_of hx) (fun pre x post acc S' hx h => ?_) (fun acc S' h => ?_) _ [] (List.range k) [] S rfl (by unfold locs; simp [Iter.fuel]) ⟨rfl, rfl⟩
  · obtain ⟨rfl, rfl⟩ := h
    obtain ⟨_, rfl, hk⟩ := range_at hx
    refine (step _ hk).imp fun env1 S1 h3 => wp_yes ⟨fun _ => h3.imp fun y S3 ⟨h5, h6⟩ => ⟨?_, ?_, h6⟩, fun z => (nomatch z)⟩
    · rw [List.length_map, List.length_map]; omega
    · rw [h5]; simp
  · obtain ⟨rfl, rfl⟩ := h
    exact q
def bentI (x : Int) : PyData := if x = 0 ∨ x = 1 then .bool (decide (x = 1)) else .int x
theorem wp_bent {x : Int} {env : Rf.Env} {Q : W → Store → Prop} (h : 11 < env.length) (q : Q (.dat (bentI x)) S) :
    (mIf (mB (mBin (inAF false) (mVar 11) (mTup (mCons (mCon (PyData.int 0)) (mCons (mCon (PyData.int 1)) mNil))))) (mBin (eqF false) (mVar 11) (mCon (PyData.int 1))) (mVar 11) bs (env.set 11 (some (.dat (.int x)))) S).wp Q E := by
  have hv : (env.set 11 (some (.dat (.int x))))[11]? = some (some (.dat (.int x))) := List.getElem?_set_self h
  generalize env.set 11 (some (.dat (.int x))) = e at hv ⊢
  (try array_get_dec)
  refine wp_var hv ?_
  (try array_get_dec)
  refine in_tupD ⟨rfl, rfl, by simp [PyData.depth]⟩ ?_
  have e2 : (([PyData.int 0, PyData.int 1].any fun z => z.eqv (PyData.int x)) != false) = decide (x = 0 ∨ x = 1) := by
    rw [Bool.bne_false, Bool.eq_iff_iff, decide_eq_true_eq, List.any_eq_true]
    constructor
    · rintro ⟨z, hz, he⟩
      simp only [List.mem_cons, List.not_mem_nil, or_false] at hz
      rcases hz with rfl | rfl
      · have : (0 : Int) = x := by simpa [PyData.eqv] using he
        exact .inl this.symm
      · have : (1 : Int) = x := by simpa [PyData.eqv] using he
        exact .inr this.symm
    · rintro (rfl | rfl)
      · exact ⟨.int 0, by simp, by simp [PyData.eqv]⟩
      · exact ⟨.int 1, by simp, by simp [PyData.eqv]⟩
  rw [e2]
  (try array_get_dec)
  unfold bentI at q
  refine ifD (fun hx => ?_) (fun hx => ?_)
  · rw [if_pos hx] at q
    (try array_get_dec)
    refine wp_varD hv ?_
    (try array_get_dec)
    exact q
  · rw [if_neg hx] at q
    exact wp_var hv q
theorem wp_law_near (hv : Vat S n) {p : List Int} {ws : List (Nat × Int)} {gaps : List Nat} (o : Option (Nat × List Nat)) (hp1 : 1 ≤ p.length) (hp4 : p.length ≤ 4) (h6 : ws.length ≤ 6) (hf : writesOk p ws) (ho : ∀ x, o = some x → x.2.length ≤ 10) :
    (F__law_near bs [.loc n, .dat (picD p), .dat (wsD ws), .dat (gpD gaps), .dat (optB o)] S).wp (fun w S' => ∃ (c : Nat) (ds : List PyData) (S1 T : Store), w = .loc c ∧ S' = S1 ++ T ∧ Drawn n S S1 ∧ S'[c]? = some (.lst (ds.map .dat)) ∧ ds.length ≤ 30) E := by
  have hn := hv.lt
  (unfold F__law_near m__law_near; with_reducible refine Rf.wp_fn rfl ?_; simp only [Rf.startE, List.map_cons, List.map_nil, List.length_cons, List.length_nil, Nat.reduceAdd, Nat.reduceSub, List.replicate, List.cons_append, List.nil_append])
  have lw : (wsD ws : PyData) = .tuple (ws.map wrD) := rfl
  rw [lw]
  (try array_get_dec)
  rw [List.length_map]
  refine (wp_drop hv (by omega) (by omega)).use fun w S1 ⟨⟨r, hw, r0, r1⟩, d1⟩ => ?_
  subst hw
  obtain ⟨m, rfl⟩ : ∃ m : Nat, r = m := ⟨r.toNat, by omega⟩
  have hm : m ≤ ws.length := by omega
  (try array_get_dec)
  rw [← lw]
  refine wp_law_rows hp1 (by omega) (by omega) hf hm fun X => ?_
  have eX : (S1 ++ X).length = S1.length + X.length := List.length_append
  have hR : (vers p ws (lastG gaps m) m).length = p.length := len_vers _ _ _ _
  have hne : ∀ i < p.length, 1 ≤ ((vers p ws (lastG gaps m) m).getD i []).length ∧ ((vers p ws (lastG gaps m) m).getD i []).length ≤ 9 := fun i hi => by
    have hi : i < (vers p ws (lastG gaps m) m).length := by omega
    have e : (vers p ws (lastG gaps m) m).getD i [] = (vers p ws (lastG gaps m) m)[i] := by rw [List.getD_eq_getElem?_getD, List.getElem?_eq_getElem hi]; rfl
    rw [e]
    exact ⟨List.length_pos_iff.mpr (vers_ne _ (List.getElem_mem hi)), vers_lens (by omega) _ (List.getElem_mem hi)⟩
  rw [← eX]
  have at0 : ∀ S2 : Store, Drawn n S1 S2 → ∀ i < p.length, (S2 ++ (X ++ (vers p ws (lastG gaps m) m).map rowC))[(S1 ++ X).length + i]? = some (.lst (((vers p ws (lastG gaps m) m).getD i []).map fun x => .dat (.int x))) := fun S2 d i hi => by
    rw [eX, ← d.len, ← List.length_append, ← List.append_assoc]
    exact rows_at (by omega)
  rw [List.append_assoc]
  generalize vers p ws (lastG gaps m) m = R at hR hne at0 ⊢
  generalize (S1 ++ X).length = b at at0 ⊢
  generalize X ++ R.map rowC = Y at at0 ⊢
  (try array_get_dec)
  refine wp_compG (f := fun j => W.loc (b + j)) (xs := List.range p.length) (fun pre acc S' => ∃ (is : List Int) (S2 : Store), acc = is.map (fun i => W.dat (.int i)) ∧ is.length = pre.length ∧ S' = S2 ++ Y ∧ Drawn n S1 S2) (fun pre post acc S' hx _ => next_of hx) (fun pre x post acc S' hx h => ?_) (fun acc S' h => ?_) _ [] (List.range p.length) [] _ rfl (by unfold locs; simp [Iter.fuel]) ⟨[], S1, rfl, rfl, rfl, .refl d1.vat⟩
  · obtain ⟨is, S2, rfl, len, rfl, d2⟩ := h
    obtain ⟨_, rfl, hk⟩ := range_at hx
    (try array_get_dec)
    refine len_loc (at0 S2 d2 _ hk) ?_
    (try array_get_dec)
    have hk2 := hne _ hk
    refine (wp_drop (d2.vat.app _) (by rw [List.length_map]; omega) (by rw [List.length_map]; omega)).use fun w S4 ⟨⟨r, hw, r0, r1⟩, d4⟩ => ?_
    subst hw
    obtain ⟨S5, rfl, d5⟩ := d4.split (by rw [d2.len, d1.len]; exact hn)
    refine ⟨by rw [List.length_map]; omega, is ++ [r], S5, by simp, by simp [len], rfl, d2.trans d5⟩
  obtain ⟨is, S2, rfl, len, rfl, d2⟩ := h
  rw [List.length_range] at len
  have at0 := at0 S2 d2
  refine nl_map ?_
  (try array_get_dec)
  refine wp_compL (fun j => .int (((R.getD j []).length : Int) - 1)) (by omega) (fun j hj => ?_) ?_
  · (try array_get_dec)
    refine len_loc (at0 j hj) ?_
    (try array_get_dec)
    rw [List.length_map]
    exact ⟨rfl, rfl⟩
  refine nl_dat ?_
  (try array_get_dec)
  have ll : (locs b p.length).length = p.length := by unfold locs; simp
  rw [ll]
  generalize (List.range p.length).map (fun j => PyData.int (((R.getD j []).length : Int) - 1)) = L8
  refine mul1_tup hp1 (by omega) ?_
  (try array_get_dec)
  refine add_tup (by rw [List.length_map, List.length_singleton]; omega) ?_
  (try array_get_dec)
  refine wp_compL (fun j => .int ((R.getD j []).length : Int)) (by omega) (fun j hj => ?_) ?_
  · (try array_get_dec)
    refine len_loc (at_old (at0 j hj) _) ?_
    rw [List.length_map]
    exact ⟨rfl, rfl⟩
  refine nl_dat ?_
  generalize (List.range p.length).map (fun j => PyData.int ((R.getD j []).length : Int)) = L9
  (try array_get_dec)
  have hc : (cutW (is.map PyData.int) (some 1) none).length ≤ 4 := by
    unfold cutW
    rw [List.length_take, List.length_drop, List.length_map]; omega
  generalize cutW (is.map PyData.int) (some 1) none = C at hc
  refine add_tup (by simp; omega) ?_
  (try array_get_dec)
  have n0 : Near S2 (Y ++ [Cell.lst [W.dat (PyData.tuple [PyData.int m, PyData.tuple (is.map PyData.int)]), W.dat (PyData.tuple [PyData.int m, PyData.tuple L8]), W.dat (PyData.tuple [PyData.int m, PyData.tuple (List.replicate p.length (PyData.int 0))]), W.dat (PyData.tuple [PyData.int m, PyData.list (is.map PyData.int)]), W.dat (PyData.tuple [PyData.int m, PyData.tuple C]), W.dat (PyData.tuple [PyData.int m])]]) (S2 ++ Y).length 6 := by
    refine ⟨⟨_, by rw [← List.append_assoc]; exact at_app1 _ _, .cons (.cons (.cons (.cons (.cons (.cons .nil))))), rfl⟩, by simp⟩
  rw [List.append_assoc S2 Y]
  generalize (S2 ++ Y).length = c0 at n0 ⊢
  generalize hY0 : Y ++ [Cell.lst _] = Y0 at n0 ⊢
  clear hY0
  refine add_near n0 (by simp) fun Y1 c1 n1 => ?_
  rw [lw]
  (try array_get_dec)
  refine add_near n1 (by simp) fun Y2 c2 n2 => ?_
  (try array_get_dec)
  refine ⟨ty_loc n2.at_.choose_spec.1, ?_⟩
  (try array_get_dec)
  rw [List.map_map]
  refine wp_compM (f := W.dat ∘ PyData.int) (xs := is) (fun x => .dat (bentI x)) (by omega) (fun x hx => ?_) ?_
  · refine wp_bent (by show 11 < 12; decide) ?_
    exact ⟨rfl, rfl⟩
  refine nl_map ?_
  (try array_get_dec)
  refine app_near n2 (by simp) fun Y3 n3 => ?_
  (try array_get_dec)
  cases o with
  | none =>
    dsimp only [optB]
    (try array_get_dec)
    refine rt_new (by rw [← d1.len, ← d2.len]; exact n3.le) ?_
    obtain ⟨us, h1, ⟨ds, rfl⟩, h3⟩ := n3.at_
    exact ⟨c2, ds, S2, Y3, rfl, rfl, d1.trans d2, h1, by rw [List.length_map] at h3; simp at h3; omega⟩
  | some x =>
    obtain ⟨m2, cc⟩ := x
    have hcc : cc.length ≤ 10 := ho _ rfl
    dsimp only [optB]
    (try array_get_dec)
    refine add_tup (by simp) ?_
    (try array_get_dec)
    refine ix_tup rfl ?_
    (try array_get_dec)
    refine ix_tup rfl ?_
    unfold cutT
    (try array_get_dec)
    refine ix_tup rfl ?_
    (try array_get_dec)
    refine ix_tup rfl ?_
    (try array_get_dec)
    refine ix_tup rfl ?_
    (try array_get_dec)
    refine ix_tup rfl ?_
    (try array_get_dec)
    refine add_near n3 (by simp) fun Y4 c4 n4 => ?_
    (try array_get_dec)
    refine ⟨ty_loc n4.at_.choose_spec.1, ?_⟩
    (try array_get_dec)
    refine ix_tup rfl ?_
    (try array_get_dec)
    refine ix_tup rfl ?_
    (try array_get_dec)
    rw [List.map_map]
    refine wp_compM (f := W.dat ∘ fun (i : Nat) => PyData.int i) (xs := cc) (fun x => .dat (bentI x)) (by omega) (fun x hx => ?_) ?_
    · refine wp_bent (x := (x : Int)) (by show 11 < 12; decide) ?_
      exact ⟨rfl, rfl⟩
    refine nl_map ?_
    (try array_get_dec)
    refine app_near n4 (by simp) fun Y5 n5 => ?_
    (try array_get_dec)
    refine rt_new (by rw [← d1.len, ← d2.len]; exact n5.le) ?_
    obtain ⟨us, h1, ⟨ds, rfl⟩, h3⟩ := n5.at_
    exact ⟨c4, ds, S2, Y5, rfl, rfl, d1.trans d2, h1, by rw [List.length_map] at h3; simp at h3; omega⟩
end
end V

namespace V
open PySem L2 PyProof.Rows Rf Nm
section
variable {bs : List Nat} {S : Store} {n : Nat} {E : EK}
theorem breakOf_len {p : List Int} {ws : List (Nat × Int)} {gaps : List Nat} {rules : List Rule} {pr : List (List Str)} (hp4 : p.length ≤ 4) {x : Nat × List Nat} (h : breakOf p ws gaps rules pr = some x) : x.2.length ≤ 10 := by
  unfold breakOf at h
  obtain ⟨j, hj, e⟩ := List.exists_of_findSome?_eq_some h
  rw [Option.map_eq_some_iff] at e
  obtain ⟨c, hc, rfl⟩ := e
  obtain ⟨u, hu, _⟩ := firstBad_cut hc
  have := hu.facts.1
  rw [len_vers] at this
  show c.length ≤ 10
  omega
theorem wp_law_right (hv : Vat S n) (hb : ∀ q ∈ bs, q ≤ S.length) : (F__law_right bs [.loc n] S).wp (fun w S' => DW n S (fun w => w = .dat (.bool true)) w S') E := by
  have hn := hv.lt
  (unfold F__law_right m__law_right; with_reducible refine Rf.wp_fn rfl ?_; simp only [Rf.startE, List.map_cons, List.map_nil, List.length_cons, List.length_nil, Nat.reduceAdd, Nat.reduceSub, List.replicate, List.cons_append, List.nil_append])
  (try array_get_dec)
  refine (wp_law_drawn hv).use fun w S1 ⟨⟨p, ws, hw, p1, p4, pf, w6, wf⟩, d1⟩ => ?_
  subst hw
  (try array_get_dec)
  have lw : (wsD ws : PyData) = .tuple (ws.map wrD) := rfl
  refine wp_tTup (w := .dat (.tuple [picD p, wsD ws])) (ws := [.dat (picD p), .dat (wsD ws)]) rfl rfl (wp_tCons (wp_name (wp_tCons (wp_name (wp_tNil ?_)))))
  (try array_get_dec)
  rw [lw]
  (try array_get_dec)
  rw [List.length_map]
  refine (wp_law_gaps d1.vat (by omega)).use fun w S2 ⟨⟨gaps, hw, gf, gup, g8⟩, d2⟩ => ?_
  subst hw
  (try array_get_dec)
  have lp : (picD p : PyData) = .tuple (p.map .int) := rfl
  rw [lp]
  (try array_get_dec)
  rw [List.length_map]
  refine (wp_law_rules (d2.vat) p1 p4).use fun w S3 ⟨⟨rules, hw, r5, rf⟩, d3⟩ => ?_
  subst hw
  (try array_get_dec)
  rw [← lp, ← lw]
  refine (wp_law_promise d3.vat p1 p4 w6 wf r5 rf).use fun w S4 ⟨⟨pr, hw, ml, mf⟩, d4⟩ => ?_
  subst hw
  have d := ((d1.trans d2).trans d3).trans d4
  have ok : PlanOk p ws gaps rules pr := ⟨p1, by omega, pf, by omega, wf, by omega, ⟨gf, gup⟩, by omega, fun r h => (rf r h).1, ml, mf⟩
  have hb2 : ∀ q ∈ S.length :: bs, q ≤ S4.length := fun q hq => by
    rw [d.len]
    rcases List.mem_cons.mp hq with rfl | h
    · exact Nat.le_refl _
    · exact hb q h
  (try array_get_dec)
  refine wp_eq (ev_law_is_kept ok p4 w6) ?_
  (try array_get_dec)
  refine wp_eq (ev_break_of ok p4 hb2) ?_
  (try array_get_dec)
  refine wp_eq (ev_keeps ok p4 hb2) ?_
  rw [← kept_is ml]
  (try array_get_dec)
  refine eq_same (n := 1) (pd_bool _) (by decide) ?_
  have eN : noneOf p ws gaps rules pr = (breakOf p ws gaps rules pr).isNone := rfl
  have eL : ∀ x, breakOf p ws gaps rules pr = some x → x.2.length ≤ 10 := fun x h => breakOf_len p4 h
  have eD : ∀ m c, breakOf p ws gaps rules pr = some (m, c) → dueB p ws gaps rules pr (.tuple [.int m, cutT c]) = true := fun m c h => breakOf_due h
  rw [eN]
  generalize breakOf p ws gaps rules pr = o at eL eD ⊢
  (try array_get_dec)
  refine eq_pd (m := 1) (n := 1) (pd_bool _) (pd_bool _) (by decide) ?_
  generalize hz : PyData.eqv _ _ = z
  obtain rfl : z = true := by rw [← hz]; cases o <;> rfl
  refine ⟨fun h => absurd h (by decide), fun _ => ?_⟩
  (try array_get_dec)
  refine and_false ?_ (fun h => ?_)
  · (try array_get_dec)
    refine (wp_law_near d4.vat o p1 p4 w6 wf eL).use fun w S5 ⟨c, ds, S6, T, hw, hS, d6, hat, hl⟩ => ?_
    subst hw hS
    (try array_get_dec)
    refine ⟨.cell c, by simp only [iterS, iterA, iterT, tupOf, iterL, hat, Option.map_none], ?_⟩
    refine wp_forG (f := W.dat) (xs := ds) (fun pre env S' => ∃ x y, env = [some (.loc n), some (.dat (prD pr)), some (.dat (.bool o.isNone)), some (.dat (optB o)), x, some (.dat (picD p)), some (.dat (wsD ws)), some (.dat (gpD gaps)), some (.dat (rsD rules)), y] ∧ S' = S6 ++ T) (fun pre post env S' hx h => ?_) (fun pre x post env S' hx h => ?_) (fun env S' h => ?_) _ [] ds _ _ rfl (by show ds.length < 100000; omega) ⟨_, _, rfl, rfl⟩
    · obtain ⟨_, _, _, rfl⟩ := h
      show (match (S6 ++ T)[c]? with | some (.lst ws) => some ws[pre.length]? | _ => none : Option (Option W)) = _
      rw [hat]
      exact next_of (S := S6 ++ T) hx
    · obtain ⟨_, _, rfl, rfl⟩ := h
      (try array_get_dec)
      refine wp_eq (ev_law_is_due ok x) ?_
      (try array_get_dec)
      refine wp_eq (ev_is_break ok x) ?_
      (try array_get_dec)
      refine eq_same (n := 1) (pd_bool _) (by decide) ?_
      refine ⟨fun h => absurd h (by decide), fun _ => ?_⟩
      (try array_get_dec)
      exact ⟨_, _, rfl, rfl⟩
    · obtain ⟨_, _, rfl, rfl⟩ := h
      (try array_get_dec)
      have e : S6.length = S.length := (d.trans d6).len
      rw [← e]
      exact rt_app ⟨rfl, d.trans d6⟩
  · cases o with
    | none => exact absurd h (by decide)
    | some x =>
      obtain ⟨m, cc⟩ := x
      dsimp only [optB]
      (try array_get_dec)
      refine wp_eq (ev_law_is_due ok _) ?_
      rw [eD m cc rfl]
      (try array_get_dec)
      exact ⟨rfl, rfl⟩
end
end V

namespace V
open PySem L2 PyProof.Rows Rf Nm
def R0 : List Rule := [([some 0, none], "old"), ([some 1, some 1], "new")]
def P0 : List (List Str) := [["old"], ["old"], ["new", "old"]]
def W0 : List (Nat × Int) := [(1, 1), (0, 1)]
def G0 : List (List Nat) := [[], [1], [2], [1, 2]]
theorem r0_ok : ∀ r ∈ R0, ruleOk 2 r := by
  intro r hr
  have f1 : ("old" : Str) ∈ five := by decide
  have f2 : ("new" : Str) ∈ five := by decide
  simp only [R0, List.mem_cons, List.not_mem_nil, or_false] at hr
  rcases hr with rfl | rfl
  · refine ⟨rfl, fun o ho i e => ?_, five_ok _ f1⟩
    subst e
    simp only [List.mem_cons, List.not_mem_nil, or_false] at ho
    rcases ho with h | h
    · cases h; decide
    · cases h
  · refine ⟨rfl, fun o ho i e => ?_, five_ok _ f2⟩
    subst e
    simp only [List.mem_cons, List.not_mem_nil, or_false] at ho
    rcases ho with h | h <;> (cases h; decide)
theorem p0_ok : ∀ ns ∈ P0, namesOk ns := by
  intro ns hn
  have f1 : ("old" : Str) ∈ five := by decide
  have f2 : ("new" : Str) ∈ five := by decide
  have lt : ltS "new" "old" := by unfold ltS; decide
  have g1 : good5 ["old"] := ⟨fun z hz => by rw [List.mem_singleton.mp hz]; exact f1, List.pairwise_singleton _ _⟩
  have g2 : good5 ["new", "old"] := ⟨fun z hz => by
    simp only [List.mem_cons, List.not_mem_nil, or_false] at hz
    rcases hz with rfl | rfl
    · exact f2
    · exact f1, List.pairwise_cons.mpr ⟨fun z hz => by rw [List.mem_singleton.mp hz]; exact lt, List.pairwise_singleton _ _⟩⟩
  simp only [P0, List.mem_cons, List.not_mem_nil, or_false] at hn
  rcases hn with rfl | rfl | rfl
  · exact g1.ok
  · exact g1.ok
  · exact g2.ok
theorem plan0 {g : List Nat} (h : g ∈ G0) : PlanOk [0, 0] W0 g R0 P0 := by
  refine ⟨by decide, by decide, fun x hx => ?_, by decide, fun w hw => ?_, ?_, ?_, by decide, r0_ok, rfl, p0_ok⟩
  · simp only [List.mem_cons, List.not_mem_nil, or_false] at hx
    rcases hx with rfl | rfl <;> decide
  · simp only [W0, List.mem_cons, List.not_mem_nil, or_false] at hw
    rcases hw with rfl | rfl <;> decide
  · simp only [G0, List.mem_cons, List.not_mem_nil, or_false] at h
    rcases h with rfl | rfl | rfl | rfl <;> decide
  · unfold gapsOk
    simp only [G0, List.mem_cons, List.not_mem_nil, or_false] at h
    rcases h with rfl | rfl | rfl | rfl <;> decide
def Pa : List (List Str) := [["a"]]
theorem plan1 : PlanOk [0] [] [] [] Pa := by
  have f1 : ("a" : Str) ∈ five := by decide
  have g1 : good5 ["a"] := ⟨fun z hz => by rw [List.mem_singleton.mp hz]; exact f1, List.pairwise_singleton _ _⟩
  refine ⟨by decide, by decide, fun x hx => ?_, by decide, fun w hw => (nomatch hw), by decide, by unfold gapsOk; decide, by decide, fun r h => (nomatch h), rfl, fun ns h => ?_⟩
  · rw [List.mem_singleton.mp hx]; decide
  · rw [List.mem_singleton.mp h]; exact g1.ok
theorem kept0 : G0.map (fun g => PyData.bool (noneOf [0, 0] W0 g R0 P0)) = [.bool false, .bool true, .bool false, .bool true] := by
  have h : G0.map (fun g => noneOf [0, 0] W0 g R0 P0) = [false, true, false, true] := by decide +kernel
  have e : G0.map (fun g => PyData.bool (noneOf [0, 0] W0 g R0 P0)) = (G0.map (fun g => noneOf [0, 0] W0 g R0 P0)).map PyData.bool := by rw [List.map_map]; rfl
  rw [e, h]; rfl
theorem break0 : optB (breakOf [0, 0] W0 [] R0 P0) = .tuple [.int 2, .tuple [.int 1, .int 0]] := by
  have h : breakOf [0, 0] W0 [] R0 P0 = some (2, [1, 0]) := by decide +kernel
  rw [h]; rfl
theorem due0 : dueB [0, 0] W0 [2] R0 P0 (.tuple [.int 2, .tuple [.int 1, .int 0]]) = true := by decide +kernel
theorem none1 : noneOf [0] [] [] [] Pa = false := by decide +kernel
section
variable {bs : List Nat} {S : Store} {n : Nat} {E : EK}
theorem wp_law (ns : List Int) (hb : ∀ q ∈ bs, q ≤ S.length) : (F_law bs [.lw (ns.map fun n => .dat (.int n))] S).wp (fun w _ => w = .dat (.bool true)) E := by
  (unfold F_law m_law; with_reducible refine Rf.wp_fn rfl ?_; simp only [Rf.startE, List.map_cons, List.map_nil, List.length_cons, List.length_nil, Nat.reduceAdd, Nat.reduceSub, List.replicate, List.cons_append, List.nil_append])
  (try array_get_dec)
  refine wp_range (fun k env S' => ∃ z1 z4 z5, env = [some (.lw (ns.map fun n => .dat (.int n))), z1, none, none, z4, z5, none, none, none] ∧ S.length ≤ S'.length) ⟨none, none, none, rfl, Nat.le_refl _⟩ (fun k env S' hk h => ?_) (fun env S' h => ?_)
  · obtain ⟨z1, z4, z5, i, i2⟩ := h
    subst i
    (try array_get_dec)
    refine (wp_vat ns k).use fun w S2 ⟨hw, a, b, c, e⟩ => ?_
    subst hw e
    have hv : Vat (S' ++ [.lst [.int a, .int b, .int c]]) S'.length := ⟨a, b, c, at_app1 _ _⟩
    have hl : S.length ≤ (S' ++ [Cell.lst [.int a, .int b, .int c]]).length := by simp; omega
    generalize (S' ++ [Cell.lst [.int a, .int b, .int c]]) = S3 at hv hl
    generalize S'.length = n at hv
    (try array_get_dec)
    refine wp_range (fun j env S'' => ∃ z1 z5, env = [some (.lw (ns.map fun n => .dat (.int n))), z1, none, none, some (.loc n), z5, none, none, none] ∧ S.length ≤ S''.length ∧ Vat S'' n) ⟨_, _, rfl, hl, hv⟩ (fun j env S'' hj h => ?_) (fun env S'' h => ?_)
    · obtain ⟨z1, z5, i, i2, i3⟩ := h
      subst i
      (try array_get_dec)
      refine (wp_law_right i3 (fun q hq => ?_)).use fun w S5 ⟨hw, d⟩ => ?_
      · rcases List.mem_cons.mp hq with rfl | h
        · exact i2
        · exact Nat.le_trans (hb q h) i2
      subst hw
      (try array_get_dec)
      exact ⟨_, _, rfl, by rw [d.len]; exact i2, d.vat⟩
    · obtain ⟨z1, z5, i, i2, i3⟩ := h
      subst i
      (try array_get_dec)
      exact ⟨_, _, _, rfl, i2⟩
  · obtain ⟨z1, z4, z5, i, i2⟩ := h
    subst i
    (try array_get_dec)
    have hb2 : ∀ q ∈ S.length :: bs, q ≤ S'.length := fun q hq => by
      rcases List.mem_cons.mp hq with rfl | h
      · exact i2
      · exact Nat.le_trans (hb q h) i2
    refine wp_tTup (ws := [.dat (rsD R0), .dat (prD P0)]) rfl rfl (wp_tCons (wp_name (wp_tCons (wp_name (wp_tNil ?_)))))
    (try array_get_dec)
    refine wp_compM (f := fun g => W.dat (gpD g)) (xs := G0) (fun g => .dat (.bool (noneOf [0, 0] W0 g R0 P0))) (by decide) (fun g hg => ?_) ?_
    · (try array_get_dec)
      refine wp_eq (ev_keeps (p := [0, 0]) (ws := W0) (plan0 hg) (by decide) hb2) ?_
      exact ⟨rfl, rfl⟩
    refine nl_map ?_
    (try array_get_dec)
    rw [kept0]
    refine eq_same (n := 2) (pd_lst fun x hx => ?_) (by decide) ?_
    · simp only [List.mem_cons, List.not_mem_nil, or_false] at hx
      rcases hx with rfl | rfl | rfl | rfl <;> exact pd_bool _
    (try array_get_dec)
    refine wp_eq (ev_break_of (p := [0, 0]) (ws := W0) (gaps := []) (plan0 (by decide)) (by decide) hb2) ?_
    rw [break0]
    (try array_get_dec)
    refine eq_same (n := 3) (pd_tup fun x hx => ?_) (by decide) ?_
    · simp only [List.mem_cons, List.not_mem_nil, or_false] at hx
      rcases hx with rfl | rfl
      · exact pd_int _
      · exact (pd_tup (n := 1) fun x hx => by
          simp only [List.mem_cons, List.not_mem_nil, or_false] at hx
          rcases hx with rfl | rfl <;> exact pd_int _).mono (by decide)
    (try array_get_dec)
    refine wp_eq (ev_is_break (p := [0, 0]) (ws := W0) (gaps := [2]) (plan0 (by decide)) _) ?_
    rw [due0]
    (try array_get_dec)
    refine wp_eq (ev_keeps (p := [0]) (ws := []) (gaps := []) (rules := []) (pr := Pa) plan1 (by decide) hb2) ?_
    rw [none1]
    exact ⟨false, rfl, rt_dat rfl⟩
end
theorem right (ns : List Int) (_ : ns.length ≤ 63) (_ : ∀ z ∈ ns, Builtin.Int.intBits z ≤ 1048576) : ∃ S, F_law [] [.lw (ns.map fun n => .dat (.int n))] [] = .ok (.bl true) S := by
  have h := ok_of_wp (wp_law (S := []) (bs := []) ns (fun q h => nomatch h))
  refine Exists.elim h fun w h => Exists.elim h fun S h => ⟨S, ?_⟩
  rw [h.1, h.2]
end V

namespace V
open PySem PySem.Spec L2 PyProof.Rows Rf
theorem all_mk (right : ∀ ns : List Int, ns.length ≤ 63 → (∀ z ∈ ns, Builtin.Int.intBits z ≤ 1048576) → ∃ S, F_law [] [.lw (ns.map fun n => .dat (.int n))] [] = .ok (.bl true) S) {l : PySem.W.OpenLaw} {w : World} {K : PySem.W.Frag} {h : Heap} {mg mb : Str → Option Value} {q : Program} {ls : List Str} {mean : ExcName → Option Value} {fa : Addr} (X : K.In h) (Tp : Top q ls mean mg mb h) (G : h.Ns mainGlobals mg) (hfa : mg "law" = some (.ref fa))
    (hq : ([] : List Str).all (has1 q) = true)
    {tk0 : Tok} {tk1 : Tok} {tk2 : Tok} {tk3 : Tok} {tk4 : Tok} {tk5 : Tok} {a0 : Addr} {od0 an0 : Option Addr} {sl0 : Array (Option Value)} {oc0 kV0 dc0 pm0 cd0 ct0 : Value} {a1 : Addr} {od1 an1 : Option Addr} {sl1 : Array (Option Value)} {oc1 kV1 dc1 pm1 cd1 ct1 : Value} {a2 : Addr} {od2 an2 : Option Addr} {sl2 : Array (Option Value)} {oc2 kV2 dc2 pm2 cd2 ct2 : Value} {a3 : Addr} {od3 an3 : Option Addr} {sl3 : Array (Option Value)} {oc3 kV3 dc3 pm3 cd3 ct3 : Value} {a4 : Addr} {od4 an4 : Option Addr} {sl4 : Array (Option Value)} {oc4 kV4 dc4 pm4 cd4 ct4 : Value} {a5 : Addr} {od5 an5 : Option Addr} {sl5 : Array (Option Value)} {oc5 kV5 dc5 pm5 cd5 ct5 : Value} {a6 : Addr} {od6 an6 : Option Addr} {sl6 : Array (Option Value)} {oc6 kV6 dc6 pm6 cd6 ct6 : Value} {a7 : Addr} {od7 an7 : Option Addr} {sl7 : Array (Option Value)} {oc7 kV7 dc7 pm7 cd7 ct7 : Value} {a8 : Addr} {od8 an8 : Option Addr} {sl8 : Array (Option Value)} {oc8 kV8 dc8 pm8 cd8 ct8 : Value} {a9 : Addr} {od9 an9 : Option Addr} {sl9 : Array (Option Value)} {oc9 kV9 dc9 pm9 cd9 ct9 : Value} {a10 : Addr} {od10 an10 : Option Addr} {sl10 : Array (Option Value)} {oc10 kV10 dc10 pm10 cd10 ct10 : Value} {a11 : Addr} {od11 an11 : Option Addr} {sl11 : Array (Option Value)} {oc11 kV11 dc11 pm11 cd11 ct11 : Value} {a12 : Addr} {od12 an12 : Option Addr} {sl12 : Array (Option Value)} {oc12 kV12 dc12 pm12 cd12 ct12 : Value} {a13 : Addr} {od13 an13 : Option Addr} {sl13 : Array (Option Value)} {oc13 kV13 dc13 pm13 cd13 ct13 : Value} {a14 : Addr} {od14 an14 : Option Addr} {sl14 : Array (Option Value)} {oc14 kV14 dc14 pm14 cd14 ct14 : Value} {a15 : Addr} {od15 an15 : Option Addr} {sl15 : Array (Option Value)} {oc15 kV15 dc15 pm15 cd15 ct15 : Value} {a16 : Addr} {od16 an16 : Option Addr} {sl16 : Array (Option Value)} {oc16 kV16 dc16 pm16 cd16 ct16 : Value} {a17 : Addr} {od17 an17 : Option Addr} {sl17 : Array (Option Value)} {oc17 kV17 dc17 pm17 cd17 ct17 : Value} {a18 : Addr} {od18 an18 : Option Addr} {sl18 : Array (Option Value)} {oc18 kV18 dc18 pm18 cd18 ct18 : Value} {a19 : Addr} {od19 an19 : Option Addr} {sl19 : Array (Option Value)} {oc19 kV19 dc19 pm19 cd19 ct19 : Value} {a20 : Addr} {od20 an20 : Option Addr} {sl20 : Array (Option Value)} {oc20 kV20 dc20 pm20 cd20 ct20 : Value} {a22 : Addr} {od22 an22 : Option Addr} {sl22 : Array (Option Value)} {oc22 kV22 dc22 pm22 cd22 ct22 : Value} {a21 : Addr} {od21 an21 : Option Addr} {sl21 : Array (Option Value)} {oc21 kV21 dc21 pm21 cd21 ct21 : Value} {a23 : Addr} {od23 an23 : Option Addr} {sl23 : Array (Option Value)} {oc23 kV23 dc23 pm23 cd23 ct23 : Value} {a24 : Addr} {od24 an24 : Option Addr} {sl24 : Array (Option Value)} {oc24 kV24 dc24 pm24 cd24 ct24 : Value} {a25 : Addr} {od25 an25 : Option Addr} {sl25 : Array (Option Value)} {oc25 kV25 dc25 pm25 cd25 ct25 : Value} {a26 : Addr} {od26 an26 : Option Addr} {sl26 : Array (Option Value)} {oc26 kV26 dc26 pm26 cd26 ct26 : Value} {a27 : Addr} {od27 an27 : Option Addr} {sl27 : Array (Option Value)} {oc27 kV27 dc27 pm27 cd27 ct27 : Value} {a28 : Addr} {od28 an28 : Option Addr} {sl28 : Array (Option Value)} {oc28 kV28 dc28 pm28 cd28 ct28 : Value} {a29 : Addr} {od29 an29 : Option Addr} {sl29 : Array (Option Value)} {oc29 kV29 dc29 pm29 cd29 ct29 : Value} {a30 : Addr} {od30 an30 : Option Addr} {sl30 : Array (Option Value)} {oc30 kV30 dc30 pm30 cd30 ct30 : Value} {a31 : Addr} {od31 an31 : Option Addr} {sl31 : Array (Option Value)} {oc31 kV31 dc31 pm31 cd31 ct31 : Value} {a32 : Addr} {od32 an32 : Option Addr} {sl32 : Array (Option Value)} {oc32 kV32 dc32 pm32 cd32 ct32 : Value} {a33 : Addr} {od33 an33 : Option Addr} {sl33 : Array (Option Value)} {oc33 kV33 dc33 pm33 cd33 ct33 : Value} {a34 : Addr} {od34 an34 : Option Addr} {sl34 : Array (Option Value)} {oc34 kV34 dc34 pm34 cd34 ct34 : Value} {a35 : Addr} {od35 an35 : Option Addr} {sl35 : Array (Option Value)} {oc35 kV35 dc35 pm35 cd35 ct35 : Value} {a36 : Addr} {od36 an36 : Option Addr} {sl36 : Array (Option Value)} {oc36 kV36 dc36 pm36 cd36 ct36 : Value} {a37 : Addr} {od37 an37 : Option Addr} {sl37 : Array (Option Value)} {oc37 kV37 dc37 pm37 cd37 ct37 : Value} {a38 : Addr} {od38 an38 : Option Addr} {sl38 : Array (Option Value)} {oc38 kV38 dc38 pm38 cd38 ct38 : Value} {a39 : Addr} {od39 an39 : Option Addr} {sl39 : Array (Option Value)} {oc39 kV39 dc39 pm39 cd39 ct39 : Value} {a40 : Addr} {od40 an40 : Option Addr} {sl40 : Array (Option Value)} {oc40 kV40 dc40 pm40 cd40 ct40 : Value} {a41 : Addr} {od41 an41 : Option Addr} {sl41 : Array (Option Value)} {oc41 kV41 dc41 pm41 cd41 ct41 : Value} {a42 : Addr} {od42 an42 : Option Addr} {sl42 : Array (Option Value)} {oc42 kV42 dc42 pm42 cd42 ct42 : Value} {a43 : Addr} {od43 an43 : Option Addr} {sl43 : Array (Option Value)} {oc43 kV43 dc43 pm43 cd43 ct43 : Value} {C0 : Addr} {C50 : Addr} {C51 : Addr}
    (aC0 : PySem.W.nsIn K mainGlobals "Plan" = some (some (.ref C0)))
    (aX50 : PySem.W.nsIn K mainGlobals "InvalidPicture" = some (some (.ref C50)))
    (aX51 : PySem.W.nsIn K mainGlobals "InvalidOperation" = some (some (.ref C51)))
    (q0 : PySem.W.nsIn K mainGlobals "MAX_NAME" = some (some (.int (8) tk0)))
    (q1 : PySem.W.nsIn K mainGlobals "LETTERS" = some (some (.str "abcdefghijklmnopqrstuvwxyz" tk1)))
    (q2 : PySem.W.nsIn K mainGlobals "MOST_FIGURE" = some (some (.int (9) tk2)))
    (q3 : PySem.W.nsIn K mainGlobals "MAX_CELLS" = some (some (.int (6) tk3)))
    (q4 : PySem.W.nsIn K mainGlobals "MAX_WRITES" = some (some (.int (8) tk4)))
    (q5 : PySem.W.nsIn K mainGlobals "MAX_RULES" = some (some (.int (24) tk5)))
    (m0 : PySem.W.nsIn K mainGlobals "is_number" = some (some (.ref a0)))
    (l0 : K.lookup a0 = some ⟨oc0, od0, .func (PySem.W.fnOf "is_number" "is_number" (defArgs (top 5)) (defBody (top 5)) (defScope (top 5)) .none kV0 dc0 pm0 an0 cd0 ct0), sl0⟩) (c0 : PySem.W.codeIn K cd0 "is_number" = true) (k0 : PySem.W.keepIn K (.ref a0) = true)
    (m1 : PySem.W.nsIn K mainGlobals "is_name" = some (some (.ref a1)))
    (l1 : K.lookup a1 = some ⟨oc1, od1, .func (PySem.W.fnOf "is_name" "is_name" (defArgs (top 9)) (defBody (top 9)) (defScope (top 9)) .none kV1 dc1 pm1 an1 cd1 ct1), sl1⟩) (c1 : PySem.W.codeIn K cd1 "is_name" = true) (k1 : PySem.W.keepIn K (.ref a1) = true)
    (m2 : PySem.W.nsIn K mainGlobals "_is_figure" = some (some (.ref a2)))
    (l2 : K.lookup a2 = some ⟨oc2, od2, .func (PySem.W.fnOf "_is_figure" "_is_figure" (defArgs (top 15)) (defBody (top 15)) (defScope (top 15)) .none kV2 dc2 pm2 an2 cd2 ct2), sl2⟩) (c2 : PySem.W.codeIn K cd2 "_is_figure" = true) (k2 : PySem.W.keepIn K (.ref a2) = true)
    (m3 : PySem.W.nsIn K mainGlobals "_check_picture" = some (some (.ref a3)))
    (l3 : K.lookup a3 = some ⟨oc3, od3, .func (PySem.W.fnOf "_check_picture" "_check_picture" (defArgs (top 16)) (defBody (top 16)) (defScope (top 16)) .none kV3 dc3 pm3 an3 cd3 ct3), sl3⟩) (c3 : PySem.W.codeIn K cd3 "_check_picture" = true) (k3 : PySem.W.keepIn K (.ref a3) = true)
    (m4 : PySem.W.nsIn K mainGlobals "_is_write" = some (some (.ref a4)))
    (l4 : K.lookup a4 = some ⟨oc4, od4, .func (PySem.W.fnOf "_is_write" "_is_write" (defArgs (top 17)) (defBody (top 17)) (defScope (top 17)) .none kV4 dc4 pm4 an4 cd4 ct4), sl4⟩) (c4 : PySem.W.codeIn K cd4 "_is_write" = true) (k4 : PySem.W.keepIn K (.ref a4) = true)
    (m5 : PySem.W.nsIn K mainGlobals "_check_writes" = some (some (.ref a5)))
    (l5 : K.lookup a5 = some ⟨oc5, od5, .func (PySem.W.fnOf "_check_writes" "_check_writes" (defArgs (top 18)) (defBody (top 18)) (defScope (top 18)) .none kV5 dc5 pm5 an5 cd5 ct5), sl5⟩) (c5 : PySem.W.codeIn K cd5 "_check_writes" = true) (k5 : PySem.W.keepIn K (.ref a5) = true)
    (m6 : PySem.W.nsIn K mainGlobals "_check_gaps" = some (some (.ref a6)))
    (l6 : K.lookup a6 = some ⟨oc6, od6, .func (PySem.W.fnOf "_check_gaps" "_check_gaps" (defArgs (top 19)) (defBody (top 19)) (defScope (top 19)) .none kV6 dc6 pm6 an6 cd6 ct6), sl6⟩) (c6 : PySem.W.codeIn K cd6 "_check_gaps" = true) (k6 : PySem.W.keepIn K (.ref a6) = true)
    (m7 : PySem.W.nsIn K mainGlobals "_is_pattern" = some (some (.ref a7)))
    (l7 : K.lookup a7 = some ⟨oc7, od7, .func (PySem.W.fnOf "_is_pattern" "_is_pattern" (defArgs (top 20)) (defBody (top 20)) (defScope (top 20)) .none kV7 dc7 pm7 an7 cd7 ct7), sl7⟩) (c7 : PySem.W.codeIn K cd7 "_is_pattern" = true) (k7 : PySem.W.keepIn K (.ref a7) = true)
    (m8 : PySem.W.nsIn K mainGlobals "_is_rule" = some (some (.ref a8)))
    (l8 : K.lookup a8 = some ⟨oc8, od8, .func (PySem.W.fnOf "_is_rule" "_is_rule" (defArgs (top 21)) (defBody (top 21)) (defScope (top 21)) .none kV8 dc8 pm8 an8 cd8 ct8), sl8⟩) (c8 : PySem.W.codeIn K cd8 "_is_rule" = true) (k8 : PySem.W.keepIn K (.ref a8) = true)
    (m9 : PySem.W.nsIn K mainGlobals "_check_rules" = some (some (.ref a9)))
    (l9 : K.lookup a9 = some ⟨oc9, od9, .func (PySem.W.fnOf "_check_rules" "_check_rules" (defArgs (top 22)) (defBody (top 22)) (defScope (top 22)) .none kV9 dc9 pm9 an9 cd9 ct9), sl9⟩) (c9 : PySem.W.codeIn K cd9 "_check_rules" = true) (k9 : PySem.W.keepIn K (.ref a9) = true)
    (m10 : PySem.W.nsIn K mainGlobals "_are_ascending_names" = some (some (.ref a10)))
    (l10 : K.lookup a10 = some ⟨oc10, od10, .func (PySem.W.fnOf "_are_ascending_names" "_are_ascending_names" (defArgs (top 23)) (defBody (top 23)) (defScope (top 23)) .none kV10 dc10 pm10 an10 cd10 ct10), sl10⟩) (c10 : PySem.W.codeIn K cd10 "_are_ascending_names" = true) (k10 : PySem.W.keepIn K (.ref a10) = true)
    (m11 : PySem.W.nsIn K mainGlobals "_check_promise" = some (some (.ref a11)))
    (l11 : K.lookup a11 = some ⟨oc11, od11, .func (PySem.W.fnOf "_check_promise" "_check_promise" (defArgs (top 24)) (defBody (top 24)) (defScope (top 24)) .none kV11 dc11 pm11 an11 cd11 ct11), sl11⟩) (c11 : PySem.W.codeIn K cd11 "_check_promise" = true) (k11 : PySem.W.keepIn K (.ref a11) = true)
    (m12 : PySem.W.nsIn K mainGlobals "_check_told" = some (some (.ref a12)))
    (l12 : K.lookup a12 = some ⟨oc12, od12, .func (PySem.W.fnOf "_check_told" "_check_told" (defArgs (top 25)) (defBody (top 25)) (defScope (top 25)) .none kV12 dc12 pm12 an12 cd12 ct12), sl12⟩) (c12 : PySem.W.codeIn K cd12 "_check_told" = true) (k12 : PySem.W.keepIn K (.ref a12) = true)
    (m13 : PySem.W.nsIn K mainGlobals "_check_plan" = some (some (.ref a13)))
    (l13 : K.lookup a13 = some ⟨oc13, od13, .func (PySem.W.fnOf "_check_plan" "_check_plan" (defArgs (top 26)) (defBody (top 26)) (defScope (top 26)) .none kV13 dc13 pm13 an13 cd13 ct13), sl13⟩) (c13 : PySem.W.codeIn K cd13 "_check_plan" = true) (k13 : PySem.W.keepIn K (.ref a13) = true)
    (m14 : PySem.W.nsIn K mainGlobals "_last_gap" = some (some (.ref a14)))
    (l14 : K.lookup a14 = some ⟨oc14, od14, .func (PySem.W.fnOf "_last_gap" "_last_gap" (defArgs (top 27)) (defBody (top 27)) (defScope (top 27)) .none kV14 dc14 pm14 an14 cd14 ct14), sl14⟩) (c14 : PySem.W.codeIn K cd14 "_last_gap" = true) (k14 : PySem.W.keepIn K (.ref a14) = true)
    (m15 : PySem.W.nsIn K mainGlobals "_versions" = some (some (.ref a15)))
    (l15 : K.lookup a15 = some ⟨oc15, od15, .func (PySem.W.fnOf "_versions" "_versions" (defArgs (top 28)) (defBody (top 28)) (defScope (top 28)) .none kV15 dc15 pm15 an15 cd15 ct15), sl15⟩) (c15 : PySem.W.codeIn K cd15 "_versions" = true) (k15 : PySem.W.keepIn K (.ref a15) = true)
    (m16 : PySem.W.nsIn K mainGlobals "_cuts_with_pictures" = some (some (.ref a16)))
    (l16 : K.lookup a16 = some ⟨oc16, od16, .func (PySem.W.fnOf "_cuts_with_pictures" "_cuts_with_pictures" (defArgs (top 29)) (defBody (top 29)) (defScope (top 29)) .none kV16 dc16 pm16 an16 cd16 ct16), sl16⟩) (c16 : PySem.W.codeIn K cd16 "_cuts_with_pictures" = true) (k16 : PySem.W.keepIn K (.ref a16) = true)
    (m17 : PySem.W.nsIn K mainGlobals "_picture_left" = some (some (.ref a17)))
    (l17 : K.lookup a17 = some ⟨oc17, od17, .func (PySem.W.fnOf "_picture_left" "_picture_left" (defArgs (top 30)) (defBody (top 30)) (defScope (top 30)) .none kV17 dc17 pm17 an17 cd17 ct17), sl17⟩) (c17 : PySem.W.codeIn K cd17 "_picture_left" = true) (k17 : PySem.W.keepIn K (.ref a17) = true)
    (m18 : PySem.W.nsIn K mainGlobals "_fits" = some (some (.ref a18)))
    (l18 : K.lookup a18 = some ⟨oc18, od18, .func (PySem.W.fnOf "_fits" "_fits" (defArgs (top 31)) (defBody (top 31)) (defScope (top 31)) .none kV18 dc18 pm18 an18 cd18 ct18), sl18⟩) (c18 : PySem.W.codeIn K cd18 "_fits" = true) (k18 : PySem.W.keepIn K (.ref a18) = true)
    (m19 : PySem.W.nsIn K mainGlobals "_meaning" = some (some (.ref a19)))
    (l19 : K.lookup a19 = some ⟨oc19, od19, .func (PySem.W.fnOf "_meaning" "_meaning" (defArgs (top 32)) (defBody (top 32)) (defScope (top 32)) .none kV19 dc19 pm19 an19 cd19 ct19), sl19⟩) (c19 : PySem.W.codeIn K cd19 "_meaning" = true) (k19 : PySem.W.keepIn K (.ref a19) = true)
    (m20 : PySem.W.findIn K (.ref C0) "__init__" = some (some (.ref a20))) (i20 : PySem.W.isFn K (.ref a20) = true)
    (l20 : K.lookup a20 = some ⟨oc20, od20, .func (PySem.W.fnOf "__init__" "Plan.__init__" (defArgs (inClass (top 33) 0)) (defBody (inClass (top 33) 0)) (defScope (inClass (top 33) 0)) .none kV20 dc20 pm20 an20 cd20 ct20), sl20⟩) (c20 : PySem.W.codeIn K cd20 "Plan.__init__" = true) (k20 : PySem.W.keepIn K (.ref a20) = true)
    (m22 : PySem.W.findIn K (.ref C0) "look" = some (some (.ref a22))) (i22 : PySem.W.isFn K (.ref a22) = true)
    (l22 : K.lookup a22 = some ⟨oc22, od22, .func (PySem.W.fnOf "look" "Plan.look" (defArgs (inClass (top 33) 2)) (defBody (inClass (top 33) 2)) (defScope (inClass (top 33) 2)) .none kV22 dc22 pm22 an22 cd22 ct22), sl22⟩) (c22 : PySem.W.codeIn K cd22 "Plan.look" = true) (k22 : PySem.W.keepIn K (.ref a22) = true)
    (m21 : PySem.W.findIn K (.ref C0) "broken" = some (some (.ref a21))) (i21 : PySem.W.isFn K (.ref a21) = true)
    (l21 : K.lookup a21 = some ⟨oc21, od21, .func (PySem.W.fnOf "broken" "Plan.broken" (defArgs (inClass (top 33) 1)) (defBody (inClass (top 33) 1)) (defScope (inClass (top 33) 1)) .none kV21 dc21 pm21 an21 cd21 ct21), sl21⟩) (c21 : PySem.W.codeIn K cd21 "Plan.broken" = true) (k21 : PySem.W.keepIn K (.ref a21) = true)
    (m23 : PySem.W.findIn K (.ref C0) "broken_by" = some (some (.ref a23))) (i23 : PySem.W.isFn K (.ref a23) = true)
    (l23 : K.lookup a23 = some ⟨oc23, od23, .func (PySem.W.fnOf "broken_by" "Plan.broken_by" (defArgs (inClass (top 33) 3)) (defBody (inClass (top 33) 3)) (defScope (inClass (top 33) 3)) .none kV23 dc23 pm23 an23 cd23 ct23), sl23⟩) (c23 : PySem.W.codeIn K cd23 "Plan.broken_by" = true) (k23 : PySem.W.keepIn K (.ref a23) = true)
    (m24 : PySem.W.nsIn K mainGlobals "break_of" = some (some (.ref a24)))
    (l24 : K.lookup a24 = some ⟨oc24, od24, .func (PySem.W.fnOf "break_of" "break_of" (defArgs (top 34)) (defBody (top 34)) (defScope (top 34)) .none kV24 dc24 pm24 an24 cd24 ct24), sl24⟩) (c24 : PySem.W.codeIn K cd24 "break_of" = true) (k24 : PySem.W.keepIn K (.ref a24) = true)
    (m25 : PySem.W.nsIn K mainGlobals "keeps" = some (some (.ref a25)))
    (l25 : K.lookup a25 = some ⟨oc25, od25, .func (PySem.W.fnOf "keeps" "keeps" (defArgs (top 35)) (defBody (top 35)) (defScope (top 35)) .none kV25 dc25 pm25 an25 cd25 ct25), sl25⟩) (c25 : PySem.W.codeIn K cd25 "keeps" = true) (k25 : PySem.W.keepIn K (.ref a25) = true)
    (m26 : PySem.W.nsIn K mainGlobals "is_break" = some (some (.ref a26)))
    (l26 : K.lookup a26 = some ⟨oc26, od26, .func (PySem.W.fnOf "is_break" "is_break" (defArgs (top 36)) (defBody (top 36)) (defScope (top 36)) .none kV26 dc26 pm26 an26 cd26 ct26), sl26⟩) (c26 : PySem.W.codeIn K cd26 "is_break" = true) (k26 : PySem.W.keepIn K (.ref a26) = true)
    (m27 : PySem.W.nsIn K mainGlobals "_law_bowl" = some (some (.ref a27)))
    (l27 : K.lookup a27 = some ⟨oc27, od27, .func (PySem.W.fnOf "_law_bowl" "_law_bowl" (defArgs (top 38)) (defBody (top 38)) (defScope (top 38)) .none kV27 dc27 pm27 an27 cd27 ct27), sl27⟩) (c27 : PySem.W.codeIn K cd27 "_law_bowl" = true) (k27 : PySem.W.keepIn K (.ref a27) = true)
    (m28 : PySem.W.nsIn K mainGlobals "_law_dip" = some (some (.ref a28)))
    (l28 : K.lookup a28 = some ⟨oc28, od28, .func (PySem.W.fnOf "_law_dip" "_law_dip" (defArgs (top 39)) (defBody (top 39)) (defScope (top 39)) .none kV28 dc28 pm28 an28 cd28 ct28), sl28⟩) (c28 : PySem.W.codeIn K cd28 "_law_dip" = true) (k28 : PySem.W.keepIn K (.ref a28) = true)
    (m29 : PySem.W.nsIn K mainGlobals "_law_taste" = some (some (.ref a29)))
    (l29 : K.lookup a29 = some ⟨oc29, od29, .func (PySem.W.fnOf "_law_taste" "_law_taste" (defArgs (top 40)) (defBody (top 40)) (defScope (top 40)) .none kV29 dc29 pm29 an29 cd29 ct29), sl29⟩) (c29 : PySem.W.codeIn K cd29 "_law_taste" = true) (k29 : PySem.W.keepIn K (.ref a29) = true)
    (m30 : PySem.W.nsIn K mainGlobals "_law_drawn" = some (some (.ref a30)))
    (l30 : K.lookup a30 = some ⟨oc30, od30, .func (PySem.W.fnOf "_law_drawn" "_law_drawn" (defArgs (top 41)) (defBody (top 41)) (defScope (top 41)) .none kV30 dc30 pm30 an30 cd30 ct30), sl30⟩) (c30 : PySem.W.codeIn K cd30 "_law_drawn" = true) (k30 : PySem.W.keepIn K (.ref a30) = true)
    (m31 : PySem.W.nsIn K mainGlobals "_law_gaps" = some (some (.ref a31)))
    (l31 : K.lookup a31 = some ⟨oc31, od31, .func (PySem.W.fnOf "_law_gaps" "_law_gaps" (defArgs (top 42)) (defBody (top 42)) (defScope (top 42)) .none kV31 dc31 pm31 an31 cd31 ct31), sl31⟩) (c31 : PySem.W.codeIn K cd31 "_law_gaps" = true) (k31 : PySem.W.keepIn K (.ref a31) = true)
    (m32 : PySem.W.nsIn K mainGlobals "_law_rows" = some (some (.ref a32)))
    (l32 : K.lookup a32 = some ⟨oc32, od32, .func (PySem.W.fnOf "_law_rows" "_law_rows" (defArgs (top 43)) (defBody (top 43)) (defScope (top 43)) .none kV32 dc32 pm32 an32 cd32 ct32), sl32⟩) (c32 : PySem.W.codeIn K cd32 "_law_rows" = true) (k32 : PySem.W.keepIn K (.ref a32) = true)
    (m33 : PySem.W.nsIn K mainGlobals "_law_all" = some (some (.ref a33)))
    (l33 : K.lookup a33 = some ⟨oc33, od33, .func (PySem.W.fnOf "_law_all" "_law_all" (defArgs (top 44)) (defBody (top 44)) (defScope (top 44)) .none kV33 dc33 pm33 an33 cd33 ct33), sl33⟩) (c33 : PySem.W.codeIn K cd33 "_law_all" = true) (k33 : PySem.W.keepIn K (.ref a33) = true)
    (m34 : PySem.W.nsIn K mainGlobals "_law_rules" = some (some (.ref a34)))
    (l34 : K.lookup a34 = some ⟨oc34, od34, .func (PySem.W.fnOf "_law_rules" "_law_rules" (defArgs (top 45)) (defBody (top 45)) (defScope (top 45)) .none kV34 dc34 pm34 an34 cd34 ct34), sl34⟩) (c34 : PySem.W.codeIn K cd34 "_law_rules" = true) (k34 : PySem.W.keepIn K (.ref a34) = true)
    (m35 : PySem.W.nsIn K mainGlobals "_law_meaning" = some (some (.ref a35)))
    (l35 : K.lookup a35 = some ⟨oc35, od35, .func (PySem.W.fnOf "_law_meaning" "_law_meaning" (defArgs (top 46)) (defBody (top 46)) (defScope (top 46)) .none kV35 dc35 pm35 an35 cd35 ct35), sl35⟩) (c35 : PySem.W.codeIn K cd35 "_law_meaning" = true) (k35 : PySem.W.keepIn K (.ref a35) = true)
    (m36 : PySem.W.nsIn K mainGlobals "_law_names" = some (some (.ref a36)))
    (l36 : K.lookup a36 = some ⟨oc36, od36, .func (PySem.W.fnOf "_law_names" "_law_names" (defArgs (top 47)) (defBody (top 47)) (defScope (top 47)) .none kV36 dc36 pm36 an36 cd36 ct36), sl36⟩) (c36 : PySem.W.codeIn K cd36 "_law_names" = true) (k36 : PySem.W.keepIn K (.ref a36) = true)
    (m37 : PySem.W.nsIn K mainGlobals "_law_promise" = some (some (.ref a37)))
    (l37 : K.lookup a37 = some ⟨oc37, od37, .func (PySem.W.fnOf "_law_promise" "_law_promise" (defArgs (top 48)) (defBody (top 48)) (defScope (top 48)) .none kV37 dc37 pm37 an37 cd37 ct37), sl37⟩) (c37 : PySem.W.codeIn K cd37 "_law_promise" = true) (k37 : PySem.W.keepIn K (.ref a37) = true)
    (m38 : PySem.W.nsIn K mainGlobals "_law_is_kept" = some (some (.ref a38)))
    (l38 : K.lookup a38 = some ⟨oc38, od38, .func (PySem.W.fnOf "_law_is_kept" "_law_is_kept" (defArgs (top 49)) (defBody (top 49)) (defScope (top 49)) .none kV38 dc38 pm38 an38 cd38 ct38), sl38⟩) (c38 : PySem.W.codeIn K cd38 "_law_is_kept" = true) (k38 : PySem.W.keepIn K (.ref a38) = true)
    (m39 : PySem.W.nsIn K mainGlobals "_law_is_whole" = some (some (.ref a39)))
    (l39 : K.lookup a39 = some ⟨oc39, od39, .func (PySem.W.fnOf "_law_is_whole" "_law_is_whole" (defArgs (top 50)) (defBody (top 50)) (defScope (top 50)) .none kV39 dc39 pm39 an39 cd39 ct39), sl39⟩) (c39 : PySem.W.codeIn K cd39 "_law_is_whole" = true) (k39 : PySem.W.keepIn K (.ref a39) = true)
    (m40 : PySem.W.nsIn K mainGlobals "_law_is_due" = some (some (.ref a40)))
    (l40 : K.lookup a40 = some ⟨oc40, od40, .func (PySem.W.fnOf "_law_is_due" "_law_is_due" (defArgs (top 51)) (defBody (top 51)) (defScope (top 51)) .none kV40 dc40 pm40 an40 cd40 ct40), sl40⟩) (c40 : PySem.W.codeIn K cd40 "_law_is_due" = true) (k40 : PySem.W.keepIn K (.ref a40) = true)
    (m41 : PySem.W.nsIn K mainGlobals "_law_near" = some (some (.ref a41)))
    (l41 : K.lookup a41 = some ⟨oc41, od41, .func (PySem.W.fnOf "_law_near" "_law_near" (defArgs (top 52)) (defBody (top 52)) (defScope (top 52)) .none kV41 dc41 pm41 an41 cd41 ct41), sl41⟩) (c41 : PySem.W.codeIn K cd41 "_law_near" = true) (k41 : PySem.W.keepIn K (.ref a41) = true)
    (m42 : PySem.W.nsIn K mainGlobals "_law_right" = some (some (.ref a42)))
    (l42 : K.lookup a42 = some ⟨oc42, od42, .func (PySem.W.fnOf "_law_right" "_law_right" (defArgs (top 53)) (defBody (top 53)) (defScope (top 53)) .none kV42 dc42 pm42 an42 cd42 ct42), sl42⟩) (c42 : PySem.W.codeIn K cd42 "_law_right" = true) (k42 : PySem.W.keepIn K (.ref a42) = true)
    (m43 : PySem.W.nsIn K mainGlobals "law" = some (some (.ref a43)))
    (l43 : K.lookup a43 = some ⟨oc43, od43, .func (PySem.W.fnOf "law" "law" (defArgs (top 54)) (defBody (top 54)) (defScope (top 54)) .none kV43 dc43 pm43 an43 cd43 ct43), sl43⟩) (c43 : PySem.W.codeIn K cd43 "law" = true) (k43 : PySem.W.keepIn K (.ref a43) = true)
    (pg0 : PySem.W.plainGet K C0 Str.empty = true) (hd0 : PySem.W.hasDictIn K C0 = true) (po0 : PySem.W.plainOver K C0 = true) (sa0 : PySem.W.findIn K (.ref C0) "__setattr__" = some (some (.builtin "object.__setattr__"))) (mk0 : PySem.W.makesIn K C0 = true) (kc0 : PySem.W.keepIn K (.ref C0) = true)
    (kx50 : PySem.W.keepIn K (.ref C50) = true) (qx50 : PySem.W.excIn K C50 [.type "ValueError", .type "Exception", .type "BaseException", .type "object"] "ValueError.__new__" = true) (bx50 : PySem.W.subIn K (.ref C50) (.type "BaseException") = some true) (tx50 : PySem.W.typeIn K (.ref C50) = some (.type "type"))
    (kx51 : PySem.W.keepIn K (.ref C51) = true) (qx51 : PySem.W.excIn K C51 [.type "ValueError", .type "Exception", .type "BaseException", .type "object"] "ValueError.__new__" = true) (bx51 : PySem.W.subIn K (.ref C51) (.type "BaseException") = some true) (tx51 : PySem.W.typeIn K (.ref C51) = some (.type "type"))
    (na_Plan_begun : PySem.W.findIn K (.ref C0) "begun" = some none)
    (na_Plan_writes : PySem.W.findIn K (.ref C0) "writes" = some none)
    (na_Plan_rules : PySem.W.findIn K (.ref C0) "rules" = some none)
    (na_Plan_promise : PySem.W.findIn K (.ref C0) "promise" = some none)
    (na_Plan_known : PySem.W.findIn K (.ref C0) "known" = some none)
    (z0 : PySem.W.nsIn K mainGlobals "isinstance" = some none)
    (z1 : PySem.W.nsIn K mainGlobals "bool" = some none)
    (z2 : PySem.W.nsIn K mainGlobals "int" = some none)
    (z3 : PySem.W.nsIn K mainGlobals "len" = some none)
    (z4 : PySem.W.nsIn K mainGlobals "str" = some none)
    (z5 : PySem.W.nsIn K mainGlobals "all" = some none)
    (z6 : PySem.W.nsIn K mainGlobals "tuple" = some none)
    (z7 : PySem.W.nsIn K mainGlobals "range" = some none)
    (z8 : PySem.W.nsIn K mainGlobals "max" = some none)
    (z9 : PySem.W.nsIn K mainGlobals "list" = some none)
    (z10 : PySem.W.nsIn K mainGlobals "enumerate" = some none)
    (z11 : PySem.W.nsIn K mainGlobals "zip" = some none)
    (z12 : PySem.W.nsIn K mainGlobals "abs" = some none)
    (z13 : PySem.W.nsIn K mainGlobals "sorted" = some none)
    (z14 : PySem.W.nsIn K mainGlobals "set" = some none)
    (z15 : PySem.W.nsIn K mainGlobals "min" = some none)
    : LawThere l w K 10 63 "script" mg fa h := by
  have e := hfa.symm.trans (PySem.W.mg_of X G m43)
  cases e
  have F0 := fun_mk (st := (top 5)) l0 c0 k0
  have F1 := fun_mk (st := (top 9)) l1 c1 k1
  have F2 := fun_mk (st := (top 15)) l2 c2 k2
  have F3 := fun_mk (st := (top 16)) l3 c3 k3
  have F4 := fun_mk (st := (top 17)) l4 c4 k4
  have F5 := fun_mk (st := (top 18)) l5 c5 k5
  have F6 := fun_mk (st := (top 19)) l6 c6 k6
  have F7 := fun_mk (st := (top 20)) l7 c7 k7
  have F8 := fun_mk (st := (top 21)) l8 c8 k8
  have F9 := fun_mk (st := (top 22)) l9 c9 k9
  have F10 := fun_mk (st := (top 23)) l10 c10 k10
  have F11 := fun_mk (st := (top 24)) l11 c11 k11
  have F12 := fun_mk (st := (top 25)) l12 c12 k12
  have F13 := fun_mk (st := (top 26)) l13 c13 k13
  have F14 := fun_mk (st := (top 27)) l14 c14 k14
  have F15 := fun_mk (st := (top 28)) l15 c15 k15
  have F16 := fun_mk (st := (top 29)) l16 c16 k16
  have F17 := fun_mk (st := (top 30)) l17 c17 k17
  have F18 := fun_mk (st := (top 31)) l18 c18 k18
  have F19 := fun_mk (st := (top 32)) l19 c19 k19
  have F20 := fun_mk (st := (inClass (top 33) 0)) l20 c20 k20
  have F22 := fun_mk (st := (inClass (top 33) 2)) l22 c22 k22
  have F21 := fun_mk (st := (inClass (top 33) 1)) l21 c21 k21
  have F23 := fun_mk (st := (inClass (top 33) 3)) l23 c23 k23
  have F24 := fun_mk (st := (top 34)) l24 c24 k24
  have F25 := fun_mk (st := (top 35)) l25 c25 k25
  have F26 := fun_mk (st := (top 36)) l26 c26 k26
  have F27 := fun_mk (st := (top 38)) l27 c27 k27
  have F28 := fun_mk (st := (top 39)) l28 c28 k28
  have F29 := fun_mk (st := (top 40)) l29 c29 k29
  have F30 := fun_mk (st := (top 41)) l30 c30 k30
  have F31 := fun_mk (st := (top 42)) l31 c31 k31
  have F32 := fun_mk (st := (top 43)) l32 c32 k32
  have F33 := fun_mk (st := (top 44)) l33 c33 k33
  have F34 := fun_mk (st := (top 45)) l34 c34 k34
  have F35 := fun_mk (st := (top 46)) l35 c35 k35
  have F36 := fun_mk (st := (top 47)) l36 c36 k36
  have F37 := fun_mk (st := (top 48)) l37 c37 k37
  have F38 := fun_mk (st := (top 49)) l38 c38 k38
  have F39 := fun_mk (st := (top 50)) l39 c39 k39
  have F40 := fun_mk (st := (top 51)) l40 c40 k40
  have F41 := fun_mk (st := (top 52)) l41 c41 k41
  have F42 := fun_mk (st := (top 53)) l42 c42 k42
  have F43 := fun_mk (st := (top 54)) l43 c43 k43
  let aa : Nat → Addr := fun i => match i with | 0 => a0 | 1 => a1 | 2 => a2 | 3 => a3 | 4 => a4 | 5 => a5 | 6 => a6 | 7 => a7 | 8 => a8 | 9 => a9 | 10 => a10 | 11 => a11 | 12 => a12 | 13 => a13 | 14 => a14 | 15 => a15 | 16 => a16 | 17 => a17 | 18 => a18 | 19 => a19 | 20 => a20 | 22 => a22 | 21 => a21 | 23 => a23 | 24 => a24 | 25 => a25 | 26 => a26 | 27 => a27 | 28 => a28 | 29 => a29 | 30 => a30 | 31 => a31 | 32 => a32 | 33 => a33 | 34 => a34 | 35 => a35 | 36 => a36 | 37 => a37 | 38 => a38 | 39 => a39 | 40 => a40 | 41 => a41 | 42 => a42 | 43 => fa | _ => 0
  let ff : Nat → FuncData := fun i => match i with | 0 => PySem.W.fnOf "is_number" "is_number" (defArgs (top 5)) (defBody (top 5)) (defScope (top 5)) .none kV0 dc0 pm0 an0 cd0 ct0 | 1 => PySem.W.fnOf "is_name" "is_name" (defArgs (top 9)) (defBody (top 9)) (defScope (top 9)) .none kV1 dc1 pm1 an1 cd1 ct1 | 2 => PySem.W.fnOf "_is_figure" "_is_figure" (defArgs (top 15)) (defBody (top 15)) (defScope (top 15)) .none kV2 dc2 pm2 an2 cd2 ct2 | 3 => PySem.W.fnOf "_check_picture" "_check_picture" (defArgs (top 16)) (defBody (top 16)) (defScope (top 16)) .none kV3 dc3 pm3 an3 cd3 ct3 | 4 => PySem.W.fnOf "_is_write" "_is_write" (defArgs (top 17)) (defBody (top 17)) (defScope (top 17)) .none kV4 dc4 pm4 an4 cd4 ct4 | 5 => PySem.W.fnOf "_check_writes" "_check_writes" (defArgs (top 18)) (defBody (top 18)) (defScope (top 18)) .none kV5 dc5 pm5 an5 cd5 ct5 | 6 => PySem.W.fnOf "_check_gaps" "_check_gaps" (defArgs (top 19)) (defBody (top 19)) (defScope (top 19)) .none kV6 dc6 pm6 an6 cd6 ct6 | 7 => PySem.W.fnOf "_is_pattern" "_is_pattern" (defArgs (top 20)) (defBody (top 20)) (defScope (top 20)) .none kV7 dc7 pm7 an7 cd7 ct7 | 8 => PySem.W.fnOf "_is_rule" "_is_rule" (defArgs (top 21)) (defBody (top 21)) (defScope (top 21)) .none kV8 dc8 pm8 an8 cd8 ct8 | 9 => PySem.W.fnOf "_check_rules" "_check_rules" (defArgs (top 22)) (defBody (top 22)) (defScope (top 22)) .none kV9 dc9 pm9 an9 cd9 ct9 | 10 => PySem.W.fnOf "_are_ascending_names" "_are_ascending_names" (defArgs (top 23)) (defBody (top 23)) (defScope (top 23)) .none kV10 dc10 pm10 an10 cd10 ct10 | 11 => PySem.W.fnOf "_check_promise" "_check_promise" (defArgs (top 24)) (defBody (top 24)) (defScope (top 24)) .none kV11 dc11 pm11 an11 cd11 ct11 | 12 => PySem.W.fnOf "_check_told" "_check_told" (defArgs (top 25)) (defBody (top 25)) (defScope (top 25)) .none kV12 dc12 pm12 an12 cd12 ct12 | 13 => PySem.W.fnOf "_check_plan" "_check_plan" (defArgs (top 26)) (defBody (top 26)) (defScope (top 26)) .none kV13 dc13 pm13 an13 cd13 ct13 | 14 => PySem.W.fnOf "_last_gap" "_last_gap" (defArgs (top 27)) (defBody (top 27)) (defScope (top 27)) .none kV14 dc14 pm14 an14 cd14 ct14 | 15 => PySem.W.fnOf "_versions" "_versions" (defArgs (top 28)) (defBody (top 28)) (defScope (top 28)) .none kV15 dc15 pm15 an15 cd15 ct15 | 16 => PySem.W.fnOf "_cuts_with_pictures" "_cuts_with_pictures" (defArgs (top 29)) (defBody (top 29)) (defScope (top 29)) .none kV16 dc16 pm16 an16 cd16 ct16 | 17 => PySem.W.fnOf "_picture_left" "_picture_left" (defArgs (top 30)) (defBody (top 30)) (defScope (top 30)) .none kV17 dc17 pm17 an17 cd17 ct17 | 18 => PySem.W.fnOf "_fits" "_fits" (defArgs (top 31)) (defBody (top 31)) (defScope (top 31)) .none kV18 dc18 pm18 an18 cd18 ct18 | 19 => PySem.W.fnOf "_meaning" "_meaning" (defArgs (top 32)) (defBody (top 32)) (defScope (top 32)) .none kV19 dc19 pm19 an19 cd19 ct19 | 20 => PySem.W.fnOf "__init__" "Plan.__init__" (defArgs (inClass (top 33) 0)) (defBody (inClass (top 33) 0)) (defScope (inClass (top 33) 0)) .none kV20 dc20 pm20 an20 cd20 ct20 | 22 => PySem.W.fnOf "look" "Plan.look" (defArgs (inClass (top 33) 2)) (defBody (inClass (top 33) 2)) (defScope (inClass (top 33) 2)) .none kV22 dc22 pm22 an22 cd22 ct22 | 21 => PySem.W.fnOf "broken" "Plan.broken" (defArgs (inClass (top 33) 1)) (defBody (inClass (top 33) 1)) (defScope (inClass (top 33) 1)) .none kV21 dc21 pm21 an21 cd21 ct21 | 23 => PySem.W.fnOf "broken_by" "Plan.broken_by" (defArgs (inClass (top 33) 3)) (defBody (inClass (top 33) 3)) (defScope (inClass (top 33) 3)) .none kV23 dc23 pm23 an23 cd23 ct23 | 24 => PySem.W.fnOf "break_of" "break_of" (defArgs (top 34)) (defBody (top 34)) (defScope (top 34)) .none kV24 dc24 pm24 an24 cd24 ct24 | 25 => PySem.W.fnOf "keeps" "keeps" (defArgs (top 35)) (defBody (top 35)) (defScope (top 35)) .none kV25 dc25 pm25 an25 cd25 ct25 | 26 => PySem.W.fnOf "is_break" "is_break" (defArgs (top 36)) (defBody (top 36)) (defScope (top 36)) .none kV26 dc26 pm26 an26 cd26 ct26 | 27 => PySem.W.fnOf "_law_bowl" "_law_bowl" (defArgs (top 38)) (defBody (top 38)) (defScope (top 38)) .none kV27 dc27 pm27 an27 cd27 ct27 | 28 => PySem.W.fnOf "_law_dip" "_law_dip" (defArgs (top 39)) (defBody (top 39)) (defScope (top 39)) .none kV28 dc28 pm28 an28 cd28 ct28 | 29 => PySem.W.fnOf "_law_taste" "_law_taste" (defArgs (top 40)) (defBody (top 40)) (defScope (top 40)) .none kV29 dc29 pm29 an29 cd29 ct29 | 30 => PySem.W.fnOf "_law_drawn" "_law_drawn" (defArgs (top 41)) (defBody (top 41)) (defScope (top 41)) .none kV30 dc30 pm30 an30 cd30 ct30 | 31 => PySem.W.fnOf "_law_gaps" "_law_gaps" (defArgs (top 42)) (defBody (top 42)) (defScope (top 42)) .none kV31 dc31 pm31 an31 cd31 ct31 | 32 => PySem.W.fnOf "_law_rows" "_law_rows" (defArgs (top 43)) (defBody (top 43)) (defScope (top 43)) .none kV32 dc32 pm32 an32 cd32 ct32 | 33 => PySem.W.fnOf "_law_all" "_law_all" (defArgs (top 44)) (defBody (top 44)) (defScope (top 44)) .none kV33 dc33 pm33 an33 cd33 ct33 | 34 => PySem.W.fnOf "_law_rules" "_law_rules" (defArgs (top 45)) (defBody (top 45)) (defScope (top 45)) .none kV34 dc34 pm34 an34 cd34 ct34 | 35 => PySem.W.fnOf "_law_meaning" "_law_meaning" (defArgs (top 46)) (defBody (top 46)) (defScope (top 46)) .none kV35 dc35 pm35 an35 cd35 ct35 | 36 => PySem.W.fnOf "_law_names" "_law_names" (defArgs (top 47)) (defBody (top 47)) (defScope (top 47)) .none kV36 dc36 pm36 an36 cd36 ct36 | 37 => PySem.W.fnOf "_law_promise" "_law_promise" (defArgs (top 48)) (defBody (top 48)) (defScope (top 48)) .none kV37 dc37 pm37 an37 cd37 ct37 | 38 => PySem.W.fnOf "_law_is_kept" "_law_is_kept" (defArgs (top 49)) (defBody (top 49)) (defScope (top 49)) .none kV38 dc38 pm38 an38 cd38 ct38 | 39 => PySem.W.fnOf "_law_is_whole" "_law_is_whole" (defArgs (top 50)) (defBody (top 50)) (defScope (top 50)) .none kV39 dc39 pm39 an39 cd39 ct39 | 40 => PySem.W.fnOf "_law_is_due" "_law_is_due" (defArgs (top 51)) (defBody (top 51)) (defScope (top 51)) .none kV40 dc40 pm40 an40 cd40 ct40 | 41 => PySem.W.fnOf "_law_near" "_law_near" (defArgs (top 52)) (defBody (top 52)) (defScope (top 52)) .none kV41 dc41 pm41 an41 cd41 ct41 | 42 => PySem.W.fnOf "_law_right" "_law_right" (defArgs (top 53)) (defBody (top 53)) (defScope (top 53)) .none kV42 dc42 pm42 an42 cd42 ct42 | 43 => PySem.W.fnOf "law" "law" (defArgs (top 54)) (defBody (top 54)) (defScope (top 54)) .none kV43 dc43 pm43 an43 cd43 ct43 | _ => PySem.W.fnOf "law" "law" (defArgs (top 54)) (defBody (top 54)) (defScope (top 54)) .none kV43 dc43 pm43 an43 cd43 ct43
  let Ts : List (Addr × Str) := []
  let g : Gx := ⟨K, fun i => match i with | 0 => C0 | 50 => C50 | 51 => C51 | _ => 0, fun i => "", Ts, fun _ _ => True, fun _ _ _ _ _ h => h⟩
  refine ⟨PySem.W.fnOf "law" "law" (defArgs (top 54)) (defBody (top 54)) (defScope (top 54)) .none kV43 dc43 pm43 an43 cd43 ct43, [], spLawT K 63 Ts, tabs_nil, fun s v => .of_eq rfl, fun H a ns hl hb tb sq => ⟨a, ns, rfl, hl, hb, sq, (fun _ z => absurd z List.not_mem_nil), fun _ => rfl⟩, fun base KB NB TB => ?_⟩
  have T : Txt g mg base aa ff := {
    c_MAX_NAME := ⟨_, PySem.W.mg_of X G q0, ⟨_, rfl⟩⟩
    c_LETTERS := ⟨_, PySem.W.mg_of X G q1, ⟨_, rfl⟩⟩
    c_MOST_FIGURE := ⟨_, PySem.W.mg_of X G q2, ⟨_, rfl⟩⟩
    c_MAX_CELLS := ⟨_, PySem.W.mg_of X G q3, ⟨_, rfl⟩⟩
    c_MAX_WRITES := ⟨_, PySem.W.mg_of X G q4, ⟨_, rfl⟩⟩
    c_MAX_RULES := ⟨_, PySem.W.mg_of X G q5, ⟨_, rfl⟩⟩
    b_isinstance := PySem.W.mg_none_of X G z0
    b_bool := PySem.W.mg_none_of X G z1
    b_int := PySem.W.mg_none_of X G z2
    b_len := PySem.W.mg_none_of X G z3
    b_str := PySem.W.mg_none_of X G z4
    b_all := PySem.W.mg_none_of X G z5
    b_tuple := PySem.W.mg_none_of X G z6
    b_range := PySem.W.mg_none_of X G z7
    b_max := PySem.W.mg_none_of X G z8
    b_list := PySem.W.mg_none_of X G z9
    b_enumerate := PySem.W.mg_none_of X G z10
    b_zip := PySem.W.mg_none_of X G z11
    b_abs := PySem.W.mg_none_of X G z12
    b_sorted := PySem.W.mg_none_of X G z13
    b_set := PySem.W.mg_none_of X G z14
    b_min := PySem.W.mg_none_of X G z15
    f_is_number := F0
    n_is_number := F0.binds (ps := ["value", "low", "high"]) fun _ _ _ _ _ _ us hl => match us, hl with | [_, _, _], _ => rfl
    g_is_number := PySem.W.mg_of X G m0
    f_is_name := F1
    n_is_name := F1.binds (ps := ["value"]) fun _ _ _ _ _ _ us hl => match us, hl with | [_], _ => rfl
    g_is_name := PySem.W.mg_of X G m1
    f__is_figure := F2
    n__is_figure := F2.binds (ps := ["value"]) fun _ _ _ _ _ _ us hl => match us, hl with | [_], _ => rfl
    g__is_figure := PySem.W.mg_of X G m2
    f__check_picture := F3
    n__check_picture := F3.binds (ps := ["picture"]) fun _ _ _ _ _ _ us hl => match us, hl with | [_], _ => rfl
    g__check_picture := PySem.W.mg_of X G m3
    f__is_write := F4
    n__is_write := F4.binds (ps := ["cells", "value"]) fun _ _ _ _ _ _ us hl => match us, hl with | [_, _], _ => rfl
    g__is_write := PySem.W.mg_of X G m4
    f__check_writes := F5
    n__check_writes := F5.binds (ps := ["picture", "writes"]) fun _ _ _ _ _ _ us hl => match us, hl with | [_, _], _ => rfl
    g__check_writes := PySem.W.mg_of X G m5
    f__check_gaps := F6
    n__check_gaps := F6.binds (ps := ["writes", "gaps"]) fun _ _ _ _ _ _ us hl => match us, hl with | [_, _], _ => rfl
    g__check_gaps := PySem.W.mg_of X G m6
    f__is_pattern := F7
    n__is_pattern := F7.binds (ps := ["cells", "value"]) fun _ _ _ _ _ _ us hl => match us, hl with | [_, _], _ => rfl
    g__is_pattern := PySem.W.mg_of X G m7
    f__is_rule := F8
    n__is_rule := F8.binds (ps := ["cells", "value"]) fun _ _ _ _ _ _ us hl => match us, hl with | [_, _], _ => rfl
    g__is_rule := PySem.W.mg_of X G m8
    f__check_rules := F9
    n__check_rules := F9.binds (ps := ["picture", "rules"]) fun _ _ _ _ _ _ us hl => match us, hl with | [_, _], _ => rfl
    g__check_rules := PySem.W.mg_of X G m9
    f__are_ascending_names := F10
    n__are_ascending_names := F10.binds (ps := ["value"]) fun _ _ _ _ _ _ us hl => match us, hl with | [_], _ => rfl
    g__are_ascending_names := PySem.W.mg_of X G m10
    f__check_promise := F11
    n__check_promise := F11.binds (ps := ["writes", "promise"]) fun _ _ _ _ _ _ us hl => match us, hl with | [_, _], _ => rfl
    g__check_promise := PySem.W.mg_of X G m11
    f__check_told := F12
    n__check_told := F12.binds (ps := ["picture", "writes", "gaps"]) fun _ _ _ _ _ _ us hl => match us, hl with | [_, _, _], _ => rfl
    g__check_told := PySem.W.mg_of X G m12
    f__check_plan := F13
    n__check_plan := F13.binds (ps := ["picture", "writes", "gaps", "rules", "promise"]) fun _ _ _ _ _ _ us hl => match us, hl with | [_, _, _, _, _], _ => rfl
    g__check_plan := PySem.W.mg_of X G m13
    f__last_gap := F14
    n__last_gap := F14.binds (ps := ["gaps", "moment"]) fun _ _ _ _ _ _ us hl => match us, hl with | [_, _], _ => rfl
    g__last_gap := PySem.W.mg_of X G m14
    f__versions := F15
    n__versions := F15.binds (ps := ["picture", "writes", "last", "moment"]) fun _ _ _ _ _ _ us hl => match us, hl with | [_, _, _, _], _ => rfl
    g__versions := PySem.W.mg_of X G m15
    f__cuts_with_pictures := F16
    n__cuts_with_pictures := F16.binds (ps := ["versions"]) fun _ _ _ _ _ _ us hl => match us, hl with | [_], _ => rfl
    g__cuts_with_pictures := PySem.W.mg_of X G m16
    f__picture_left := F17
    n__picture_left := F17.binds (ps := ["versions", "cut"]) fun _ _ _ _ _ _ us hl => match us, hl with | [_, _], _ => rfl
    g__picture_left := PySem.W.mg_of X G m17
    f__fits := F18
    n__fits := F18.binds (ps := ["picture", "pattern"]) fun _ _ _ _ _ _ us hl => match us, hl with | [_, _], _ => rfl
    g__fits := PySem.W.mg_of X G m18
    f__meaning := F19
    n__meaning := F19.binds (ps := ["picture", "rules"]) fun _ _ _ _ _ _ us hl => match us, hl with | [_, _], _ => rfl
    g__meaning := PySem.W.mg_of X G m19
    f_Plan____init__ := F20
    n_Plan____init__ := F20.binds (ps := ["self", "picture", "writes", "rules", "promise"]) fun _ _ _ _ _ _ us hl => match us, hl with | [_, _, _, _, _], _ => rfl
    me_Plan____init__ := ⟨m20, i20, k20⟩
    f_Plan__look := F22
    n_Plan__look := F22.binds (ps := ["self", "last", "moment"]) fun _ _ _ _ _ _ us hl => match us, hl with | [_, _, _], _ => rfl
    me_Plan__look := ⟨m22, i22, k22⟩
    f_Plan__broken := F21
    n_Plan__broken := F21.binds (ps := ["self", "last", "moment"]) fun _ _ _ _ _ _ us hl => match us, hl with | [_, _, _], _ => rfl
    me_Plan__broken := ⟨m21, i21, k21⟩
    f_Plan__broken_by := F23
    n_Plan__broken_by := F23.binds (ps := ["self", "gaps"]) fun _ _ _ _ _ _ us hl => match us, hl with | [_, _], _ => rfl
    me_Plan__broken_by := ⟨m23, i23, k23⟩
    f_break_of := F24
    n_break_of := F24.binds (ps := ["picture", "writes", "gaps", "rules", "promise"]) fun _ _ _ _ _ _ us hl => match us, hl with | [_, _, _, _, _], _ => rfl
    g_break_of := PySem.W.mg_of X G m24
    f_keeps := F25
    n_keeps := F25.binds (ps := ["picture", "writes", "gaps", "rules", "promise"]) fun _ _ _ _ _ _ us hl => match us, hl with | [_, _, _, _, _], _ => rfl
    g_keeps := PySem.W.mg_of X G m25
    f_is_break := F26
    n_is_break := F26.binds (ps := ["picture", "writes", "gaps", "rules", "promise", "value"]) fun _ _ _ _ _ _ us hl => match us, hl with | [_, _, _, _, _, _], _ => rfl
    g_is_break := PySem.W.mg_of X G m26
    f__law_bowl := F27
    n__law_bowl := F27.binds (ps := ["script", "spot"]) fun _ _ _ _ _ _ us hl => match us, hl with | [_, _], _ => rfl
    g__law_bowl := PySem.W.mg_of X G m27
    f__law_dip := F28
    n__law_dip := F28.binds (ps := ["bowl", "total"]) fun _ _ _ _ _ _ us hl => match us, hl with | [_, _], _ => rfl
    g__law_dip := PySem.W.mg_of X G m28
    f__law_taste := F29
    n__law_taste := F29.binds (ps := ["bowl", "items"]) fun _ _ _ _ _ _ us hl => match us, hl with | [_, _], _ => rfl
    g__law_taste := PySem.W.mg_of X G m29
    f__law_drawn := F30
    n__law_drawn := F30.binds (ps := ["bowl"]) fun _ _ _ _ _ _ us hl => match us, hl with | [_], _ => rfl
    g__law_drawn := PySem.W.mg_of X G m30
    f__law_gaps := F31
    n__law_gaps := F31.binds (ps := ["bowl", "many"]) fun _ _ _ _ _ _ us hl => match us, hl with | [_, _], _ => rfl
    g__law_gaps := PySem.W.mg_of X G m31
    f__law_rows := F32
    n__law_rows := F32.binds (ps := ["picture", "writes", "gaps", "moment"]) fun _ _ _ _ _ _ us hl => match us, hl with | [_, _, _, _], _ => rfl
    g__law_rows := PySem.W.mg_of X G m32
    f__law_all := F33
    n__law_all := F33.binds (ps := ["rows"]) fun _ _ _ _ _ _ us hl => match us, hl with | [_], _ => rfl
    g__law_all := PySem.W.mg_of X G m33
    f__law_rules := F34
    n__law_rules := F34.binds (ps := ["bowl", "size"]) fun _ _ _ _ _ _ us hl => match us, hl with | [_, _], _ => rfl
    g__law_rules := PySem.W.mg_of X G m34
    f__law_meaning := F35
    n__law_meaning := F35.binds (ps := ["picture", "rules"]) fun _ _ _ _ _ _ us hl => match us, hl with | [_, _], _ => rfl
    g__law_meaning := PySem.W.mg_of X G m35
    f__law_names := F36
    n__law_names := F36.binds (ps := ["picture", "writes", "gaps", "rules", "moment"]) fun _ _ _ _ _ _ us hl => match us, hl with | [_, _, _, _, _], _ => rfl
    g__law_names := PySem.W.mg_of X G m36
    f__law_promise := F37
    n__law_promise := F37.binds (ps := ["bowl", "picture", "writes", "gaps", "rules"]) fun _ _ _ _ _ _ us hl => match us, hl with | [_, _, _, _, _], _ => rfl
    g__law_promise := PySem.W.mg_of X G m37
    f__law_is_kept := F38
    n__law_is_kept := F38.binds (ps := ["picture", "writes", "gaps", "rules", "promise"]) fun _ _ _ _ _ _ us hl => match us, hl with | [_, _, _, _, _], _ => rfl
    g__law_is_kept := PySem.W.mg_of X G m38
    f__law_is_whole := F39
    n__law_is_whole := F39.binds (ps := ["value", "most"]) fun _ _ _ _ _ _ us hl => match us, hl with | [_, _], _ => rfl
    g__law_is_whole := PySem.W.mg_of X G m39
    f__law_is_due := F40
    n__law_is_due := F40.binds (ps := ["picture", "writes", "gaps", "rules", "promise", "value"]) fun _ _ _ _ _ _ us hl => match us, hl with | [_, _, _, _, _, _], _ => rfl
    g__law_is_due := PySem.W.mg_of X G m40
    f__law_near := F41
    n__law_near := F41.binds (ps := ["bowl", "picture", "writes", "gaps", "told"]) fun _ _ _ _ _ _ us hl => match us, hl with | [_, _, _, _, _], _ => rfl
    g__law_near := PySem.W.mg_of X G m41
    f__law_right := F42
    n__law_right := F42.binds (ps := ["bowl"]) fun _ _ _ _ _ _ us hl => match us, hl with | [_], _ => rfl
    g__law_right := PySem.W.mg_of X G m42
    f_law := F43
    n_law := F43.binds (ps := ["script"]) fun _ _ _ _ _ _ us hl => match us, hl with | [_], _ => rfl
    g_law := PySem.W.mg_of X G m43
    cl_Plan := ⟨pg0, hd0, po0, sa0⟩
    mg_Plan := PySem.W.mg_of X G aC0
    mk_Plan := ⟨mk0, m20, i20, kc0⟩
    gx_InvalidPicture := PySem.W.mg_of X G aX50
    kx_InvalidPicture := kx50
    qx_InvalidPicture := qx50
    bx_InvalidPicture := bx50
    tx_InvalidPicture := tx50
    gx_InvalidOperation := PySem.W.mg_of X G aX51
    kx_InvalidOperation := kx51
    qx_InvalidOperation := qx51
    bx_InvalidOperation := bx51
    tx_InvalidOperation := tx51
    na_Plan_begun := na_Plan_begun
    na_Plan_writes := na_Plan_writes
    na_Plan_rules := na_Plan_rules
    na_Plan_promise := na_Plan_promise
    na_Plan_known := na_Plan_known
  }
  exact (ok_law T).weaken fun vs H Q E h => promiseT right g (fun _ _ => trivial) vs H Q E h
theorem walk {l : PySem.W.OpenLaw} {q : Program} {loose : List Str} {XP : (Str → Option Value) → Heap → Prop} {YP : World → Heap → Prop} {d : DefRec} {K : Params → PySem.W.Frag} (hn : l.most = some 63) (plain : d.params.defaults = []) (known : ∀ (w : World) (h : Heap), YP w h → (K w.params).In h)
    (F : ∀ (w : World) (mean : ExcName → Option Value) (mg mb : Str → Option Value) (fa : Addr) (h : Heap), Top q (PySem.W.looseW q loose) mean mg mb h → (K w.params).In h → h.Ns mainGlobals mg → mg d.name = some (.ref fa) → LawThere l w (K w.params) 10 63 "script" mg fa h) :
    PySem.W.WalkO q loose XP YP l.row.toRowW d [] (fun f vs => PySem.call f vs) :=
  walk_endT (n := 63) (k := 10) (x := "script") hn (by decide) plain ⟨rfl, by decide, by decide⟩ known F

end V
open PySem PySem.W PyProof.Rows
set_option maxRecDepth 100000 in
set_option maxHeartbeats 0 in
theorem PySem.Challenge.cw_everycut_k87_whole_promises_kept_or_brok_holds : PySem.Challenge.rw_everycut_k87_whole_promises_kept_or_brok.Holds := by
  w_on; o_law; k_head; (case hw => w_witness2)
  k_fill
  refine V.walk (l := PySem.Challenge.rw_everycut_k87_whole_promises_kept_or_brok) rfl rfl (fun w h Y => by first | exact PySem.W.kIn_of Y | exact PySem.W.km_in_of Y) ?F
  case F =>
    intro w mean mg mb fa h Tp KX G hmg
    refine' V.all_mk V.right KX Tp G hmg ?hq ?aC0 ?aX50 ?aX51 ?q0 ?q1 ?q2 ?q3 ?q4 ?q5 ?m0 ?l0 ?c0 ?k0 ?m1 ?l1 ?c1 ?k1 ?m2 ?l2 ?c2 ?k2 ?m3 ?l3 ?c3 ?k3 ?m4 ?l4 ?c4 ?k4 ?m5 ?l5 ?c5 ?k5 ?m6 ?l6 ?c6 ?k6 ?m7 ?l7 ?c7 ?k7 ?m8 ?l8 ?c8 ?k8 ?m9 ?l9 ?c9 ?k9 ?m10 ?l10 ?c10 ?k10 ?m11 ?l11 ?c11 ?k11 ?m12 ?l12 ?c12 ?k12 ?m13 ?l13 ?c13 ?k13 ?m14 ?l14 ?c14 ?k14 ?m15 ?l15 ?c15 ?k15 ?m16 ?l16 ?c16 ?k16 ?m17 ?l17 ?c17 ?k17 ?m18 ?l18 ?c18 ?k18 ?m19 ?l19 ?c19 ?k19 ?m20 ?i20 ?l20 ?c20 ?k20 ?m22 ?i22 ?l22 ?c22 ?k22 ?m21 ?i21 ?l21 ?c21 ?k21 ?m23 ?i23 ?l23 ?c23 ?k23 ?m24 ?l24 ?c24 ?k24 ?m25 ?l25 ?c25 ?k25 ?m26 ?l26 ?c26 ?k26 ?m27 ?l27 ?c27 ?k27 ?m28 ?l28 ?c28 ?k28 ?m29 ?l29 ?c29 ?k29 ?m30 ?l30 ?c30 ?k30 ?m31 ?l31 ?c31 ?k31 ?m32 ?l32 ?c32 ?k32 ?m33 ?l33 ?c33 ?k33 ?m34 ?l34 ?c34 ?k34 ?m35 ?l35 ?c35 ?k35 ?m36 ?l36 ?c36 ?k36 ?m37 ?l37 ?c37 ?k37 ?m38 ?l38 ?c38 ?k38 ?m39 ?l39 ?c39 ?k39 ?m40 ?l40 ?c40 ?k40 ?m41 ?l41 ?c41 ?k41 ?m42 ?l42 ?c42 ?k42 ?m43 ?l43 ?c43 ?k43 ?pg0 ?hd0 ?po0 ?sa0 ?mk0 ?kc0 ?kx50 ?qx50 ?bx50 ?tx50 ?kx51 ?qx51 ?bx51 ?tx51 ?na_Plan_begun ?na_Plan_writes ?na_Plan_rules ?na_Plan_promise ?na_Plan_known ?z0 ?z1 ?z2 ?z3 ?z4 ?z5 ?z6 ?z7 ?z8 ?z9 ?z10 ?z11 ?z12 ?z13 ?z14 ?z15
    (case hq => kernel_rfl)
    (case aC0 => k_is)
    (case aX50 => k_is)
    (case aX51 => k_is)
    (case q0 => k_is)
    (case q1 => k_is)
    (case q2 => k_is)
    (case q3 => k_is)
    (case q4 => k_is)
    (case q5 => k_is)
    (case m0 => k_is)
    (case l0 => k_is)
    (case c0 => k_is)
    (case k0 => k_is)
    (case m1 => k_is)
    (case l1 => k_is)
    (case c1 => k_is)
    (case k1 => k_is)
    (case m2 => k_is)
    (case l2 => k_is)
    (case c2 => k_is)
    (case k2 => k_is)
    (case m3 => k_is)
    (case l3 => k_is)
    (case c3 => k_is)
    (case k3 => k_is)
    (case m4 => k_is)
    (case l4 => k_is)
    (case c4 => k_is)
    (case k4 => k_is)
    (case m5 => k_is)
    (case l5 => k_is)
    (case c5 => k_is)
    (case k5 => k_is)
    (case m6 => k_is)
    (case l6 => k_is)
    (case c6 => k_is)
    (case k6 => k_is)
    (case m7 => k_is)
    (case l7 => k_is)
    (case c7 => k_is)
    (case k7 => k_is)
    (case m8 => k_is)
    (case l8 => k_is)
    (case c8 => k_is)
    (case k8 => k_is)
    (case m9 => k_is)
    (case l9 => k_is)
    (case c9 => k_is)
    (case k9 => k_is)
    (case m10 => k_is)
    (case l10 => k_is)
    (case c10 => k_is)
    (case k10 => k_is)
    (case m11 => k_is)
    (case l11 => k_is)
    (case c11 => k_is)
    (case k11 => k_is)
    (case m12 => k_is)
    (case l12 => k_is)
    (case c12 => k_is)
    (case k12 => k_is)
    (case m13 => k_is)
    (case l13 => k_is)
    (case c13 => k_is)
    (case k13 => k_is)
    (case m14 => k_is)
    (case l14 => k_is)
    (case c14 => k_is)
    (case k14 => k_is)
    (case m15 => k_is)
    (case l15 => k_is)
    (case c15 => k_is)
    (case k15 => k_is)
    (case m16 => k_is)
    (case l16 => k_is)
    (case c16 => k_is)
    (case k16 => k_is)
    (case m17 => k_is)
    (case l17 => k_is)
    (case c17 => k_is)
    (case k17 => k_is)
    (case m18 => k_is)
    (case l18 => k_is)
    (case c18 => k_is)
    (case k18 => k_is)
    (case m19 => k_is)
    (case l19 => k_is)
    (case c19 => k_is)
    (case k19 => k_is)
    (case m20 => k_is)
    (case i20 => k_is)
    (case l20 => k_is)
    (case c20 => k_is)
    (case k20 => k_is)
    (case m22 => k_is)
    (case i22 => k_is)
    (case l22 => k_is)
    (case c22 => k_is)
    (case k22 => k_is)
    (case m21 => k_is)
    (case i21 => k_is)
    (case l21 => k_is)
    (case c21 => k_is)
    (case k21 => k_is)
    (case m23 => k_is)
    (case i23 => k_is)
    (case l23 => k_is)
    (case c23 => k_is)
    (case k23 => k_is)
    (case m24 => k_is)
    (case l24 => k_is)
    (case c24 => k_is)
    (case k24 => k_is)
    (case m25 => k_is)
    (case l25 => k_is)
    (case c25 => k_is)
    (case k25 => k_is)
    (case m26 => k_is)
    (case l26 => k_is)
    (case c26 => k_is)
    (case k26 => k_is)
    (case m27 => k_is)
    (case l27 => k_is)
    (case c27 => k_is)
    (case k27 => k_is)
    (case m28 => k_is)
    (case l28 => k_is)
    (case c28 => k_is)
    (case k28 => k_is)
    (case m29 => k_is)
    (case l29 => k_is)
    (case c29 => k_is)
    (case k29 => k_is)
    (case m30 => k_is)
    (case l30 => k_is)
    (case c30 => k_is)
    (case k30 => k_is)
    (case m31 => k_is)
    (case l31 => k_is)
    (case c31 => k_is)
    (case k31 => k_is)
    (case m32 => k_is)
    (case l32 => k_is)
    (case c32 => k_is)
    (case k32 => k_is)
    (case m33 => k_is)
    (case l33 => k_is)
    (case c33 => k_is)
    (case k33 => k_is)
    (case m34 => k_is)
    (case l34 => k_is)
    (case c34 => k_is)
    (case k34 => k_is)
    (case m35 => k_is)
    (case l35 => k_is)
    (case c35 => k_is)
    (case k35 => k_is)
    (case m36 => k_is)
    (case l36 => k_is)
    (case c36 => k_is)
    (case k36 => k_is)
    (case m37 => k_is)
    (case l37 => k_is)
    (case c37 => k_is)
    (case k37 => k_is)
    (case m38 => k_is)
    (case l38 => k_is)
    (case c38 => k_is)
    (case k38 => k_is)
    (case m39 => k_is)
    (case l39 => k_is)
    (case c39 => k_is)
    (case k39 => k_is)
    (case m40 => k_is)
    (case l40 => k_is)
    (case c40 => k_is)
    (case k40 => k_is)
    (case m41 => k_is)
    (case l41 => k_is)
    (case c41 => k_is)
    (case k41 => k_is)
    (case m42 => k_is)
    (case l42 => k_is)
    (case c42 => k_is)
    (case k42 => k_is)
    (case m43 => k_is)
    (case l43 => k_is)
    (case c43 => k_is)
    (case k43 => k_is)
    (case pg0 => k_is)
    (case hd0 => k_is)
    (case po0 => k_is)
    (case sa0 => k_is)
    (case mk0 => k_is)
    (case kc0 => k_is)
    (case kx50 => k_is)
    (case qx50 => k_exc)
    (case bx50 => k_is)
    (case tx50 => k_is)
    (case kx51 => k_is)
    (case qx51 => k_exc)
    (case bx51 => k_is)
    (case tx51 => k_is)
    (case na_Plan_begun => k_is)
    (case na_Plan_writes => k_is)
    (case na_Plan_rules => k_is)
    (case na_Plan_promise => k_is)
    (case na_Plan_known => k_is)
    (case z0 => k_is)
    (case z1 => k_is)
    (case z2 => k_is)
    (case z3 => k_is)
    (case z4 => k_is)
    (case z5 => k_is)
    (case z6 => k_is)
    (case z7 => k_is)
    (case z8 => k_is)
    (case z9 => k_is)
    (case z10 => k_is)
    (case z11 => k_is)
    (case z12 => k_is)
    (case z13 => k_is)
    (case z14 => k_is)
    (case z15 => k_is)

