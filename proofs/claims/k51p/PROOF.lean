import PyProof.Rows.All
import Wide.All
import OpenK.AllK
import Wide.FinOn
import HandS.ForMost
import HandS.ForExc
import HandS.TupAny
import HandS.Zip
import HandS.Flow
import HandS.More
import HandS.Deep
import HandS.TupLe
import HandS.Wide
import HandS.TupMul
import KE.DataEq
import HandS.IsInst
import HandS.SortInts
import HandS.Text
import HandS.Small
import HandS.Words
import HandS.WordsExc
import HandS.ExcOwn
import HandS.Conv
import KE.SortData
import KE.KDictSum
import HandS.Style
import HandS.Strs
import HandS.RaiseMore
import HandS.ReCall
import KE.KDictPairs
import KE.KDictCopyH
import PyProof.ReprRoads
import PyProof.CallFns
import HandS.Ends
import HandS.EndBits
import HandS.Lambda
import HandS.Replace
import HandS.DictTup
import HandS.DictComp
import KE.DataMinMax
import KE.KExcInit
import HandS.TryMany
import HandS.ExcField
import HandS.EndTab
import KE.GoesEnum
import HandS.TupLen
import HandS.ListItems
import HandS.SetFor
import HandS.TupSets
import HandS.Property
import HandS.Codes
import PySem.Challenge.RW_everycut_k51_whole_heads_and_their_cells
set_option Elab.async false
set_option linter.all false
set_option maxRecDepth 100000
set_option maxHeartbeats 4000000
namespace Rf
open PySem L2

/-! ### values, cells, outcomes -/
inductive W where
  | dat (d : PyData)
  | loc (n : Nat)
  | tw (ws : List W)
  | lw (ws : List W)
  | kt (ds : List PyData)
  | fn (x : Str)
  | rg (lo hi st : Int)
  deriving Inhabited
inductive Cell where
  | lst (ws : List W)
  | dic (kvs : List (PyData × W))
  | ins (c : Nat) (fs : List (Str × W))
  | fz (kvs : List (PyData × W))
def Cell.isFz : Cell → Bool
  | .fz _ => true
  | _ => false
abbrev Store := List Cell
abbrev Env := List (Option W)
inductive Out (α : Type) where
  | ok (a : α) (S : Store)
  | ex (c : Nat) (ws : List W) (S : Store)
  | stuck
abbrev M (α : Type) := List Nat → Env → Store → Out α
def Out.bind {α β : Type} : Out α → (α → Store → Out β) → Out β
  | .ok a S, f => f a S
  | .ex c ws S, _ => .ex c ws S
  | .stuck, _ => .stuck
@[simp] theorem Out.bind_ok {α β : Type} (a : α) (S : Store) (f : α → Store → Out β) : (Out.ok a S).bind f = f a S := rfl
@[simp] theorem Out.bind_ex {α β : Type} (c : Nat) (ws : List W) (S : Store) (f : α → Store → Out β) : (Out.ex c ws S : Out α).bind f = .ex c ws S := rfl
@[simp] theorem Out.bind_stuck {α β : Type} (f : α → Store → Out β) : (Out.stuck : Out α).bind f = .stuck := rfl
abbrev W.non : W := .dat .none
abbrev W.bl (b : Bool) : W := .dat (.bool b)
abbrev W.int (i : Int) : W := .dat (.int i)
abbrev W.str (s : Str) : W := .dat (.str s)
mutual
def W.und (n : Nat) : W → Bool
  | .dat _ => true
  | .loc k => decide (k < n)
  | .tw ws => W.undAll n ws
  | .lw ws => W.undAll n ws
  | .kt _ => true
  | .fn _ => true
  | .rg _ _ _ => true
def W.undAll (n : Nat) : List W → Bool
  | [] => true
  | w :: ws => W.und n w && W.undAll n ws
end
def Cell.und (n : Nat) : Cell → Bool
  | .lst ws => W.undAll n ws
  | .dic kvs => kvs.all fun p => p.2.und n
  | .ins _ fs => fs.all fun p => p.2.und n
  | .fz kvs => kvs.all fun p => p.2.und n
/-- all of some values are data -/
def allDat : List W → Option (List PyData)
  | [] => some []
  | .dat d :: ws => (allDat ws).map (d :: ·)
  | _ :: _ => none
def mkLst (ws : List W) : W := match allDat ws with
  | some ds => .dat (.list ds)
  | none => .lw ws
def mkTup (ws : List W) : W := match allDat ws with
  | some ds => .dat (.tuple ds)
  | none => .tw ws

/-! ### what stands for what -/
structure Grow (ρ : List Addr) (F : Hp) (ρ' : List Addr) (F' : Hp) : Prop where
  pre : ∃ t, ρ' = ρ ++ t
  ex : Same F F'
theorem Grow.refl (ρ : List Addr) (F : Hp) : Grow ρ F ρ F := ⟨⟨[], by simp⟩, Same.refl F⟩
theorem Grow.trans {ρ ρ1 ρ2 : List Addr} {F F1 F2 : Hp} (a : Grow ρ F ρ1 F1) (b : Grow ρ1 F1 ρ2 F2) : Grow ρ F ρ2 F2 := by
  obtain ⟨⟨t, e⟩, x⟩ := a
  obtain ⟨⟨u, e'⟩, y⟩ := b
  exact ⟨⟨t ++ u, by rw [e', e, List.append_assoc]⟩, x.trans y⟩
theorem Grow.at {ρ ρ' : List Addr} {F F' : Hp} (a : Grow ρ F ρ' F') {n : Nat} {x : Addr} (h : ρ[n]? = some x) : ρ'[n]? = some x := by
  obtain ⟨⟨t, e⟩, _⟩ := a
  subst e
  have hl := (List.getElem?_eq_some_iff.mp h).1
  rw [List.getElem?_append_left hl]
  exact h
/-- what stays as things grow -/
abbrev Stays (P : List Addr → Hp → Prop) : Prop := ∀ ρ F ρ' F', Grow ρ F ρ' F' → P ρ F → P ρ' F'
structure Gx where
  K : PySem.W.Frag
  cls : Nat → Addr
  fld : Nat → Str
  T : List (Addr × Str)
  more : List Addr → Hp → Prop
  stays : Stays more
/-- something more is known -/
abbrev Gx.pin (g : Gx) (P : List Addr → Hp → Prop) (h : Stays P) : Gx := ⟨g.K, g.cls, g.fld, g.T, fun ρ F => g.more ρ F ∧ P ρ F, fun _ _ _ _ gr x => ⟨g.stays _ _ _ _ gr x.1, h _ _ _ _ gr x.2⟩⟩
/-- a range stands there -/
def RangeAt (a : Addr) (lo hi st : Int) : Heap → Prop := fun h => ∃ t t' t'' : Tok, h.get? a = some { cls := .type "range", data := .fields #[.int lo t, .int hi t', .int st t''] }
/-- lists, dicts, sets -/
def Mu : Option HO → Prop
  | some (.lst _) => True
  | some (.dK _) => True
  | some (.dT _) => True
  | some (.set _ _) => True
  | _ => False
def kD : Key → PyData
  | .inl i => .int i
  | .inr x => .str x
/-- a tuple of the module's own, and no key -/
def OwnTup (K : PySem.W.Frag) (a : Addr) (xs : List V) : Prop := ∃ (o : Obj) (its : Array Value) (n : Nat), K.lookup a = some o ∧ o.cls = .type "tuple" ∧ o.data = .seq its n ∧ its.size ≤ sizeLine ∧ Vals xs its.toList
def isTupN : PyData → Bool
  | .tuple _ => true
  | _ => false
def noKey (ds : List PyData) : Bool := ds.isEmpty || ds.any isTupN
theorem noKey_keys {ks : List Key} (h : ks ≠ []) : noKey (ks.map kD) = false := by
  unfold noKey
  cases ks with
  | nil => exact absurd rfl h
  | cons k ks =>
    rw [List.any_eq_false.mpr (fun d hd => by
      obtain ⟨k, _, rfl⟩ := List.mem_map.mp hd
      cases k <;> exact Bool.false_ne_true)]
    rfl
mutual
inductive Rp (K : PySem.W.Frag) (F : Hp) : V → PyData → Prop
  | non : Rp K F .non .none
  | bl (b : Bool) : Rp K F (.bl b) (.bool b)
  | int (i : Int) : Rp K F (.int i) (.int i)
  | str (x : Str) : Rp K F (.str x) (.str x)
  | lst {a : Addr} {xs : List V} {ds : List PyData} : F a = some (.lst xs) → RpAll K F xs ds → Rp K F (.ref a) (.list ds)
  | tup {a : Addr} {xs : List V} {ds : List PyData} : F a = some (.tup xs) → RpAll K F xs ds → Rp K F (.ref a) (.tuple ds)
  | own {a : Addr} {xs : List V} {ds : List PyData} : OwnTup K a xs → noKey ds = true → RpAll K F xs ds → Rp K F (.ref a) (.tuple ds)
  | dicK {a : Addr} {o : Obj} {kvs : List (Key × V)} {ds : List (PyData × PyData)} : F a = some (.frz o (.dK kvs)) → RpKV K F (kvs.map fun p => (kD p.1, p.2)) ds → Rp K F (.ref a) (.dict ds)
  | dicT {a : Addr} {o : Obj} {kvs : List (List Key × V)} {ds : List (PyData × PyData)} : F a = some (.frz o (.dT kvs)) → RpKV K F (kvs.map fun p => (.tuple (p.1.map kD), p.2)) ds → Rp K F (.ref a) (.dict ds)
inductive RpAll (K : PySem.W.Frag) (F : Hp) : List V → List PyData → Prop
  | nil : RpAll K F [] []
  | cons {v : V} {vs : List V} {d : PyData} {ds : List PyData} : Rp K F v d → RpAll K F vs ds → RpAll K F (v :: vs) (d :: ds)
inductive RpKV (K : PySem.W.Frag) (F : Hp) : List (PyData × V) → List (PyData × PyData) → Prop
  | nil : RpKV K F [] []
  | cons {k : PyData} {v : V} {vs : List (PyData × V)} {d : PyData} {ds : List (PyData × PyData)} : Rp K F v d → RpKV K F vs ds → RpKV K F ((k, v) :: vs) ((k, d) :: ds)
end
mutual
inductive Is (K : PySem.W.Frag) (ρ : List Addr) (F : Hp) : V → W → Prop
  | dat {v : V} {d : PyData} : Rp K F v d → Is K ρ F v (.dat d)
  | loc {a : Addr} {n : Nat} : ρ[n]? = some a → Is K ρ F (.ref a) (.loc n)
  | tw {a : Addr} {vs : List V} {ws : List W} : SqT K F a vs → IsAll K ρ F vs ws → Is K ρ F (.ref a) (.tw ws)
  | lw {a : Addr} {vs : List V} {ws : List W} : SqL K F a vs → IsAll K ρ F vs ws → Is K ρ F (.ref a) (.lw ws)
  | kt {a : Addr} {vs : List V} {ds : List PyData} {o : Obj} : F a = some (.frz o (.tup vs)) → o.cls = .type "tuple" → o.dict = none → RpAll K F vs ds → Is K ρ F (.ref a) (.kt ds)
  | fn {a : Addr} {x : Str} : PySem.W.nsIn K mainGlobals x = some (some (.ref a)) → Is K ρ F (.ref a) (.fn x)
  | rg {a : Addr} {lo hi st : Int} : F a = some (.ext (RangeAt a lo hi st)) → Is K ρ F (.ref a) (.rg lo hi st)
inductive IsAll (K : PySem.W.Frag) (ρ : List Addr) (F : Hp) : List V → List W → Prop
  | nil : IsAll K ρ F [] []
  | cons {v : V} {vs : List V} {w : W} {ws : List W} : Is K ρ F v w → IsAll K ρ F vs ws → IsAll K ρ F (v :: vs) (w :: ws)
end
inductive IsKV (K : PySem.W.Frag) (ρ : List Addr) (F : Hp) : List (PyData × V) → List (PyData × W) → Prop
  | nil : IsKV K ρ F [] []
  | cons {k : PyData} {v : V} {vs : List (PyData × V)} {w : W} {ws : List (PyData × W)} : Is K ρ F v w → IsKV K ρ F vs ws → IsKV K ρ F ((k, v) :: vs) ((k, w) :: ws)
inductive IsFs (K : PySem.W.Frag) (ρ : List Addr) (F : Hp) : List (Str × V) → List (Str × W) → Prop
  | nil : IsFs K ρ F [] []
  | cons {k : Str} {v : V} {vs : List (Str × V)} {w : W} {ws : List (Str × W)} : Is K ρ F v w → IsFs K ρ F vs ws → IsFs K ρ F ((k, v) :: vs) ((k, w) :: ws)
theorem rp_tup {K : PySem.W.Frag} {F : Hp} {v : V} {ds : List PyData} (h : Rp K F v (.tuple ds)) : ∃ a xs, v = .ref a ∧ SqT K F a xs ∧ RpAll K F xs ds := by
  cases h with
  | tup q r => exact ⟨_, _, rfl, SqT.of q, r⟩
  | own q n r => exact ⟨_, _, rfl, .inr q, r⟩
def CellOk (g : Gx) (ρ : List Addr) (F H : Hp) (a : Addr) : Cell → Prop
  | .lst ws => ∃ vs, H a = some (.lst vs) ∧ IsAll g.K ρ F vs ws
  | .dic ws => (∃ kvs : List (Key × V), H a = some (.dK kvs) ∧ IsKV g.K ρ F (kvs.map fun p => (kD p.1, p.2)) ws) ∨
      ∃ kvs : List (List Key × V), H a = some (.dT kvs) ∧ IsKV g.K ρ F (kvs.map fun p => (.tuple (p.1.map kD), p.2)) ws
  | .ins c fs => ∃ dx gs, H a = some (.ins (g.cls c) dx gs) ∧ IsFs g.K ρ F gs fs
  | .fz ws => (∃ (o : Obj) (kvs : List (Key × V)), H a = some (.frz o (.dK kvs)) ∧ F a = some (.frz o (.dK kvs)) ∧ IsKV g.K ρ F (kvs.map fun p => (kD p.1, p.2)) ws) ∨
      ∃ (o : Obj) (kvs : List (List Key × V)), H a = some (.frz o (.dT kvs)) ∧ F a = some (.frz o (.dT kvs)) ∧ IsKV g.K ρ F (kvs.map fun p => (.tuple (p.1.map kD), p.2)) ws
structure Sim (g : Gx) (bs : List Nat) (ρ : List Addr) (F N : Hp) (S : Store) (H : Hp) : Prop where
  len : ρ.length = S.length
  nd : ρ.Nodup
  ex : Same F H
  fr : ∀ (n : Nat) (c : Cell) (a : Addr), S[n]? = some c → ρ[n]? = some a → c.isFz = false → F a = none
  cell : ∀ (n : Nat) (c : Cell) (a : Addr), S[n]? = some c → ρ[n]? = some a → CellOk g ρ F H a c
  hid : Same N H
  nf : ∀ a o, N a = some o → F a = none ∧ a ∉ ρ
  nl : ∀ a o, N a = some o → Mu (some o)
  bot : ∀ b ∈ bs, b ≤ S.length ∧ ∀ (k : Nat) (c : Cell), k < b → S[k]? = some c → c.und b = true
  tab : LamX.Tabs g.T H
  nt : ∀ a ps, F a ≠ some (.tbl ps)
theorem Same.sqT {K : PySem.W.Frag} {H H' : Hp} {a : Addr} {xs : List V} (e : Same H H') (h : SqT K H a xs) : SqT K H' a xs := by
  rcases h with (h | ⟨o, h⟩) | h
  · exact .inl (.inl (e _ _ h))
  · exact .inl (.inr ⟨o, e _ _ h⟩)
  · exact .inr h
section
variable {K : PySem.W.Frag} {F F' : Hp} {ρ ρ' : List Addr}
mutual
theorem Rp.mono (e : Same F F') : ∀ {d : PyData} {v : V}, Rp K F v d → Rp K F' v d
  | .none, _, h => by cases h; exact .non
  | .bool b, _, h => by cases h; exact .bl b
  | .int i, _, h => by cases h; exact .int i
  | .str x, _, h => by cases h; exact .str x
  | .list ds, _, h => by
    cases h with
    | lst s r => exact .lst (e _ _ s) (RpAll.mono e r)
  | .tuple ds, _, h => by
    cases h with
    | tup s r => exact .tup (e _ _ s) (RpAll.mono e r)
    | own s n r => exact .own s n (RpAll.mono e r)
  | .dict ds, _, h => by
    cases h with
    | dicK s r => exact .dicK (e _ _ s) (RpKV.mono e r)
    | dicT s r => exact .dicT (e _ _ s) (RpKV.mono e r)
theorem RpAll.mono (e : Same F F') : ∀ {ds : List PyData} {vs : List V}, RpAll K F vs ds → RpAll K F' vs ds
  | [], _, h => by cases h; exact .nil
  | d :: ds, _, h => by
    cases h with
    | cons a b => exact .cons (Rp.mono e a) (RpAll.mono e b)
theorem RpKV.mono (e : Same F F') : ∀ {ds : List (PyData × PyData)} {vs : List (PyData × V)}, RpKV K F vs ds → RpKV K F' vs ds
  | [], _, h => by cases h; exact .nil
  | (k, d) :: ds, _, h => by
    cases h with
    | cons a b => exact .cons (Rp.mono e a) (RpKV.mono e b)
end
mutual
theorem Is.mono (gr : Grow ρ F ρ' F') : ∀ {w : W} {v : V}, Is K ρ F v w → Is K ρ' F' v w
  | .dat d, _, h => by
    cases h with
    | dat r => exact .dat (r.mono gr.ex)
  | .loc n, _, h => by
    cases h with
    | loc r => exact .loc (gr.at r)
  | .tw ws, _, h => by
    cases h with
    | tw s r => exact .tw (Same.sqT gr.ex s) (IsAll.mono gr r)
  | .lw ws, _, h => by
    cases h with
    | lw s r => exact .lw (gr.ex.seq s) (IsAll.mono gr r)
  | .kt ds, _, h => by
    cases h with
    | kt s c d r => exact .kt (gr.ex _ _ s) c d (r.mono gr.ex)
  | .fn x, _, h => by
    cases h with
    | fn s => exact .fn s
  | .rg x y z, _, h => by
    cases h with
    | rg s => exact .rg (gr.ex _ _ s)
theorem IsAll.mono (gr : Grow ρ F ρ' F') : ∀ {ws : List W} {vs : List V}, IsAll K ρ F vs ws → IsAll K ρ' F' vs ws
  | [], _, h => by cases h; exact .nil
  | w :: ws, _, h => by
    cases h with
    | cons a b => exact .cons (Is.mono gr a) (IsAll.mono gr b)
end
theorem IsKV.mono (gr : Grow ρ F ρ' F') : ∀ {ws : List (PyData × W)} {vs : List (PyData × V)}, IsKV K ρ F vs ws → IsKV K ρ' F' vs ws
  | [], _, h => by cases h; exact .nil
  | _ :: _, _, h => by
    cases h with
    | cons a b => exact .cons (a.mono gr) (IsKV.mono gr b)
theorem IsFs.mono (gr : Grow ρ F ρ' F') : ∀ {ws : List (Str × W)} {vs : List (Str × V)}, IsFs K ρ F vs ws → IsFs K ρ' F' vs ws
  | [], _, h => by cases h; exact .nil
  | _ :: _, _, h => by
    cases h with
    | cons a b => exact .cons (a.mono gr) (IsFs.mono gr b)
theorem IsAll.len : ∀ {ws : List W} {vs : List V}, IsAll K ρ F vs ws → vs.length = ws.length
  | [], _, h => by cases h; rfl
  | _ :: _, _, h => by
    cases h with
    | cons a b => simp [IsAll.len b]
theorem RpAll.len : ∀ {ws : List PyData} {vs : List V}, RpAll K F vs ws → vs.length = ws.length
  | [], _, h => by cases h; rfl
  | _ :: _, _, h => by
    cases h with
    | cons a b => simp [RpAll.len b]
theorem IsAll.dats : ∀ {ws : List W} {vs : List V} {ds : List PyData}, IsAll K ρ F vs ws → allDat ws = some ds → RpAll K F vs ds
  | [], _, _, h, e => by cases h; simp [allDat] at e; subst e; exact .nil
  | .dat d :: ws, _, _, h, e => by
    cases h with
    | cons a b =>
      simp only [allDat, Option.map_eq_some_iff] at e
      obtain ⟨ds, e, rfl⟩ := e
      cases a with
      | dat r => exact .cons r (IsAll.dats b e)
  | .loc _ :: _, _, _, _, e => by simp [allDat] at e
  | .tw _ :: _, _, _, _, e => by simp [allDat] at e
  | .lw _ :: _, _, _, _, e => by simp [allDat] at e
  | .kt _ :: _, _, _, _, e => by simp [allDat] at e
  | .fn _ :: _, _, _, _, e => by simp [allDat] at e
  | .rg _ _ _ :: _, _, _, _, e => by simp [allDat] at e
theorem RpAll.isAll : ∀ {ds : List PyData} {vs : List V}, RpAll K F vs ds → IsAll K ρ F vs (ds.map .dat)
  | [], _, h => by cases h; exact .nil
  | _ :: _, _, h => by
    cases h with
    | cons a b => exact .cons (.dat a) (RpAll.isAll b)
theorem allDat_map (ds : List PyData) : allDat (ds.map .dat) = some ds := by
  induction ds with
  | nil => rfl
  | cons d ds ih => simp [allDat, ih]
@[simp] theorem mkTup_dat (ds : List PyData) : mkTup (ds.map .dat) = .dat (.tuple ds) := by simp [mkTup, allDat_map]
@[simp] theorem mkLst_dat (ds : List PyData) : mkLst (ds.map .dat) = .dat (.list ds) := by simp [mkLst, allDat_map]
theorem is_mkLst {a : Addr} {vs : List V} {ws : List W} (s : F a = some (.lst vs)) (r : IsAll K ρ F vs ws) : Is K ρ F (.ref a) (mkLst ws) := by
  unfold mkLst
  split
  · rename_i ds e; exact .dat (.lst s (r.dats e))
  · exact .lw (SqL.of s) r
/-- what is known of a tuple is forgotten -/
def W.weak : W → W
  | .kt ds => .tw (ds.map .dat)
  | w => w
theorem Is.weak {v : V} {w : W} (h : Is K ρ F v w) : Is K ρ F v w.weak := by
  cases w with
  | kt ds =>
    cases h with
    | kt s c d r => exact .tw (.inl (.inr ⟨_, s⟩)) r.isAll
  | fn x => exact h
  | rg x y z => exact h
  | dat d => exact h
  | loc n => exact h
  | tw ws => exact h
  | lw ws => exact h
theorem is_mkTup {a : Addr} {vs : List V} {ws : List W} (s : F a = some (.tup vs)) (r : IsAll K ρ F vs ws) : Is K ρ F (.ref a) (mkTup ws) := by
  unfold mkTup
  split
  · rename_i ds e; exact .dat (.tup s (r.dats e))
  · exact .tw (SqT.of s) r
end
/-! ### a new frozen object; a new cell -/
theorem ne_mem {l : List Addr} {a p : Addr} (h : a ∈ l) (n : p ∉ l) : a ≠ p := fun z => n (by rw [← z]; exact h)
theorem same_new {H : Hp} {p : Addr} {o : HO} (h : H p = none) : Same H (upd H p o) := fun a u e => by
  rw [upd_ne (ne_of_none e h)]; exact e
section
variable {g : Gx} {bs : List Nat} {ρ : List Addr} {F N H : Hp} {S : Store}
theorem CellOk.mono {F' H' : Hp} {ρ' : List Addr} {a : Addr} {c : Cell} (gr : Grow ρ F ρ' F') (h : H a = H' a) (x : CellOk g ρ F H a c) : CellOk g ρ' F' H' a c := by
  cases c with
  | lst ws => obtain ⟨vs, e, r⟩ := x; exact ⟨vs, by rw [← h]; exact e, r.mono gr⟩
  | dic ws =>
    rcases x with ⟨k, e, r⟩ | ⟨k, e, r⟩
    · exact .inl ⟨k, by rw [← h]; exact e, r.mono gr⟩
    · exact .inr ⟨k, by rw [← h]; exact e, r.mono gr⟩
  | ins c fs => obtain ⟨dx, gs, e, r⟩ := x; exact ⟨dx, gs, by rw [← h]; exact e, r.mono gr⟩
  | fz ws =>
    rcases x with ⟨o, k, e, f, r⟩ | ⟨o, k, e, f, r⟩
    · exact .inl ⟨o, k, by rw [← h]; exact e, gr.ex _ _ f, r.mono gr⟩
    · exact .inr ⟨o, k, by rw [← h]; exact e, gr.ex _ _ f, r.mono gr⟩
theorem CellOk.some {a : Addr} {c : Cell} (x : CellOk g ρ F H a c) : ∃ o, H a = some o := by
  cases c with
  | lst ws => obtain ⟨vs, e, r⟩ := x; exact ⟨_, e⟩
  | dic ws =>
    rcases x with ⟨k, e, r⟩ | ⟨k, e, r⟩
    · exact ⟨_, e⟩
    · exact ⟨_, e⟩
  | ins c fs => obtain ⟨dx, gs, e, r⟩ := x; exact ⟨_, e⟩
  | fz ws =>
    rcases x with ⟨o, k, e, f, r⟩ | ⟨o, k, e, f, r⟩
    · exact ⟨_, e⟩
    · exact ⟨_, e⟩
/-- neither a table nor a thing of another kind -/
def NT (u : HO) : Prop := (∀ ps, u ≠ .tbl ps) ∧ ∀ P, u ≠ .ext P
theorem Mu.nt {u : HO} (h : Mu (some u)) : NT u := by
  cases u <;> first | exact h.elim | exact ⟨fun _ z => (nomatch z), fun _ z => (nomatch z)⟩
theorem CellOk.nt {a : Addr} {c : Cell} (x : CellOk g ρ F H a c) : ∀ u : HO, H a = .some u → NT u := by
  intro u e
  cases c with
  | lst ws => obtain ⟨vs, e', r⟩ := x; rw [e'] at e; cases e; exact ⟨fun _ z => (nomatch z), fun _ z => (nomatch z)⟩
  | dic ws => rcases x with ⟨k, e', r⟩ | ⟨k, e', r⟩ <;> (rw [e'] at e; cases e; exact ⟨fun _ z => (nomatch z), fun _ z => (nomatch z)⟩)
  | ins c fs => obtain ⟨dx, gs, e', r⟩ := x; rw [e'] at e; cases e; exact ⟨fun _ z => (nomatch z), fun _ z => (nomatch z)⟩
  | fz ws => rcases x with ⟨o, k, e', f, r⟩ | ⟨o, k, e', f, r⟩ <;> (rw [e'] at e; cases e; exact ⟨fun _ z => (nomatch z), fun _ z => (nomatch z)⟩)
theorem tabs_put {T : List (Addr × Str)} {a : Addr} {o : HO} (h : ∀ u : HO, H a = .some u → NT u) (t : LamX.Tabs T H) : LamX.Tabs T (upd H a o) := fun p hp => by
  obtain ⟨ps, h1, h2, h3⟩ := t p hp
  have off : ∀ (b : Addr) (u : HO), H b = .some u → ¬ NT u → b ≠ a := fun b u e n z => by subst z; exact n (h u e)
  refine ⟨ps, by rw [upd_ne (off _ _ h1 fun z => z.1 ps rfl)]; exact h1, h2, fun pos cv hc => ?_⟩
  obtain ⟨c, e1, e2⟩ := h3 pos cv hc
  exact ⟨c, e1, by rw [upd_ne (off _ _ e2 fun z => z.2 _ rfl)]; exact e2⟩
theorem tabs_new {T : List (Addr × Str)} {a : Addr} {o : HO} (h : H a = none) (t : LamX.Tabs T H) : LamX.Tabs T (upd H a o) := tabs_put (fun u e => by rw [h] at e; cases e) t
theorem Sim.has (s : Sim g bs ρ F N S H) {a : Addr} (ha : a ∈ ρ) : ∃ o, H a = some o := by
  obtain ⟨n, hn, e⟩ := List.mem_iff_getElem.mp ha
  have hn' : n < S.length := by rw [← s.len]; exact hn
  exact (s.cell n S[n] a (by simp [hn']) (by rw [List.getElem?_eq_getElem hn, e])).some
theorem nt_upd {p : Addr} {o : HO} (h : ∀ a ps, F a ≠ .some (.tbl ps)) (no : ∀ ps, o ≠ .tbl ps) : ∀ a ps, upd F p o a ≠ .some (.tbl ps) := fun a ps e => by
  by_cases z : a = p
  · subst z; rw [upd_same] at e; cases e; exact no _ rfl
  · rw [upd_ne z] at e; exact h a ps e
theorem Sim.frozen (s : Sim g bs ρ F N S H) {p : Addr} {o : HO} (hp : H p = none) (no : ∀ ps, o ≠ .tbl ps := by exact fun _ z => nomatch z) : Sim g bs ρ (upd F p o) N S (upd H p o) ∧ Grow ρ F ρ (upd F p o) := by
  have fp : F p = none := s.ex.free hp
  have np : p ∉ ρ := fun z => by obtain ⟨o, e⟩ := s.has z; rw [hp] at e; cases e
  have gr : Grow ρ F ρ (upd F p o) := ⟨⟨[], by simp⟩, same_new fp⟩
  have np2 : ∀ a o, N a = some o → a ≠ p := fun a u e z => by subst z; rw [s.hid a u e] at hp; cases hp
  refine ⟨⟨s.len, s.nd, fun a u e => ?_, fun n c a e1 e2 e3 => ?_, fun n c a e1 e2 => ?_, fun a u e => ?_, fun a u e => ?_, s.nl, s.bot, tabs_new hp s.tab, nt_upd s.nt no⟩, gr⟩
  rotate_left 3
  · rw [upd_ne (np2 a u e)]; exact s.hid a u e
  · rw [upd_ne (np2 a u e)]; exact s.nf a u e
  · by_cases h : a = p
    · subst h; rw [upd_same] at e ⊢; exact e
    · rw [upd_ne h] at e ⊢; exact s.ex a u e
  · rw [upd_ne (ne_mem (List.mem_of_getElem? e2) np)]; exact s.fr n c a e1 e2 e3
  · have ha : a ∈ ρ := List.mem_of_getElem? e2
    exact (s.cell n c a e1 e2).mono gr (by rw [upd_ne (ne_mem ha np)])
/-- another heap with the same cells and all that is frozen -/
theorem Sim.heap {H' : Hp} (s : Sim g bs ρ F N S H) (k : Same H H') : Sim g bs ρ F N S H' :=
  ⟨s.len, s.nd, s.ex.trans k, s.fr, fun n c a e1 e2 => by
    have x := s.cell n c a e1 e2
    obtain ⟨o, e⟩ := x.some
    exact x.mono (Grow.refl ρ F) (by rw [e, k a o e]), s.hid.trans k, s.nf, s.nl, s.bot, s.tab.ext k, s.nt⟩
theorem Sim.newCell {p : Addr} {o : HO} {c : Cell} (s : Sim g bs ρ F N S H) (hp : H p = none) (hc : CellOk g (ρ ++ [p]) F (upd H p o) p c) :
    Sim g bs (ρ ++ [p]) F N (S ++ [c]) (upd H p o) ∧ Grow ρ F (ρ ++ [p]) F := by
  have fp : F p = none := s.ex.free hp
  have np : p ∉ ρ := fun z => by obtain ⟨o, e⟩ := s.has z; rw [hp] at e; cases e
  have gr : Grow ρ F (ρ ++ [p]) F := ⟨⟨[p], rfl⟩, Same.refl F⟩
  have np2 : ∀ a o, N a = some o → a ≠ p := fun a u e z => by subst z; rw [s.hid a u e] at hp; cases hp
  refine ⟨⟨by simp [s.len], ?_, fun a u e => ?_, fun n c' a e1 e2 e3 => ?_, fun n c' a e1 e2 => ?_, fun a u e => ?_, fun a u e => ?_, s.nl, fun b hb => ?_, tabs_new hp s.tab, s.nt⟩, gr⟩
  rotate_left 4
  · rw [upd_ne (np2 a u e)]; exact s.hid a u e
  · refine ⟨(s.nf a u e).1, fun ha => ?_⟩
    rcases List.mem_append.mp ha with ha | ha
    · exact (s.nf a u e).2 ha
    · simp at ha; exact np2 a u e ha
  rotate_left 1
  · rw [List.nodup_append]; exact ⟨s.nd, by simp, fun a ha b hb z => by simp at hb; subst hb; subst z; exact np ha⟩
  · have h : a ≠ p := fun z => by subst z; rw [fp] at e; cases e
    rw [upd_ne h]; exact s.ex a u e
  · by_cases hn : n < S.length
    · rw [List.getElem?_append_left hn] at e1
      rw [List.getElem?_append_left (by rw [s.len]; exact hn)] at e2
      exact s.fr n c' a e1 e2 e3
    · rcases List.mem_append.mp (List.mem_of_getElem? e2) with ha | ha
      · have hl := (List.getElem?_eq_some_iff.mp e1).1
        have e : n = S.length := by simp at hl; omega
        subst e
        rw [← s.len] at e2; simp at e2
        subst e2; exact fp
      · simp at ha; subst ha; exact fp
  · by_cases hn : n < S.length
    · rw [List.getElem?_append_left hn] at e1
      rw [List.getElem?_append_left (by rw [s.len]; exact hn)] at e2
      have ha : a ∈ ρ := List.mem_of_getElem? e2
      exact (s.cell n c' a e1 e2).mono gr (by rw [upd_ne (ne_mem ha np)])
    · have hl := (List.getElem?_eq_some_iff.mp e1).1
      have e : n = S.length := by simp at hl; omega
      subst e
      simp at e1
      rw [← s.len] at e2; simp at e2
      subst e1; subst e2
      exact hc
  · obtain ⟨h1, h2⟩ := s.bot b hb
    refine ⟨by simp; omega, fun k c' hk e => h2 k c' hk ?_⟩
    rw [List.getElem?_append_left (by omega)] at e
    exact e
/-- a cell is written -/
theorem Sim.write {n : Nat} {a : Addr} {o : HO} {c c0 : Cell} (s : Sim g bs ρ F N S H) (h0 : S[n]? = some c0) (hz : c0.isFz = false) (hn : ρ[n]? = some a) (hc : CellOk g ρ F (upd H a o) a c) (hb : ∀ b ∈ bs, n < b → c.und b = true) :
    Sim g bs ρ F N (S.set n c) (upd H a o) := by
  have fa : F a = none := s.fr n c0 a h0 hn hz
  have hl := (List.getElem?_eq_some_iff.mp hn).1
  refine ⟨by simp [s.len], s.nd, fun b u e => ?_, fun m c' b e1 e2 e3 => (by
    by_cases hm : m = n
    · subst hm; rw [hn] at e2; cases e2; exact fa
    · rw [List.getElem?_set_ne (Ne.symm hm)] at e1; exact s.fr m c' b e1 e2 e3), fun m c' b e1 e2 => ?_, fun b u e => ?_, s.nf, s.nl, fun b hb' => ?_, tabs_put (CellOk.nt (s.cell n c0 a h0 hn)) s.tab, s.nt⟩
  rotate_left 2
  · have h : b ≠ a := fun z => by subst z; exact (s.nf b u e).2 (List.mem_of_getElem? hn)
    rw [upd_ne h]; exact s.hid b u e
  rotate_left 1
  · have h : b ≠ a := fun z => by subst z; rw [fa] at e; cases e
    rw [upd_ne h]; exact s.ex b u e
  · by_cases hm : m = n
    · subst hm
      rw [hn] at e2; cases e2
      rw [List.getElem?_set_self (by rw [← s.len]; exact hl)] at e1
      cases e1
      exact hc
    · rw [List.getElem?_set_ne (Ne.symm hm)] at e1
      have ne : b ≠ a := fun z => by
        subst z
        exact hm (nodup_ixA s.nd e2 hn)
      exact (s.cell m c' b e1 e2).mono (Grow.refl ρ F) (by rw [upd_ne ne])
  · obtain ⟨h1, h2⟩ := s.bot b hb'
    refine ⟨by simpa using h1, fun k c' hk e => ?_⟩
    by_cases hm : k = n
    · subst hm
      rw [List.getElem?_set_self (by rw [← s.len]; exact hl)] at e
      cases e
      exact hb b hb' hk
    · rw [List.getElem?_set_ne (Ne.symm hm)] at e
      exact h2 k c' hk e
where
  nodup_ixA {l : List Addr} (nd : l.Nodup) {i j : Nat} {x : Addr} (a : l[i]? = some x) (b : l[j]? = some x) : i = j := by
    obtain ⟨h1, e1⟩ := List.getElem?_eq_some_iff.mp a
    obtain ⟨h2, e2⟩ := List.getElem?_eq_some_iff.mp b
    exact (List.getElem_inj nd).mp (e1.trans e2.symm)
end
end Rf

namespace Rf
open PySem L2

theorem _root_.L2.PE.imp {X : Cx} {e : Expr} {t t' : TE} (h : PE X e t) (i : ∀ σ H Q, t' σ H Q → t σ H Q) : PE X e t' := ⟨fun pins s σ H Q I q => h.run pins s σ H Q I (i σ H Q q)⟩
theorem _root_.L2.PT.imp {X : Cx} {e : Expr} {t t' : TT} (h : PT X e t) (i : ∀ σ H Q, t' σ H Q → t σ H Q) : PT X e t' := ⟨fun pins s σ H Q I q => h.run pins s σ H Q I (i σ H Q q)⟩
theorem _root_.L2.PW.imp {X : Cx} {e : Expr} {t t' : TT} (h : PW X e t) (i : ∀ σ H Q, t' σ H Q → t σ H Q) : PW X e t' := ⟨fun wh pins s σ H Q I q => h.run wh pins s σ H Q I (i σ H Q q)⟩
theorem _root_.L2.PA.imp {X : Cx} {es : List Expr} {t t' : TA} (h : PA X es t) (i : ∀ σ H Q, t' σ H Q → t σ H Q) : PA X es t' := ⟨fun pos pins s σ H Q I q => h.run pos pins s σ H Q I (i σ H Q q)⟩
theorem _root_.L2.PS.imp {X : Cx} {st : Stmt} {t t' : TS} (h : PS X st t) (i : ∀ D σ H, t' D σ H → t D σ H) : PS X st t' := ⟨fun pins s σ H D I q => h.run pins s σ H D I (i D σ H q)⟩
theorem _root_.L2.PSs.imp {X : Cx} {st : List Stmt} {t t' : TS} (h : PSs X st t) (i : ∀ D σ H, t' D σ H → t D σ H) : PSs X st t' := ⟨fun pins s σ H D I q => h.run pins s σ H D I (i D σ H q)⟩
theorem _root_.L2.PG.imp {X : Cx} {tg : Expr} {t t' : TG} (h : PG X tg t) (i : ∀ v σ H Q, t' v σ H Q → t v σ H Q) : PG X tg t' := ⟨fun pins s σ H v u Q I r q => h.run pins s σ H v u Q I r (i v σ H Q q)⟩
theorem _root_.L2.PI.imp {X : Cx} {tg it : Expr} {t t' : TI} (h : PI X tg it t) (i : ∀ σ H R, t' σ H R → t σ H R) : PI X tg it t' := ⟨fun pins s σ H R I q => h.run pins s σ H R I (i σ H R q)⟩

structure EnvR (g : Gx) (ρ : List Addr) (F : Hp) (σ : St) (env : Env) : Prop where
  len : σ.length = env.length
  at_ : ∀ (i : Nat) (w : W), env[i]? = some (some w) → ∃ v, σ[i]? = some (some v) ∧ Is g.K ρ F v w
  more : g.more ρ F
theorem EnvR.mono {g : Gx} {ρ ρ' : List Addr} {F F' : Hp} {σ : St} {env : Env} (gr : Grow ρ F ρ' F') (e : EnvR g ρ F σ env) : EnvR g ρ' F' σ env :=
  ⟨e.len, fun i w h => let ⟨v, a, b⟩ := e.at_ i w h; ⟨v, a, b.mono gr⟩, g.stays _ _ _ _ gr e.more⟩
theorem EnvR.set {g : Gx} {ρ : List Addr} {F : Hp} {σ : St} {env : Env} {v : V} {w : W} (e : EnvR g ρ F σ env) (i : Nat) (h : Is g.K ρ F v w) : EnvR g ρ F (σ.set i (some v)) (env.set i (some w)) := by
  refine ⟨by simp [e.len], fun j x hj => ?_, e.more⟩
  by_cases z : i = j
  · subst z
    have hl := (List.getElem?_eq_some_iff.mp hj).1
    simp only [List.length_set] at hl
    rw [List.getElem?_set_self hl] at hj
    cases hj
    exact ⟨v, List.getElem?_set_self (by rw [e.len]; exact hl), h⟩
  · rw [List.getElem?_set_ne z] at hj ⊢
    exact e.at_ j x hj
def ExR (g : Gx) (c : Nat) (ρ : List Addr) (F H : Hp) (d : Option Addr) : List W → Prop
  | [] => d = none
  | w :: _ => ∃ a v, d = some a ∧ H a = some (.xd [(g.fld c, v)]) ∧ Is g.K ρ F v w
/-- what an outcome must lead to -/
def Post {α β : Type} (g : Gx) (B : WX) (R : List Addr → Hp → β → α → Prop) (bs : List Nat) (ρ : List Addr) (F N : Hp) (σ : St) (Q : β → Hp → Prop) : Out α → Prop
  | .ok w S' => ∀ ρ' F' H' v, Grow ρ F ρ' F' → Sim g bs ρ' F' N S' H' → R ρ' F' v w → Q v H'
  | .ex c ws S' => ∀ ρ' F' H' d, Grow ρ F ρ' F' → Sim g bs ρ' F' N S' H' → ExR g c ρ' F' H' d ws → B (.ref (g.cls c)) d σ H'
  | .stuck => False
def rdG {α β : Type} (g : Gx) (B : WX) (R : List Addr → Hp → β → α → Prop) (m : M α) : St → Hp → (β → Hp → Prop) → Prop := fun σ H Q =>
  ∃ bs ρ F N env S, Sim g bs ρ F N S H ∧ EnvR g ρ F σ env ∧ Post g B R bs ρ F N σ Q (m bs env S)
abbrev RW (g : Gx) : List Addr → Hp → V → W → Prop := fun ρ F v w => Is g.K ρ F v w
abbrev RWs (g : Gx) : List Addr → Hp → List V → List W → Prop := fun ρ F v w => IsAll g.K ρ F v w
abbrev RB : List Addr → Hp → Bool → Bool → Prop := fun _ _ a b => a = b
abbrev rd (g : Gx) (B : WX) (m : M W) : TE := rdG g B (RW g) m
abbrev rdT (g : Gx) (B : WX) (m : M Bool) : TT := rdG g B RB m
abbrev rdA (g : Gx) (B : WX) (m : M (List W)) : TA := rdG g B (RWs g) m
theorem Post.grow {α β : Type} {g : Gx} {B : WX} {R : List Addr → Hp → β → α → Prop} {bs : List Nat} {ρ ρ1 : List Addr} {F F1 N : Hp} {σ : St} {Q : β → Hp → Prop} {o : Out α} (gr : Grow ρ F ρ1 F1) (h : Post g B R bs ρ F N σ Q o) : Post g B R bs ρ1 F1 N σ Q o := by
  cases o with
  | ok a S => exact fun ρ' F' H' v g1 s r => h ρ' F' H' v (gr.trans g1) s r
  | ex c ws S => exact fun ρ' F' H' d g1 s r => h ρ' F' H' d (gr.trans g1) s r
  | stuck => exact h
theorem Post.imp {α β : Type} {g : Gx} {B : WX} {R : List Addr → Hp → β → α → Prop} {bs : List Nat} {ρ : List Addr} {F N : Hp} {σ : St} {Q Q' : β → Hp → Prop} {o : Out α} (h : Post g B R bs ρ F N σ Q o) (i : ∀ v H, Q v H → Q' v H) : Post g B R bs ρ F N σ Q' o := by
  cases o with
  | ok a S => exact fun ρ' F' H' v g1 s r => i _ _ (h ρ' F' H' v g1 s r)
  | ex c ws S => exact h
  | stuck => exact h
/-- one after another -/
theorem Post.bind {α β γ δ : Type} {g : Gx} {B : WX} {R1 : List Addr → Hp → β → α → Prop} {R2 : List Addr → Hp → δ → γ → Prop} {bs : List Nat} {ρ : List Addr} {F N : Hp} {σ : St} {Q : δ → Hp → Prop} {o : Out α} {f : α → Store → Out γ}
    (h : Post g B R2 bs ρ F N σ Q (o.bind f)) :
    Post g B R1 bs ρ F N σ (fun v H1 => ∃ ρ' F' a S', Grow ρ F ρ' F' ∧ Sim g bs ρ' F' N S' H1 ∧ R1 ρ' F' v a ∧ Post g B R2 bs ρ' F' N σ Q (f a S')) o := by
  cases o with
  | ok a S1 => exact fun ρ' F' H' v gr s' r => ⟨ρ', F', a, S1, gr, s', r, Post.grow gr h⟩
  | ex c ws S1 => exact h
  | stuck => exact h

/-! ### names, constants -/
def mVar (i : Nat) : M W := fun _ env S => match env[i]? with
  | some (some w) => .ok w.weak S
  | _ => .stuck
/-- with all that is known of it -/
def mVarK (i : Nat) : M W := fun _ env S => match env[i]? with
  | some (some w) => .ok w S
  | _ => .stuck
def mCon (d : PyData) : M W := fun _ _ S => .ok (.dat d) S
section
variable {X : Cx} {g : Gx} {B : WX}
theorem rd_var {i : Nat} (σ : St) (H : Hp) (Q : VK) (h : rd g B (mVar i) σ H Q) : tVar i σ H Q := by
  obtain ⟨bs, ρ, F, N, env, S, s, e, p⟩ := h
  unfold mVar at p
  split at p
  · rename_i w hw
    obtain ⟨v, h1, h2⟩ := e.at_ i w hw
    exact ⟨v, h1, p ρ F H v (Grow.refl _ _) s h2.weak⟩
  · exact p.elim
theorem re_var {i : Nat} {x : Str} {pos : Pos} (hN : X.N[i]? = some x := by rfl) (hv : Vis X.env.scope x := by first | exact Or.inl rfl | exact Or.inr (Or.inl rfl) | exact Or.inr (Or.inr rfl)) (hd : (x == ("__debug__" : Str)) = false := by decide)
    (hcd : (x == ("__classdict__" : Str)) = false := by decide) : PE X (.Name x pos) (rd g B (mVar i)) := (pe_var hN hv hd hcd).imp rd_var
theorem rd_con {d : PyData} {v : V} (hr : ∀ F, Rp g.K F v d) (σ : St) (H : Hp) (Q : VK) (h : rd g B (mCon d) σ H Q) : tC v σ H Q := by
  obtain ⟨bs, ρ, F, N, env, S, s, e, p⟩ := h
  exact p ρ F H v (Grow.refl _ _) s (.dat (hr F))
theorem re_int {i : Int} {j pos} : PE X (.Constant (.int i) j pos) (rd g B (mCon (.int i))) := pe_int.imp (rd_con fun _ => .int i)
theorem re_bl {b : Bool} {j pos} : PE X (.Constant (.bool b) j pos) (rd g B (mCon (.bool b))) := pe_bl.imp (rd_con fun _ => .bl b)
theorem re_non {j pos} : PE X (.Constant .none j pos) (rd g B (mCon .none)) := pe_non.imp (rd_con fun _ => .non)
theorem re_str {x : Str} {j pos} : PE X (.Constant (.str x) j pos) (rd g B (mCon (.str x))) := pe_str.imp (rd_con fun _ => .str x)
theorem re_glob {x : Str} {v : V} {u : Value} {d : PyData} {pos : Pos} (hg : Gl X x) (hm : X.mg x = some u) (r : RelV v u) (hr : ∀ F, Rp g.K F v d) (hd : (x == ("__debug__" : Str)) = false := by decide) : PE X (.Name x pos) (rd g B (mCon d)) :=
  (pe_glob hg hm r hd).imp (rd_con hr)

/-! ### operations on two values -/
abbrev Op2 := List Nat → W → W → Store → Option (W × Store)
def mBin (f : Op2) (ma mb : M W) : M W := fun bs env S => (ma bs env S).bind fun x S1 => (mb bs env S1).bind fun y S2 => match f bs x y S2 with
  | some (w, S3) => .ok w S3
  | none => .stuck
def PostV (g : Gx) (bs : List Nat) (ρ : List Addr) (F N : Hp) (Q : VK) : Option (W × Store) → Prop
  | some (w, S') => ∀ ρ' F' H' v, Grow ρ F ρ' F' → Sim g bs ρ' F' N S' H' → Is g.K ρ' F' v w → Q v H'
  | none => False
def rd2 (g : Gx) (f : Op2) : R2 := fun x y H Q => ∃ bs ρ F N S wx wy, Sim g bs ρ F N S H ∧ Is g.K ρ F x wx ∧ Is g.K ρ F y wy ∧ PostV g bs ρ F N Q (f bs wx wy S)
theorem post_op {o : Option (W × Store)} {bs : List Nat} {ρ : List Addr} {F N : Hp} {σ : St} {Q : VK} (p : Post g B (RW g) bs ρ F N σ Q (match o with
    | some (w, S3) => .ok w S3
    | none => .stuck)) : PostV g bs ρ F N Q o := by
  cases o with
  | none => exact p
  | some q => exact p
theorem rd_bin {f : Op2} {ma mb : M W} (σ : St) (H : Hp) (Q : VK) (h : rd g B (mBin f ma mb) σ H Q) : tOp (rd2 g f) (rd g B ma) (rd g B mb) σ H Q := by
  obtain ⟨bs, ρ, F, N, env, S, s, e, p⟩ := h
  refine ⟨bs, ρ, F, N, env, S, s, e, (Post.bind p).imp fun x H1 ⟨ρ1, F1, wx, S1, g1, s1, r1, p1⟩ => ?_⟩
  refine ⟨bs, ρ1, F1, N, env, S1, s1, e.mono g1, (Post.bind p1).imp fun y H2 ⟨ρ2, F2, wy, S2, g2, s2, r2, p2⟩ => ?_⟩
  exact ⟨bs, ρ2, F2, N, S2, wx, wy, s2, r1.mono g2, r2, post_op p2⟩
variable {a b c e : Expr} {ma mb mc : M W} {pos : Pos} {f f' : Op2}
theorem re_bin {op : Operator} (ho : OpR X (binaryOp op) (rd2 g f)) (ha : PE X a (rd g B ma)) (hb : PE X b (rd g B mb)) : PE X (.BinOp a op b pos) (rd g B (mBin f ma mb)) := (pe_op ho ha hb).imp rd_bin
theorem re_cmp {op : CmpOp} (ho : OpR X (compareOp op) (rd2 g f)) (ha : PE X a (rd g B ma)) (hb : PE X b (rd g B mb)) (hm : behindInMarks op b = false := by first | exact nomark _ | rfl) : PE X (.Compare a [op] [b] pos) (rd g B (mBin f ma mb)) := (pe_cmpR ho ha hb hm).imp rd_bin
/-! ### tests -/
/-- the value as a truth, when it is a bool -/
def mB (m : M W) : M Bool := fun bs env S => (m bs env S).bind fun w S1 => match w with
  | .dat (.bool b) => .ok b S1
  | _ => .stuck
theorem is_bl {K : PySem.W.Frag} {ρ : List Addr} {F : Hp} {v : V} {b : Bool} (h : Is K ρ F v (.dat (.bool b))) : v = .bl b := by
  cases h with
  | dat r => cases r; rfl
theorem is_int {K : PySem.W.Frag} {ρ : List Addr} {F : Hp} {v : V} {b : Int} (h : Is K ρ F v (.dat (.int b))) : v = .int b := by
  cases h with
  | dat r => cases r; rfl
theorem is_str {K : PySem.W.Frag} {ρ : List Addr} {F : Hp} {v : V} {b : Str} (h : Is K ρ F v (.dat (.str b))) : v = .str b := by
  cases h with
  | dat r => cases r; rfl
theorem is_non {K : PySem.W.Frag} {ρ : List Addr} {F : Hp} {v : V} (h : Is K ρ F v (.dat .none)) : v = .non := by
  cases h with
  | dat r => cases r; rfl
theorem rd_B {m : M W} {σ : St} {H : Hp} {Q : Bool → Hp → Prop} (h : rdT g B (mB m) σ H Q) : rd g B m σ H (fun x H1 => ∃ k, x = .bl k ∧ Q k H1) := by
  obtain ⟨bs, ρ, F, N, env, S, s, e, p⟩ := h
  refine ⟨bs, ρ, F, N, env, S, s, e, (Post.bind (R1 := RW g) p).imp fun x H1 ⟨ρ1, F1, wx, S1, g1, s1, r1, p1⟩ => ?_⟩
  split at p1
  · have ev := is_bl r1
    subst ev
    exact ⟨_, rfl, p1 ρ1 F1 H1 _ (Grow.refl _ _) s1 rfl⟩
  · exact p1.elim
theorem rt_cmp {op : CmpOp} (ho : OpR X (compareOp op) (rd2 g f)) (ha : PE X a (rd g B ma)) (hb : PE X b (rd g B mb)) (hm : behindInMarks op b = false := by first | exact nomark _ | rfl) : PT X (.Compare a [op] [b] pos) (rdT g B (mB (mBin f ma mb))) :=
  (pt_cmpR ho ha hb hm).imp fun σ H Q h => rd_bin σ H _ (rd_B h)
def mNot (m : M Bool) : M Bool := fun bs env S => (m bs env S).bind fun b S1 => .ok (!b) S1
theorem rd_not {m : M Bool} (σ : St) (H : Hp) (Q : Bool → Hp → Prop) (h : rdT g B (mNot m) σ H Q) : tNot (rdT g B m) σ H Q := by
  obtain ⟨bs, ρ, F, N, env, S, s, e, p⟩ := h
  refine ⟨bs, ρ, F, N, env, S, s, e, (Post.bind (R1 := RB) p).imp fun x H1 ⟨ρ1, F1, wx, S1, g1, s1, r1, p1⟩ => ?_⟩
  cases r1
  exact p1 ρ1 F1 H1 _ (Grow.refl _ _) s1 rfl
theorem rt_not {m : M Bool} (h : PT X a (rdT g B m)) : PT X (.UnaryOp .Not a pos) (rdT g B (mNot m)) := (pt_not h).imp rd_not
def mIf {α : Type} (t : M Bool) (m n : M α) : M α := fun bs env S => (t bs env S).bind fun b S1 => if b = true then m bs env S1 else n bs env S1
theorem rd_if {α β : Type} {R : List Addr → Hp → β → α → Prop} {t : M Bool} {m n : M α} (σ : St) (H : Hp) (Q : β → Hp → Prop) (h : rdG g B R (mIf t m n) σ H Q) :
    rdT g B t σ H fun c H1 => if c = true then rdG g B R m σ H1 Q else rdG g B R n σ H1 Q := by
  obtain ⟨bs, ρ, F, N, env, S, s, e, p⟩ := h
  refine ⟨bs, ρ, F, N, env, S, s, e, (Post.bind (R1 := RB) p).imp fun x H1 ⟨ρ1, F1, wx, S1, g1, s1, r1, p1⟩ => ?_⟩
  cases r1
  cases x with
  | true => exact ⟨bs, ρ1, F1, N, env, S1, s1, e.mono g1, p1⟩
  | false => exact ⟨bs, ρ1, F1, N, env, S1, s1, e.mono g1, p1⟩
theorem rdG_imp {α β : Type} {R : List Addr → Hp → β → α → Prop} {m : M α} {σ : St} {H : Hp} {Q Q' : β → Hp → Prop} (h : rdG g B R m σ H Q) (i : ∀ v H, Q v H → Q' v H) : rdG g B R m σ H Q' := by
  obtain ⟨bs, ρ, F, N, env, S, s, e, p⟩ := h
  exact ⟨bs, ρ, F, N, env, S, s, e, p.imp i⟩
abbrev mAnd (t u : M Bool) : M Bool := mIf t u (fun _ _ S => .ok false S)
abbrev mOr (t u : M Bool) : M Bool := mIf t (fun _ _ S => .ok true S) u
theorem rd_ok {α β : Type} {R : List Addr → Hp → β → α → Prop} {x : α} {y : β} (hr : ∀ ρ F, R ρ F y x) (σ : St) (H : Hp) (Q : β → Hp → Prop) (h : rdG g B R (fun _ _ S => .ok x S) σ H Q) : Q y H := by
  obtain ⟨bs, ρ, F, N, env, S, s, e, p⟩ := h
  exact p ρ F H y (Grow.refl _ _) s (hr ρ F)
theorem rd_and {t u : M Bool} (σ : St) (H : Hp) (Q : Bool → Hp → Prop) (h : rdT g B (mAnd t u) σ H Q) : tAnd (rdT g B t) (rdT g B u) σ H Q :=
  rdG_imp (rd_if σ H Q h) fun c H1 q => by
    cases c with
    | true => exact q
    | false => exact rd_ok (R := RB) (y := false) (fun _ _ => rfl) σ H1 Q q
theorem rd_or {t u : M Bool} (σ : St) (H : Hp) (Q : Bool → Hp → Prop) (h : rdT g B (mOr t u) σ H Q) : tOr (rdT g B t) (rdT g B u) σ H Q :=
  rdG_imp (rd_if σ H Q h) fun c H1 q => by
    cases c with
    | true => exact rd_ok (R := RB) (y := true) (fun _ _ => rfl) σ H1 Q q
    | false => exact q
theorem rw_and1 {m : M Bool} (h : PT X a (rdT g B m)) : PW X (.BoolOp .And [a] pos) (rdT g B m) := pw_and1 h
theorem rw_or1 {m : M Bool} (h : PT X a (rdT g B m)) : PW X (.BoolOp .Or [a] pos) (rdT g B m) := pw_or1 h
theorem rw_and {m n : M Bool} {rest : List Expr} (h : PT X a (rdT g B m)) (k : PW X (.BoolOp .And (b :: rest) pos) (rdT g B n)) : PW X (.BoolOp .And (a :: b :: rest) pos) (rdT g B (mAnd m n)) := (pw_and h k).imp rd_and
theorem rw_or {m n : M Bool} {rest : List Expr} (h : PT X a (rdT g B m)) (k : PW X (.BoolOp .Or (b :: rest) pos) (rdT g B n)) : PW X (.BoolOp .Or (a :: b :: rest) pos) (rdT g B (mOr m n)) := (pw_or h k).imp rd_or
theorem re_ife {m : M Bool} (ht : PT X c (rdT g B m)) (ha : PE X a (rd g B ma)) (hb : PE X b (rd g B mb)) : PE X (.IfExp c a b pos) (rd g B (mIf m ma mb)) := (pe_ifExp ht ha hb).imp fun σ H Q h => rd_if σ H Q h
end
end Rf

namespace Rf
open PySem L2

/-! ### new lists: frozen, or a cell -/
def newL (k : Bool) (ws : List W) (S : Store) : W × Store := if k then (.loc S.length, S ++ [.lst ws]) else (mkLst ws, S)
section
variable {g : Gx} {bs : List Nat} {ρ : List Addr} {F N H : Hp} {S : Store}
theorem new_ok {k : Bool} {p : Addr} {vs : List V} {ws : List W} {Q : VK} (s : Sim g bs ρ F N S H) (hp : H p = none) (r : IsAll g.K ρ F vs ws)
    (h : ∀ ρ' F' H' v, Grow ρ F ρ' F' → Sim g bs ρ' F' N (newL k ws S).2 H' → Is g.K ρ' F' v (newL k ws S).1 → Q v H') : Q (.ref p) (upd H p (.lst vs)) := by
  cases k with
  | true =>
    obtain ⟨s', gr⟩ := s.newCell (c := .lst ws) (o := .lst vs) hp ⟨vs, upd_same, r.mono ⟨⟨[p], rfl⟩, Same.refl F⟩⟩
    refine h _ _ _ _ gr s' (.loc ?_)
    show (ρ ++ [p])[S.length]? = some p
    rw [← s.len]; simp
  | false =>
    obtain ⟨s', gr⟩ := s.frozen (o := .lst vs) hp
    exact h _ _ _ _ gr s' (is_mkLst upd_same (r.mono gr))
theorem newT_ok {p : Addr} {vs : List V} {ws : List W} {Q : VK} (s : Sim g bs ρ F N S H) (hp : H p = none) (r : IsAll g.K ρ F vs ws)
    (h : ∀ ρ' F' H' v, Grow ρ F ρ' F' → Sim g bs ρ' F' N S H' → Is g.K ρ' F' v (mkTup ws) → Q v H') : Q (.ref p) (upd H p (.tup vs)) := by
  obtain ⟨s', gr⟩ := s.frozen (o := .tup vs) hp
  exact h _ _ _ _ gr s' (is_mkTup upd_same (r.mono gr))
end

/-! ### arguments, tuples, lists -/
def mNil : M (List W) := fun _ _ S => .ok [] S
def mCons (m : M W) (ms : M (List W)) : M (List W) := fun bs env S => (m bs env S).bind fun w S1 => (ms bs env S1).bind fun ws S2 => .ok (w :: ws) S2
def mTup (ms : M (List W)) : M W := fun bs env S => (ms bs env S).bind fun ws S1 => if ws.length ≤ 100000 then .ok (mkTup ws) S1 else .stuck
def mLst (k : Bool) (ms : M (List W)) : M W := fun bs env S => (ms bs env S).bind fun ws S1 => if ws.length ≤ 100000 then .ok (newL k ws S1).1 (newL k ws S1).2 else .stuck
theorem line5 {n : Nat} (h : n ≤ 100000) : n ≤ sizeLine := Nat.le_trans h (by decide)
section
variable {X : Cx} {g : Gx} {B : WX} {a b c e : Expr} {es : List Expr} {ma mb mc : M W} {ms : M (List W)} {pos : Pos} {f f' : Op2}
theorem ra_nil : PA X [] (rdA g B mNil) := pa_nil.imp fun σ H Q ⟨bs, ρ, F, N, env, S, s, e, p⟩ => p ρ F H [] (Grow.refl _ _) s .nil
theorem ra_cons (ha : PE X e (rd g B ma)) (hr : PA X es (rdA g B ms)) (hs : starEach (e :: es) X.env = (false, eval e X.env) :: starEach es X.env := by rfl) : PA X (e :: es) (rdA g B (mCons ma ms)) :=
  (pa_cons ha hr hs).imp fun σ H Q ⟨bs, ρ, F, N, env, S, s, e, p⟩ => by
    refine ⟨bs, ρ, F, N, env, S, s, e, (Post.bind p).imp fun x H1 ⟨ρ1, F1, wx, S1, g1, s1, r1, p1⟩ => ?_⟩
    refine ⟨bs, ρ1, F1, N, env, S1, s1, e.mono g1, (Post.bind p1).imp fun y H2 ⟨ρ2, F2, wy, S2, g2, s2, r2, p2⟩ => ?_⟩
    exact p2 ρ2 F2 H2 _ (Grow.refl _ _) s2 (.cons (r1.mono g2) r2)
theorem re_tup {x1} (h : PA X es (rdA g B ms)) : PE X (.Tuple es x1 pos) (rd g B (mTup ms)) := (pe_tup h).imp fun σ H Q ⟨bs, ρ, F, N, env, S, s, e, p⟩ => by
  refine ⟨bs, ρ, F, N, env, S, s, e, (Post.bind p).imp fun x H1 ⟨ρ1, F1, wx, S1, g1, s1, r1, p1⟩ => ?_⟩
  split at p1
  · rename_i hl
    refine ⟨line5 (by rw [r1.len]; exact hl), fun q hq => newT_ok s1 hq r1 p1⟩
  · exact p1.elim
theorem re_lst {k : Bool} (h : PA X es (rdA g B ms)) : PE X (.List es pos) (rd g B (mLst k ms)) := (pe_lst h).imp fun σ H Q ⟨bs, ρ, F, N, env, S, s, e, p⟩ => by
  refine ⟨bs, ρ, F, N, env, S, s, e, (Post.bind p).imp fun x H1 ⟨ρ1, F1, wx, S1, g1, s1, r1, p1⟩ => ?_⟩
  split at p1
  · rename_i hl
    refine ⟨line5 (by rw [r1.len]; exact hl), fun q hq => new_ok s1 hq r1 p1⟩
  · exact p1.elim

/-! ### views -/
/-- the items of a tuple, of a list -/
def tupOf : W → Option (List W)
  | .dat (.tuple ds) => some (ds.map .dat)
  | .tw ws => some ws
  | _ => none
def lstOf (S : Store) : W → Option (List W)
  | .dat (.list ds) => some (ds.map .dat)
  | .lw ws => some ws
  | .loc n => match S[n]? with
    | some (.lst ws) => some ws
    | _ => none
  | _ => none
def seqOf (S : Store) (w : W) : Option (List W) := match tupOf w with
  | some ws => some ws
  | none => lstOf S w
section
variable {bs : List Nat} {ρ : List Addr} {F N H : Hp} {S : Store} {v : V} {w : W} {ws : List W}
theorem tup_of (r : Is g.K ρ F v w) (h : tupOf w = some ws) : ∃ a vs, v = .ref a ∧ SqT g.K F a vs ∧ IsAll g.K ρ F vs ws := by
  cases w with
  | dat d =>
    cases d <;> simp only [tupOf] at h <;> try cases h
    cases r with
    | dat r =>
      obtain ⟨a, xs, e, q, r⟩ := rp_tup r
      exact ⟨_, _, e, q, r.isAll⟩
  | loc n => simp [tupOf] at h
  | tw xs => cases h; cases r with
    | tw q r => exact ⟨_, _, rfl, q, r⟩
  | lw xs => simp [tupOf] at h
  | kt ds => simp [tupOf] at h
  | fn x => simp [tupOf] at h
  | rg x y z => simp [tupOf] at h
theorem lst_of (s : Sim g bs ρ F N S H) (r : Is g.K ρ F v w) (h : lstOf S w = some ws) : ∃ a vs, v = .ref a ∧ SqL g.K H a vs ∧ IsAll g.K ρ F vs ws := by
  cases w with
  | dat d =>
    cases d <;> simp only [lstOf] at h <;> try cases h
    cases r with
    | dat r => cases r with
      | lst q r => exact ⟨_, _, rfl, SqL.of (s.ex _ _ q), r.isAll⟩
  | loc n =>
    simp only [lstOf] at h
    split at h
    · rename_i xs hn
      cases h
      cases r with
      | loc hr =>
        obtain ⟨vs, e, q⟩ := s.cell n _ _ hn hr
        exact ⟨_, vs, rfl, SqL.of e, q⟩
    · cases h
  | tw xs => simp [lstOf] at h
  | lw xs => cases h; cases r with
    | lw q r => exact ⟨_, _, rfl, s.ex.seq q, r⟩
  | kt ds => simp [lstOf] at h
  | fn x => simp [lstOf] at h
  | rg x y z => simp [lstOf] at h
theorem seq_of (s : Sim g bs ρ F N S H) (r : Is g.K ρ F v w) (h : seqOf S w = some ws) : ∃ a vs, v = .ref a ∧ (SqL g.K H a vs ∨ SqT g.K H a vs) ∧ IsAll g.K ρ F vs ws := by
  unfold seqOf at h
  split at h
  · cases h; rename_i ht
    obtain ⟨a, vs, e, q, r⟩ := tup_of r ht
    exact ⟨a, vs, e, .inr (Same.sqT s.ex q), r⟩
  · obtain ⟨a, vs, e, q, r⟩ := lst_of s r h
    exact ⟨a, vs, e, .inl q, r⟩
end
theorem IsAll.get {K : PySem.W.Frag} {ρ : List Addr} {F : Hp} : ∀ {ws : List W} {vs : List V} {i : Nat} {w : W}, IsAll K ρ F vs ws → ws[i]? = some w → ∃ v, vs[i]? = some v ∧ Is K ρ F v w
  | _ :: _, _, 0, w, .cons a b, e => by simp at e; subst e; exact ⟨_, rfl, a⟩
  | _ :: _, _, i + 1, w, .cons a b, e => by simpa using IsAll.get (i := i) b (by simpa using e)
theorem IsAll.atI {K : PySem.W.Frag} {ρ : List Addr} {F : Hp} {ws : List W} {vs : List V} {i : Int} {w : W} (h : IsAll K ρ F vs ws) (e : L2.atI ws i = some w) : ∃ v, L2.atI vs i = some v ∧ Is K ρ F v w := by
  unfold L2.atI at e ⊢
  rw [h.len]
  cases hx : ixN ws.length i with
  | none => rw [hx] at e; cases e
  | some j => rw [hx] at e; exact h.get e
theorem IsAll.append {K : PySem.W.Frag} {ρ : List Addr} {F : Hp} : ∀ {ws xs : List W} {vs us : List V}, IsAll K ρ F vs ws → IsAll K ρ F us xs → IsAll K ρ F (vs ++ us) (ws ++ xs)
  | [], _, _, _, .nil, h => h
  | _ :: _, _, _, _, .cons a b, h => .cons a (IsAll.append b h)
theorem IsAll.drop {K : PySem.W.Frag} {ρ : List Addr} {F : Hp} : ∀ {ws : List W} {vs : List V} (n : Nat), IsAll K ρ F vs ws → IsAll K ρ F (vs.drop n) (ws.drop n)
  | _, _, 0, h => h
  | [], _, n + 1, .nil => .nil
  | _ :: _, _, n + 1, .cons a b => IsAll.drop n b
theorem IsAll.take {K : PySem.W.Frag} {ρ : List Addr} {F : Hp} : ∀ {ws : List W} {vs : List V} (n : Nat), IsAll K ρ F vs ws → IsAll K ρ F (vs.take n) (ws.take n)
  | _, _, 0, h => .nil
  | [], _, n + 1, .nil => .nil
  | _ :: _, _, n + 1, .cons a b => .cons a (IsAll.take n b)
theorem IsAll.set {K : PySem.W.Frag} {ρ : List Addr} {F : Hp} {v : V} {w : W} (r : Is K ρ F v w) : ∀ {ws : List W} {vs : List V} (n : Nat), IsAll K ρ F vs ws → IsAll K ρ F (vs.set n v) (ws.set n w)
  | [], _, n, .nil => .nil
  | _ :: _, _, 0, .cons a b => .cons r b
  | _ :: _, _, n + 1, .cons a b => .cons a (IsAll.set r n b)
theorem IsAll.rev {K : PySem.W.Frag} {ρ : List Addr} {F : Hp} : ∀ {ws : List W} {vs : List V}, IsAll K ρ F vs ws → IsAll K ρ F vs.reverse ws.reverse
  | [], _, .nil => .nil
  | _ :: _, _, .cons a b => by rw [List.reverse_cons, List.reverse_cons]; exact IsAll.append (IsAll.rev b) (.cons a .nil)
/-- a pure operation -/
def pure2 (f : Store → W → W → Option W) : Op2 := fun _ x y S => (f S x y).map (·, S)

/-! ### arithmetic -/
/-- a list that may be added to another one -/
def lstM (S : Store) : W → Option (List W)
  | .dat (.list ds) => some (ds.map .dat)
  | .loc n => match S[n]? with
    | some (.lst ws) => some ws
    | _ => none
  | _ => none
theorem lstM_of {bs : List Nat} {ρ : List Addr} {F N H : Hp} {S : Store} {v : V} {w : W} {ws : List W} (s : Sim g bs ρ F N S H) (r : Is g.K ρ F v w) (h : lstM S w = some ws) : ∃ a vs, v = .ref a ∧ H a = some (.lst vs) ∧ IsAll g.K ρ F vs ws := by
  cases w with
  | dat d =>
    cases d <;> simp only [lstM] at h <;> try cases h
    cases r with
    | dat r => cases r with
      | lst q r => exact ⟨_, _, rfl, s.ex _ _ q, r.isAll⟩
  | loc n =>
    simp only [lstM] at h
    split at h
    · rename_i xs hn
      cases h
      cases r with
      | loc hr =>
        obtain ⟨vs, e, q⟩ := s.cell n _ _ hn hr
        exact ⟨_, vs, rfl, e, q⟩
    · cases h
  | tw xs => simp [lstM] at h
  | lw xs => simp [lstM] at h
  | kt ds => simp [lstM] at h
  | fn x => simp [lstM] at h
  | rg x y z => simp [lstM] at h
def addF (k : Bool) : Op2 := fun _ x y S => match x, y with
  | .dat (.int i), .dat (.int j) => some (.int (i + j), S)
  | .dat (.str i), .dat (.str j) => if i.length + j.length ≤ 100000 then some (.str (i ++ j), S) else none
  | .dat (.tuple a), .dat (.tuple b) => if a.length + b.length ≤ 100000 then some (.dat (.tuple (a ++ b)), S) else none
  | x, y => match tupOf x, tupOf y with
    | some xs, some ys => if xs.length + ys.length ≤ 100000 then some (if xs.isEmpty then y else if ys.isEmpty then x else mkTup (xs ++ ys), S) else none
    | _, _ => match lstM S x, lstM S y with
      | some xs, some ys => if xs.length + ys.length ≤ 100000 then some (newL k (xs ++ ys) S) else none
      | _, _ => none
theorem ro_add (hK : g.K = X.K) {k : Bool} : OpR X (binaryOp .Add) (rd2 g (addF k)) := by
  intro pins s σ H x y v u Q I rx ry ⟨bs, ρ, F, N, S, wx, wy, s1, r1, r2, p⟩
  unfold addF at p
  split at p
  · rw [is_int r1] at rx; rw [is_int r2] at ry
    exact op_add pins s σ H _ _ v u Q I rx ry ⟨_, _, rfl, rfl, p ρ F H _ (Grow.refl _ _) s1 (.dat (.int _))⟩
  · split at p
    · rename_i hl
      rw [is_str r1] at rx; rw [is_str r2] at ry
      exact op_add_str pins s σ H _ _ v u Q I rx ry ⟨_, _, rfl, rfl, line5 hl, p ρ F H _ (Grow.refl _ _) s1 (.dat (.str _))⟩
    · exact p.elim
  · split at p
    · rename_i a b hl
      have r1' := r1
      have r2' := r2
      cases r1 with
      | dat r1 =>
        obtain ⟨_, _, rfl, q1, l1⟩ := rp_tup r1
        cases r2 with
          | dat r2 =>
              obtain ⟨_, _, rfl, q2, l2⟩ := rp_tup r2
              refine op_catA pins s σ H _ _ v u Q I rx ry ⟨_, _, _, _, rfl, rfl, by rw [← hK]; exact Same.sqT s1.ex q1, by rw [← hK]; exact Same.sqT s1.ex q2, line5 (by rw [l1.len, l2.len]; exact hl), fun e => ?_, fun _ e => ?_, fun _ _ q hq => newT_ok s1 hq (l1.isAll.append l2.isAll) (by rw [← List.map_append, mkTup_dat]; exact p)⟩
              · subst e; cases l1; exact p ρ F H _ (Grow.refl _ _) s1 r2'
              · subst e; cases l2; rw [List.append_nil] at p; exact p ρ F H _ (Grow.refl _ _) s1 r1'
    · exact p.elim
  · split at p
    · rename_i xs ys h1 h2
      split at p
      · rename_i hl
        obtain ⟨a, vs, e1, q1, l1⟩ := tup_of r1 h1
        obtain ⟨b, us, e2, q2, l2⟩ := tup_of r2 h2
        subst e1 e2
        have n1 : xs.isEmpty = vs.isEmpty := by have := l1.len; cases xs <;> cases vs <;> simp_all
        have n2 : ys.isEmpty = us.isEmpty := by have := l2.len; cases ys <;> cases us <;> simp_all
        refine op_catA pins s σ H _ _ v u Q I rx ry ⟨a, b, vs, us, rfl, rfl, ?_, ?_, line5 (by rw [l1.len, l2.len]; exact hl), fun e => ?_, fun n e => ?_, fun n n' q hq => newT_ok s1 hq (l1.append l2) ?_⟩
        · rw [← hK]; exact Same.sqT s1.ex q1
        · rw [← hK]; exact Same.sqT s1.ex q2
        · subst e; rw [n1] at p; exact p ρ F H _ (Grow.refl _ _) s1 r2
        · subst e; rw [n1, n2] at p
          have z : vs.isEmpty = false := by cases vs <;> simp_all
          rw [z] at p; exact p ρ F H _ (Grow.refl _ _) s1 r1
        · rw [n1, n2] at p
          have z : vs.isEmpty = false := by cases vs <;> simp_all
          have z' : us.isEmpty = false := by cases us <;> simp_all
          rw [z, z'] at p; exact p
      · exact p.elim
    · split at p
      · rename_i xs ys h1 h2
        split at p
        · rename_i hl
          obtain ⟨a, vs, e1, q1, l1⟩ := lstM_of s1 r1 h1
          obtain ⟨b, us, e2, q2, l2⟩ := lstM_of s1 r2 h2
          subst e1 e2
          exact op_cat pins s σ H _ _ v u Q I rx ry ⟨a, b, vs, us, rfl, rfl, q1, q2, line5 (by rw [l1.len, l2.len]; exact hl), fun q hq => new_ok s1 hq (l1.append l2) p⟩
        · exact p.elim
      · exact p.elim
def intF (f : Int → Int → Option Int) : Op2 := fun _ x y S => match x, y with
  | .dat (.int i), .dat (.int j) => (f i j).map fun z => (.int z, S)
  | _, _ => none
theorem ro_int {op : Operator} {f : Int → Int → Option Int} {C : Int → Int → Prop} {h : Int → Int → Int} (ho : OpR X (binaryOp op) (rI C fun i j => .int (h i j))) (hf : ∀ i j z, f i j = some z → C i j ∧ z = h i j) : OpR X (binaryOp op) (rd2 g (intF f)) := by
  intro pins s σ H x y v u Q I rx ry ⟨bs, ρ, F, N, S, wx, wy, s1, r1, r2, p⟩
  unfold intF at p
  split at p
  · rename_i i j
    rw [is_int r1] at rx; rw [is_int r2] at ry
    cases hz : f i j with
    | none => rw [hz] at p; exact p.elim
    | some z =>
      rw [hz] at p
      obtain ⟨c, e⟩ := hf i j z hz
      subst e
      exact ho pins s σ H _ _ v u Q I rx ry ⟨_, _, rfl, rfl, c, p ρ F H _ (Grow.refl _ _) s1 (.dat (.int _))⟩
  · exact p.elim
def subF : Op2 := intF fun i j => some (i - j)
def modF : Op2 := intF fun i j => if 0 < j then some (i % j) else none
def fdivF : Op2 := intF fun i j => if 0 < j ∧ j.natAbs.log2 < 9000 then some (i / j) else none
def powF : Op2 := intF fun i j => if 0 ≤ j ∧ (i.natAbs.log2 + 1) * j.toNat ≤ 100000000 then some (i ^ j.toNat) else none
theorem ro_sub : OpR X (binaryOp .Sub) (rd2 g subF) := ro_int (C := fun _ _ => True) (h := fun i j => i - j) (fun pins s σ H x y v u Q I rx ry ⟨i, j, e1, e2, _, q⟩ => op_sub pins s σ H x y v u Q I rx ry ⟨i, j, e1, e2, q⟩) fun i j z e => ⟨trivial, by cases e; rfl⟩
theorem ro_mod : OpR X (binaryOp .Mod) (rd2 g modF) := ro_int (C := fun _ j => 0 < j) (h := fun i j => i % j) op_mod fun i j z e => by
  split at e
  · rename_i h; cases e; exact ⟨h, rfl⟩
  · cases e
theorem ro_fdiv : OpR X (binaryOp .FloorDiv) (rd2 g fdivF) := ro_int (C := CDivW) (h := fun i j => i / j) op_fdivW fun i j z e => by
  split at e
  · rename_i h; cases e; exact ⟨h, rfl⟩
  · cases e
theorem ro_pow : OpR X (binaryOp .Pow) (rd2 g powF) := ro_int (C := fun i j => 0 ≤ j ∧ (i.natAbs.log2 + 1) * j.toNat ≤ 100000000) (h := fun i j => i ^ j.toNat)
    (opI fun i j _ _ _ _ _ hc q => PyProof.Rows.pow_int hc.1 (by
      have b : Builtin.Int.intBits i ≤ i.natAbs.log2 + 1 := by
        unfold Builtin.Int.intBits
        split <;> omega
      have h2 := hc.2
      have h3 : Builtin.Int.intBits i * j.toNat ≤ (i.natAbs.log2 + 1) * j.toNat := Nat.mul_le_mul_right _ b
      have h4 : (Builtin.Int.intBits i : Int) * j = ((Builtin.Int.intBits i * j.toNat : Nat) : Int) := by
        rw [Int.natCast_mul, Int.toNat_of_nonneg hc.1]
      rw [h4]
      omega) q) fun i j z e => by
  split at e
  · rename_i h; cases e; exact ⟨h, rfl⟩
  · cases e
def mulOk (i j : Int) : Bool := decide (i.natAbs < 18446744073709551616) || decide (j.natAbs < 18446744073709551616) || decide (i.natAbs.log2 + j.natAbs.log2 < 900000)
def mulF (k : Bool) : Op2 := fun _ x y S => match x, y with
  | .dat (.int i), .dat (.int j) => if mulOk i j then some (.int (i * j), S) else none
  | x, .dat (.int j) => match tupOf x with
    | some xs => if xs.length ≤ 1000 ∧ 0 < xs.length ∧ 2 ≤ j ∧ j ≤ 1000 then some (mkTup (List.replicate j.toNat xs).flatten, S) else none
    | none => match lstM S x with
      | some xs => if xs.length ≤ 1000 ∧ 0 ≤ j ∧ j ≤ 1000 then some (newL k (List.replicate j.toNat xs).flatten S) else none
      | none => none
  | _, _ => none
theorem IsAll.rep {K : PySem.W.Frag} {ρ : List Addr} {F : Hp} {ws : List W} {vs : List V} (h : IsAll K ρ F vs ws) : ∀ n, IsAll K ρ F (List.replicate n vs).flatten (List.replicate n ws).flatten
  | 0 => .nil
  | n + 1 => by rw [List.replicate_succ, List.replicate_succ, List.flatten_cons, List.flatten_cons]; exact h.append (IsAll.rep h n)
theorem ro_mul (hK : g.K = X.K) {k : Bool} : OpR X (binaryOp .Mult) (rd2 g (mulF k)) := by
  intro pins s σ H x y v u Q I rx ry ⟨bs, ρ, F, N, S, wx, wy, s1, r1, r2, p⟩
  unfold mulF at p
  split at p
  · rename_i i j
    split at p
    · rename_i hm
      rw [is_int r1] at rx; rw [is_int r2] at ry
      have q : Q (.int (i * j)) H := p ρ F H _ (Grow.refl _ _) s1 (.dat (.int _))
      unfold mulOk at hm
      simp only [Bool.or_eq_true, decide_eq_true_eq] at hm
      rcases hm with (hm | hm) | hm
      · exact op_mul pins s σ H _ _ v u Q I rx ry ⟨_, _, rfl, rfl, .inl (by omega), q⟩
      · exact op_mul pins s σ H _ _ v u Q I rx ry ⟨_, _, rfl, rfl, .inr (by omega), q⟩
      · exact op_mulW pins s σ H _ _ v u Q I rx ry ⟨_, _, rfl, rfl, (by unfold CMulW; omega), q⟩
    · exact p.elim
  · rename_i j _
    rw [is_int r2] at ry
    split at p
    · rename_i xs h1
      split at p
      · rename_i hl
        obtain ⟨a, vs, e1, q1, l1⟩ := tup_of r1 h1
        subst e1
        refine op_repT pins s σ H _ _ v u Q I rx ry ⟨a, j, vs, rfl, rfl, ?_, ?_, hl.2.2.1, hl.2.2.2, (by rw [l1.len]; exact hl.1), fun q hq => newT_ok s1 hq (l1.rep _) p⟩
        · rw [← hK]; exact Same.sqT s1.ex q1
        · intro z; subst z; have := l1.len; simp at this; omega
      · exact p.elim
    · split at p
      · rename_i xs h1
        split at p
        · rename_i hl
          obtain ⟨a, vs, e1, q1, l1⟩ := lstM_of s1 r1 h1
          subst e1
          refine op_rep pins s σ H _ _ v u Q I rx ry ⟨a, j, vs, rfl, rfl, q1, by omega, by omega, ?_, fun q hq => new_ok s1 hq (l1.rep _) p⟩
          refine Nat.le_trans ?_ (show 1000 * 1000 ≤ sizeLine by decide)
          rw [l1.len]
          exact Nat.mul_le_mul hl.1 (by omega : j.toNat ≤ 1000)
        · exact p.elim
      · exact p.elim
  · exact p.elim
end
end Rf

namespace Rf
open PySem L2

/-! ### data in the heap, without dicts -/
section
variable {K : PySem.W.Frag} {F N H : Hp}
mutual
theorem Rp.dp (e : Same F H) : ∀ {d : PyData} {v : V}, d.plain = true → Rp K F v d → Dp K H v d
  | .none, _, _, h => by cases h; exact .non
  | .bool b, _, _, h => by cases h; exact .bl b
  | .int i, _, _, h => by cases h; exact .int i
  | .str x, _, _, h => by cases h; exact .str x
  | .list ds, _, p, h => by
    cases h with
    | lst s r => exact .lst (SqL.of (e _ _ s)) (RpAll.dp e (by simpa [PyData.plain] using p) r)
  | .tuple ds, _, p, h => by
    cases h with
    | tup s r => exact .tup (SqT.of (e _ _ s)) (RpAll.dp e (by simpa [PyData.plain] using p) r)
    | own s n r => exact .tup (.inr s) (RpAll.dp e (by simpa [PyData.plain] using p) r)
  | .dict ds, _, p, h => by simp [PyData.plain] at p
theorem RpAll.dp (e : Same F H) : ∀ {ds : List PyData} {vs : List V}, PyData.plainAll ds = true → RpAll K F vs ds → DpAll K H vs ds
  | [], _, _, h => by cases h; exact .nil
  | d :: ds, _, p, h => by
    have p' : d.plain = true ∧ PyData.plainAll ds = true := by simpa [PyData.plainAll] using p
    cases h with
    | cons a b => exact .cons (Rp.dp e p'.1 a) (RpAll.dp e p'.2 b)
end
end
mutual
/-- the data that a value tells by itself -/
def viewW : W → Option PyData
  | .dat d => some d
  | .loc _ => none
  | .tw ws => (viewAll ws).map .tuple
  | .lw ws => (viewAll ws).map .list
  | .kt _ => none
  | .fn _ => none
  | .rg _ _ _ => none
def viewAll : List W → Option (List PyData)
  | [] => some []
  | w :: ws => match viewW w, viewAll ws with
    | some d, some ds => some (d :: ds)
    | _, _ => none
end
/-- the data that a value tells now -/
def viewD (S : Store) : W → Option PyData
  | .loc n => match S[n]? with
    | some (.lst ws) => (viewAll ws).map .list
    | _ => none
  | w => viewW w
section
variable {X : Cx} {g : Gx} {bs : List Nat} {ρ : List Addr} {F N H : Hp} {S : Store} {v : V} {w : W} {d : PyData}
mutual
theorem viewW_dp {K : PySem.W.Frag} (e : Same F H) : ∀ {w : W} {v : V} {d : PyData}, Is K ρ F v w → viewW w = some d → d.plain = true → Dp K H v d
  | .dat _, _, _, r, h, p => by
    cases h
    cases r with
    | dat r => exact r.dp e p
  | .loc _, _, _, _, h, _ => by simp [viewW] at h
  | .tw ws, _, _, r, h, p => by
    simp only [viewW, Option.map_eq_some_iff] at h
    obtain ⟨ds, h, rfl⟩ := h
    cases r with
    | tw q r => exact .tup (Same.sqT e q) (viewAll_dp e r h (by simpa [PyData.plain] using p))
  | .lw ws, _, _, r, h, p => by
    simp only [viewW, Option.map_eq_some_iff] at h
    obtain ⟨ds, h, rfl⟩ := h
    cases r with
    | lw q r => exact .lst (e.seq q) (viewAll_dp e r h (by simpa [PyData.plain] using p))
  | .kt _, _, _, _, h, _ => by simp [viewW] at h
  | .fn _, _, _, _, h, _ => by simp [viewW] at h
  | .rg _ _ _, _, _, _, h, _ => by simp [viewW] at h
theorem viewAll_dp {K : PySem.W.Frag} (e : Same F H) : ∀ {ws : List W} {vs : List V} {ds : List PyData}, IsAll K ρ F vs ws → viewAll ws = some ds → PyData.plainAll ds = true → DpAll K H vs ds
  | [], _, _, r, h, p => by cases r; simp [viewAll] at h; subst h; exact .nil
  | w :: ws, _, _, r, h, p => by
    cases r with
    | cons a b =>
      simp only [viewAll] at h
      split at h
      · rename_i d ds h1 h2
        cases h
        have p' : d.plain = true ∧ PyData.plainAll ds = true := by simpa [PyData.plainAll] using p
        exact .cons (viewW_dp e a h1 p'.1) (viewAll_dp e b h2 p'.2)
      · cases h
end
theorem view_dp (s : Sim g bs ρ F N S H) (r : Is g.K ρ F v w) (h : viewD S w = some d) (p : d.plain = true) : Dp g.K H v d := by
  cases w with
  | dat d' => exact viewW_dp s.ex r h p
  | loc n =>
    simp only [viewD] at h
    split at h
    · rename_i ws hn
      simp only [Option.map_eq_some_iff] at h
      obtain ⟨ds, h, rfl⟩ := h
      cases r with
      | loc hr =>
        obtain ⟨vs, e, q⟩ := s.cell n _ _ hn hr
        exact .lst (SqL.of e) (viewAll_dp s.ex q h (by simpa [PyData.plain] using p))
    · cases h
  | tw ws => exact viewW_dp s.ex r h p
  | lw ws => exact viewW_dp s.ex r h p
  | kt ws => exact viewW_dp s.ex r h p
  | fn ws => exact viewW_dp s.ex r h p
  | rg x y z => exact viewW_dp s.ex r h p
def eqF (neg : Bool) : Op2 := fun _ x y S => match viewD S x, viewD S y with
  | some d, some e => if d.plain = true ∧ e.plain = true ∧ d.depth ≤ 64 then some (.bl (PyData.eqv d e != neg), S) else none
  | _, _ => none
theorem ro_eq (hK : g.K = X.K) (hu : X.A.units + 100 < cLine) : OpR X (compareOp .Eq) (rd2 g (eqF false)) := by
  intro pins s σ H x y v u Q I rx ry ⟨bs, ρ, F, N, S, wx, wy, s1, r1, r2, p⟩
  unfold eqF at p
  split at p
  · rename_i d e h1 h2
    split at p
    · rename_i hp
      have d1 := view_dp s1 r1 h1 hp.1
      have d2 := view_dp s1 r2 h2 hp.2.1
      rw [hK] at d1 d2
      obtain ⟨as, q1⟩ := Dp.reads I d x v d1 rx
      obtain ⟨bs', q2⟩ := Dp.reads I e y u d2 ry
      refine SeqAt.eq_plain q1 q2 hp.1 hp.2.1 (Nat.lt_of_le_of_lt (Nat.add_le_add_left (Nat.le_trans (Nat.min_le_left _ _) hp.2.2) _) (by omega)) ⟨.bl _, H, I, rfl, ?_⟩
      simpa using p ρ F H (.bl _) (Grow.refl _ _) s1 (.dat (.bl _))
    · exact p.elim
  · exact p.elim
theorem ro_ne (hK : g.K = X.K) (hu : X.A.units + 100 < cLine) : OpR X (compareOp .NotEq) (rd2 g (eqF true)) := by
  intro pins s σ H x y v u Q I rx ry ⟨bs, ρ, F, N, S, wx, wy, s1, r1, r2, p⟩
  unfold eqF at p
  split at p
  · rename_i d e h1 h2
    split at p
    · rename_i hp
      have d1 := view_dp s1 r1 h1 hp.1
      have d2 := view_dp s1 r2 h2 hp.2.1
      rw [hK] at d1 d2
      obtain ⟨as, q1⟩ := Dp.reads I d x v d1 rx
      obtain ⟨bs', q2⟩ := Dp.reads I e y u d2 ry
      refine SeqAt.ne_plain q1 q2 hp.1 hp.2.1 (Nat.lt_of_le_of_lt (Nat.add_le_add_left (Nat.le_trans (Nat.min_le_left _ _) hp.2.2) _) (by omega)) ⟨.bl _, H, I, rfl, ?_⟩
      simpa using p ρ F H (.bl _) (Grow.refl _ _) s1 (.dat (.bl _))
    · exact p.elim
  · exact p.elim
/-- x in a list or tuple -/
def inF (neg : Bool) : Op2 := fun _ x y S => match viewD S x, viewD S y with
  | some d, some (.list es) => if d.plain = true ∧ PyData.plainAll es = true ∧ d.depth ≤ 64 then some (.bl ((es.any fun z => PyData.eqv z d) != neg), S) else none
  | some d, some (.tuple es) => if d.plain = true ∧ PyData.plainAll es = true ∧ d.depth ≤ 64 then some (.bl ((es.any fun z => PyData.eqv z d) != neg), S) else none
  | _, _ => none
theorem unit_of {A : Around} {m n : Nat} (hu : A.units + 100 < cLine) (h : n ≤ 64) : A.units + 1 + min m n < cLine := Nat.lt_of_le_of_lt (Nat.add_le_add_left (Nat.le_trans (Nat.min_le_right _ _) h) _) (by omega)
theorem ro_in (hK : g.K = X.K) (hu : X.A.units + 100 < cLine) : OpR X (compareOp .In) (rd2 g (inF false)) := by
  intro pins s σ H x y v u Q I rx ry ⟨bs, ρ, F, N, S, wx, wy, s1, r1, r2, p⟩
  unfold inF at p
  split at p
  · rename_i d es h1 h2
    split at p
    · rename_i hp
      have d1 := view_dp s1 r1 h1 hp.1
      have d2 := view_dp s1 r2 h2 (by simpa [PyData.plain] using hp.2.1)
      rw [hK] at d1 d2
      obtain ⟨as, q1⟩ := Dp.reads I d x v d1 rx
      obtain ⟨bs', q2⟩ := Dp.reads I _ y u d2 ry
      refine SeqAt.in_list_data q2 q1 hp.2.1 hp.1 (unit_of hu hp.2.2) ⟨.bl _, H, I, rfl, ?_⟩
      simpa using p ρ F H (.bl _) (Grow.refl _ _) s1 (.dat (.bl _))
    · exact p.elim
  · rename_i d es h1 h2
    split at p
    · rename_i hp
      have d1 := view_dp s1 r1 h1 hp.1
      have d2 := view_dp s1 r2 h2 (by simpa [PyData.plain] using hp.2.1)
      rw [hK] at d1 d2
      obtain ⟨as, q1⟩ := Dp.reads I d x v d1 rx
      obtain ⟨bs', q2⟩ := Dp.reads I _ y u d2 ry
      refine SeqAt.in_tuple_data q2 q1 hp.2.1 hp.1 (unit_of hu hp.2.2) ⟨.bl _, H, I, rfl, ?_⟩
      simpa using p ρ F H (.bl _) (Grow.refl _ _) s1 (.dat (.bl _))
    · exact p.elim
  · exact p.elim
theorem ro_notIn (hK : g.K = X.K) (hu : X.A.units + 100 < cLine) : OpR X (compareOp .NotIn) (rd2 g (inF true)) := by
  intro pins s σ H x y v u Q I rx ry ⟨bs, ρ, F, N, S, wx, wy, s1, r1, r2, p⟩
  unfold inF at p
  split at p
  · rename_i d es h1 h2
    split at p
    · rename_i hp
      have d1 := view_dp s1 r1 h1 hp.1
      have d2 := view_dp s1 r2 h2 (by simpa [PyData.plain] using hp.2.1)
      rw [hK] at d1 d2
      obtain ⟨as, q1⟩ := Dp.reads I d x v d1 rx
      obtain ⟨bs', q2⟩ := Dp.reads I _ y u d2 ry
      refine SeqAt.notIn_list_data q2 q1 hp.2.1 hp.1 (unit_of hu hp.2.2) ⟨.bl _, H, I, rfl, ?_⟩
      simpa using p ρ F H (.bl _) (Grow.refl _ _) s1 (.dat (.bl _))
    · exact p.elim
  · rename_i d es h1 h2
    split at p
    · rename_i hp
      have d1 := view_dp s1 r1 h1 hp.1
      have d2 := view_dp s1 r2 h2 (by simpa [PyData.plain] using hp.2.1)
      rw [hK] at d1 d2
      obtain ⟨as, q1⟩ := Dp.reads I d x v d1 rx
      obtain ⟨bs', q2⟩ := Dp.reads I _ y u d2 ry
      refine SeqAt.notIn_tuple_data q2 q1 hp.2.1 hp.1 (unit_of hu hp.2.2) ⟨.bl _, H, I, rfl, ?_⟩
      simpa using p ρ F H (.bl _) (Grow.refl _ _) s1 (.dat (.bl _))
    · exact p.elim
  · exact p.elim
/-- is None, is not None -/
def isNF (neg : Bool) : Op2 := fun _ x y S => match y with
  | .dat .none => match x with
    | .dat .none => some (.bl (true != neg), S)
    | _ => some (.bl (false != neg), S)
  | _ => none
theorem is_notnon {K : PySem.W.Frag} (h : ∀ d, w = .dat d → d = .none → False) (r : Is K ρ F v w) : v ≠ .non := by
  intro z; subst z
  cases w with
  | dat d => cases r with
    | dat r => cases r; exact h _ rfl rfl
  | loc n => cases r
  | tw ws => cases r
  | lw ws => cases r
  | kt ws => cases r
  | fn ws => cases r
  | rg x y z => cases r
theorem ro_notN : OpR X (compareOp .IsNot) (rd2 g (isNF true)) := by
  intro pins s σ H x y v u Q I rx ry ⟨bs, ρ, F, N, S, wx, wy, s1, r1, r2, p⟩
  unfold isNF at p
  split at p
  · rw [is_non r2] at ry
    split at p
    · rw [is_non r1] at rx
      exact op_notN pins s σ H _ _ v u Q I rx ry ⟨rfl, p ρ F H _ (Grow.refl _ _) s1 (.dat (.bl _))⟩
    · rename_i hx
      have hn := is_notnon (fun d e z => hx (by rw [e, z])) r1
      exact op_notN pins s σ H _ _ v u Q I rx ry ⟨rfl, by rw [decide_eq_false hn]; exact p ρ F H _ (Grow.refl _ _) s1 (.dat (.bl _))⟩
  · exact p.elim
end
end Rf

namespace Rf
open PySem L2 PySem.Spec PyProof.Rows

/-! ### order -/
def lexB (r : Int → Int → Bool) (z : Nat → Nat → Bool) : List Int → List Int → Bool
  | x :: xs, y :: ys => if x = y then lexB r z xs ys else r x y
  | [], ys => z 0 ys.length
  | xs, [] => z xs.length 0
theorem lexAt_shift {e r e' r' : Nat → Bool} {z : Bool} (he : ∀ i, e (i + 1) = e' i) (hr : ∀ i, r (i + 1) = r' i) : ∀ k i, Ob.lexAt e r z (i + 1) k = Ob.lexAt e' r' z i k
  | 0, _ => rfl
  | k + 1, i => by rw [Ob.lexAt_succ, Ob.lexAt_succ, he, hr, lexAt_shift he hr k (i + 1)]
theorem lexAt_lexB {r : Int → Int → Bool} {z : Nat → Nat → Bool} (hz : ∀ a b, z (a + 1) (b + 1) = z a b) : ∀ ns ms : List Int,
    Ob.lexAt (fun j => decide (ns.getD j 0 = ms.getD j 0)) (fun j => r (ns.getD j 0) (ms.getD j 0)) (z ns.length ms.length) 0 (min ns.length ms.length) = lexB r z ns ms
  | [], ys => by simp [Ob.lexAt_zero, lexB]
  | x :: xs, [] => by simp [Ob.lexAt_zero, lexB]
  | x :: xs, y :: ys => by
    have hm : min (x :: xs).length (y :: ys).length = min xs.length ys.length + 1 := by simp
    rw [hm, Ob.lexAt_succ]
    by_cases e : x = y
    · subst e
      rw [if_pos (by simp)]
      rw [lexAt_shift (e' := fun j => decide (xs.getD j 0 = ys.getD j 0)) (r' := fun j => r (xs.getD j 0) (ys.getD j 0)) (fun i => rfl) (fun i => rfl)]
      have hl : z (x :: xs).length (x :: ys).length = z xs.length ys.length := hz _ _
      rw [hl, lexAt_lexB hz xs ys]
      simp [lexB]
    · rw [if_neg (by simpa using e)]
      simp [lexB, e]
def intsD : List PyData → Option (List Int)
  | [] => some []
  | .int i :: ds => (intsD ds).map (i :: ·)
  | _ :: _ => none
theorem intsD_eq : ∀ {ds : List PyData} {ns : List Int}, intsD ds = some ns → ds = ns.map .int
  | [], _, e => by simp [intsD] at e; subst e; rfl
  | .int i :: ds, _, e => by
    simp only [intsD, Option.map_eq_some_iff] at e
    obtain ⟨ns, e, rfl⟩ := e
    rw [intsD_eq e]; rfl
  | .none :: _, _, e => by simp [intsD] at e
  | .bool _ :: _, _, e => by simp [intsD] at e
  | .str _ :: _, _, e => by simp [intsD] at e
  | .list _ :: _, _, e => by simp [intsD] at e
  | .tuple _ :: _, _, e => by simp [intsD] at e
  | .dict _ :: _, _, e => by simp [intsD] at e
theorem rp_ints {K : PySem.W.Frag} {F : Hp} : ∀ {ns : List Int} {vs : List V}, RpAll K F vs (ns.map .int) → vs = ns.map V.int
  | [], _, h => by cases h; rfl
  | n :: ns, _, h => by
    cases h with
    | cons a b => cases a; rw [rp_ints b]; rfl
inductive Ord where
  | lt | le | gt | ge
def Ord.op : Ord → CmpOp
  | .lt => .Lt | .le => .LtE | .gt => .Gt | .ge => .GtE
def Ord.int : Ord → Int → Int → Bool
  | .lt, a, b => decide (a < b) | .le, a, b => decide (a ≤ b) | .gt, a, b => decide (b < a) | .ge, a, b => decide (b ≤ a)
def Ord.nat : Ord → Nat → Nat → Bool
  | .lt, a, b => decide (a < b) | .le, a, b => decide (a ≤ b) | .gt, a, b => decide (a > b) | .ge, a, b => decide (a ≥ b)
def Ord.str : Ord → Str → Str → Bool
  | .lt, a, b => decide (a.cps.toList < b.cps.toList) | .le, a, b => !decide (b.cps.toList < a.cps.toList) | .gt, a, b => decide (b.cps.toList < a.cps.toList) | .ge, a, b => !decide (a.cps.toList < b.cps.toList)
def ordF (o : Ord) : Op2 := fun _ x y S => match x, y with
  | .dat (.int i), .dat (.int j) => some (.bl (o.int i j), S)
  | .dat (.str i), .dat (.str j) => some (.bl (o.str i j), S)
  | .dat (.tuple a), .dat (.tuple b) => match intsD a, intsD b with
    | some ns, some ms => some (.bl (lexB o.int o.nat ns ms), S)
    | _, _ => none
  | _, _ => none
section
variable {X : Cx} {g : Gx}
theorem tup_ints {K : PySem.W.Frag} {ρ : List Addr} {F H : Hp} {v : V} {ds : List PyData} {ns : List Int} (e : Same F H) (r : Is K ρ F v (.dat (.tuple ds))) (h : intsD ds = some ns) : ∃ a, v = .ref a ∧ SqT K H a (ns.map V.int) := by
  cases r with
  | dat r =>
      obtain ⟨_, _, rfl, q, r⟩ := rp_tup r
      rw [intsD_eq h] at r
      rw [rp_ints r] at q
      exact ⟨_, rfl, Same.sqT e q⟩
theorem ints_at {us : List Value} {ns : List Int} (i1 : IntsAre us ns) : ∀ j (h1 : j < us.toArray.size), ∃ t, us.toArray[j] = .int (ns.getD j 0) t := fun j h1 => by
  have e1 : us.toArray.size = ns.length := by rw [List.size_toArray]; exact i1.length
  exact PyProof.Rows.IntsAre.int_at i1 _ _ (by simp at h1; simp [h1])
theorem int_bd (a b : Int) : (a == b) = decide (a = b) := by
  by_cases q : a = b
  · rw [decide_eq_true q]; exact beq_iff_eq.mpr q
  · rw [decide_eq_false q]; exact beq_eq_false_iff_ne.mpr q
theorem ro_ordT (o : Ord) (hu : X.A.units + 100 < cLine) {pins : List (Addr × Obj)} {s : Shared} {σ : L2.St} {H : Hp} {a b : Addr} {ns ms : List Int} {Q : VK} (I : Inv X pins σ H s) (ha : SqT X.K H a (ns.map V.int)) (hb : SqT X.K H b (ms.map V.int))
    (q : Q (.bl (lexB o.int o.nat ns ms)) H) : wpAny (model X.prog X.w) X.A (compareOp o.op (.ref a) (.ref b)) (EP X pins σ Q) X.xe s := by
  obtain ⟨its, r1, p1, _⟩ := I.tuple ha
  obtain ⟨its2, r2, p2, _⟩ := I.tuple hb
  have i1 : IntsAre its ns := Vals.ints r1
  have i2 : IntsAre its2 ms := Vals.ints r2
  have e1 : its.toArray.size = ns.length := by rw [List.size_toArray]; exact i1.length
  have e2 : its2.toArray.size = ms.length := by rw [List.size_toArray]; exact i2.length
  have he : ∀ j (h1 : j < its.toArray.size) (h2 : j < its2.toArray.size), SeqAt.EqAt X.A.in1 s its.toArray[j] its2.toArray[j] (decide (ns.getD j 0 = ms.getD j 0)) := fun j h1 h2 => by
    obtain ⟨t, et⟩ := ints_at i1 j h1
    obtain ⟨t', et'⟩ := ints_at i2 j h2
    rw [et, et', ← int_bd]
    exact SeqAt.EqAt.int_int _ _ _ _
  have fin : wpAny (model X.prog X.w) X.A (compareOp o.op (.ref a) (.ref b)) (EP X pins σ Q) X.xe s := by
    have q' : EP X pins σ Q (.bool (lexB o.int o.nat ns ms)) s := ⟨.bl _, H, I, rfl, q⟩
    cases o with
    | lt =>
      have R := Ob.RcOp.tuples_lt (A := X.A) (s := s) (r := fun j => decide (ns.getD j 0 < ms.getD j 0)) p1 p2 (by omega) he (fun j h1 h2 _ => by
        obtain ⟨t, et⟩ := ints_at i1 j h1
        obtain ⟨t', et'⟩ := ints_at i2 j h2
        rw [et, et']
        exact Ob.RcOp.lt_int _ _ _ _)
      rw [e1, e2] at R
      exact R X.prog X.w X.xe _ (by rw [← lexAt_lexB (fun a b => by simp [Ord.nat])] at q'; exact q')
    | le =>
      have R := Ob.RcOp.tuples_le (A := X.A) (s := s) (r := fun j => decide (ns.getD j 0 ≤ ms.getD j 0)) p1 p2 (by omega) he (fun j h1 h2 _ => by
        obtain ⟨t, et⟩ := ints_at i1 j h1
        obtain ⟨t', et'⟩ := ints_at i2 j h2
        rw [et, et']
        exact Ob.RcOp.le_int _ _ _ _)
      rw [e1, e2] at R
      exact R X.prog X.w X.xe _ (by rw [← lexAt_lexB (fun a b => by simp [Ord.nat])] at q'; exact q')
    | gt =>
      have R := Ob.RcOp.tuples_gt (A := X.A) (s := s) (r := fun j => decide (ms.getD j 0 < ns.getD j 0)) p1 p2 (by omega) he (fun j h1 h2 _ => by
        obtain ⟨t, et⟩ := ints_at i1 j h1
        obtain ⟨t', et'⟩ := ints_at i2 j h2
        rw [et, et']
        exact Ob.RcOp.gt_int _ _ _ _)
      rw [e1, e2] at R
      exact R X.prog X.w X.xe _ (by rw [← lexAt_lexB (fun a b => by simp [Ord.nat])] at q'; exact q')
    | ge =>
      have R := Ob.RcOp.tuples_ge (A := X.A) (s := s) (r := fun j => decide (ms.getD j 0 ≤ ns.getD j 0)) p1 p2 (by omega) he (fun j h1 h2 _ => by
        obtain ⟨t, et⟩ := ints_at i1 j h1
        obtain ⟨t', et'⟩ := ints_at i2 j h2
        rw [et, et']
        exact Ob.RcOp.ge_int _ _ _ _)
      rw [e1, e2] at R
      exact R X.prog X.w X.xe _ (by rw [← lexAt_lexB (fun a b => by simp [Ord.nat])] at q'; exact q')
  exact fin
theorem ro_ord (o : Ord) (hK : g.K = X.K) (hu : X.A.units + 100 < cLine) : OpR X (compareOp o.op) (rd2 g (ordF o)) := by
  intro pins s σ H x y v u Q I rx ry ⟨bs, ρ, F, N, S, wx, wy, s1, r1, r2, p⟩
  unfold ordF at p
  split at p
  · rw [is_int r1] at rx; rw [is_int r2] at ry
    have q := p ρ F H _ (Grow.refl _ _) s1 (.dat (.bl _))
    cases o
    · exact op_lt pins s σ H _ _ v u Q I rx ry ⟨_, _, rfl, rfl, q⟩
    · exact op_le pins s σ H _ _ v u Q I rx ry ⟨_, _, rfl, rfl, q⟩
    · exact op_gt pins s σ H _ _ v u Q I rx ry ⟨_, _, rfl, rfl, q⟩
    · exact op_ge pins s σ H _ _ v u Q I rx ry ⟨_, _, rfl, rfl, q⟩
  · rw [is_str r1] at rx; rw [is_str r2] at ry
    have q := p ρ F H _ (Grow.refl _ _) s1 (.dat (.bl _))
    cases o
    · exact op_lt_str pins s σ H _ _ v u Q I rx ry ⟨_, _, rfl, rfl, q⟩
    · exact op_le_str pins s σ H _ _ v u Q I rx ry ⟨_, _, rfl, rfl, q⟩
    · exact op_gt_str pins s σ H _ _ v u Q I rx ry ⟨_, _, rfl, rfl, q⟩
    · exact op_ge_str pins s σ H _ _ v u Q I rx ry ⟨_, _, rfl, rfl, q⟩
  · split at p
    · rename_i ns ms h1 h2
      obtain ⟨a, e1, q1⟩ := tup_ints s1.ex r1 h1
      obtain ⟨b, e2, q2⟩ := tup_ints s1.ex r2 h2
      subst e1 e2
      cases rx; cases ry
      rw [hK] at q1 q2
      exact ro_ordT o hu I q1 q2 (p ρ F H _ (Grow.refl _ _) s1 (.dat (.bl _)))
    · exact p.elim
  · exact p.elim

/-! ### chains -/
/-- a < b < c; the middle is asked once -/
def mChain (f f' : Op2) (ma mb mc : M W) : M W := fun bs env S => (ma bs env S).bind fun x S1 => (mb bs env S1).bind fun y S2 => match f bs x y S2 with
  | some (.dat (.bool b), S3) => if b = true then (mc bs env S3).bind fun z S4 => match f' bs y z S4 with
      | some (w, S5) => .ok w S5
      | none => .stuck
    else .ok (.bl false) S3
  | _ => .stuck
variable {B : WX} {a b c e : Expr} {ma mb mc : M W} {pos : Pos} {f f' : Op2}
theorem rd_chain (σ : L2.St) (H : Hp) (Q : VK) (h : rd g B (mChain f f' ma mb mc) σ H Q) : tChain (rd2 g f) (rd2 g f') (rd g B ma) (rd g B mb) (rd g B mc) σ H Q := by
  obtain ⟨bs, ρ, F, N, env, S, s, e, p⟩ := h
  refine ⟨bs, ρ, F, N, env, S, s, e, (Post.bind p).imp fun x H1 ⟨ρ1, F1, wx, S1, g1, s1, r1, p1⟩ => ?_⟩
  refine ⟨bs, ρ1, F1, N, env, S1, s1, e.mono g1, (Post.bind p1).imp fun y H2 ⟨ρ2, F2, wy, S2, g2, s2, r2, p2⟩ => ?_⟩
  refine ⟨bs, ρ2, F2, N, S2, wx, wy, s2, r1.mono g2, r2, ?_⟩
  split at p2
  · rename_i b S3 hf
    rw [hf]
    intro ρ3 F3 H3 v g3 s3 r3
    refine ⟨b, is_bl r3, ?_⟩
    cases b with
    | true =>
      rw [if_pos rfl] at p2 ⊢
      have p3 := Post.grow g3 p2
      refine ⟨bs, ρ3, F3, N, env, S3, s3, e.mono (g1.trans (g2.trans g3)), (Post.bind p3).imp fun z H4 ⟨ρ4, F4, wz, S4, g4, s4, r4, p4⟩ => ?_⟩
      exact ⟨bs, ρ4, F4, N, S4, wy, wz, s4, r2.mono (g3.trans g4), r4, post_op p4⟩
    | false =>
      rw [if_neg Bool.false_ne_true] at p2 ⊢
      exact p2 ρ3 F3 H3 _ g3 s3 (.dat (.bl _))
  · exact p2.elim
theorem re_chain {op op' : CmpOp} (ho : OpR X (compareOp op) (rd2 g f)) (ho' : OpR X (compareOp op') (rd2 g f')) (ha : PE X a (rd g B ma)) (hb : PE X b (rd g B mb)) (hc : PE X c (rd g B mc))
    (hm : lastMarks [op, op'] [b, c] = false := by with_unfolding_all rfl) : PE X (.Compare a [op, op'] [b, c] pos) (rd g B (mChain f f' ma mb mc)) := (pe_chain ho ho' ha hb hc hm).imp rd_chain
theorem rt_chain {op op' : CmpOp} (ho : OpR X (compareOp op) (rd2 g f)) (ho' : OpR X (compareOp op') (rd2 g f')) (ha : PE X a (rd g B ma)) (hb : PE X b (rd g B mb)) (hc : PE X c (rd g B mc))
    (hm : lastMarks [op, op'] [b, c] = false := by with_unfolding_all rfl) : PT X (.Compare a [op, op'] [b, c] pos) (rdT g B (mB (mChain f f' ma mb mc))) := (pt_chain ho ho' ha hb hc hm).imp fun σ H Q h => rd_chain σ H _ (rd_B h)

/-! ### truth -/
def truW (S : Store) : W → Option Bool
  | .dat .none => some false
  | .dat (.bool b) => some b
  | .dat (.int i) => some (i != 0)
  | .dat (.str x) => if x.length ≤ 100000 then some ((x.length : Int) != 0) else none
  | w => (seqOf S w).map fun ws => !ws.isEmpty
theorem tru_of {bs : List Nat} {ρ : List Addr} {F N H : Hp} {S : Store} {v : V} {w : W} {k : Bool} (s : Sim g bs ρ F N S H) (r : Is g.K ρ F v w) (h : truW S w = some k) : TruV g.K v H k := by
  unfold truW at h
  split at h
  · rw [is_non r]; cases h; rfl
  · rw [is_bl r]; cases h; rfl
  · rw [is_int r]; cases h; rfl
  · split at h
    · rename_i hl; rw [is_str r]; cases h; exact ⟨line5 hl, rfl⟩
    · cases h
  · simp only [Option.map_eq_some_iff] at h
    obtain ⟨ws, h, rfl⟩ := h
    obtain ⟨a, vs, e, q, l⟩ := seq_of s r h
    subst e
    have hl : (!ws.isEmpty) = !vs.isEmpty := by
      have := l.len
      cases ws <;> cases vs <;> simp_all
    rw [hl]
    rcases q with q | q
    · exact .inl ⟨vs, q, rfl⟩
    · exact .inr (.inl ⟨vs, q, rfl⟩)
def mTru (m : M W) : M Bool := fun bs env S => (m bs env S).bind fun w S1 => match truW S1 w with
  | some b => .ok b S1
  | none => .stuck
theorem rd_tru (hK : g.K = X.K) {m : M W} (σ : L2.St) (H : Hp) (Q : Bool → Hp → Prop) (h : rdT g B (mTru m) σ H Q) : rd g B m σ H (fun x H1 => ∃ k, TruV X.K x H1 k ∧ Q k H1) := by
  obtain ⟨bs, ρ, F, N, env, S, s, e, p⟩ := h
  refine ⟨bs, ρ, F, N, env, S, s, e, (Post.bind (R1 := RW g) p).imp fun x H1 ⟨ρ1, F1, wx, S1, g1, s1, r1, p1⟩ => ?_⟩
  split at p1
  · rename_i b hb
    refine ⟨b, ?_, p1 ρ1 F1 H1 _ (Grow.refl _ _) s1 rfl⟩
    rw [← hK]; exact tru_of s1 r1 hb
  · exact p1.elim
theorem rt_tru (hK : g.K = X.K) (h : PE X e (rd g B ma)) (he : ∀ whole, isTrue e X.env whole = (do let v ← whole; standAt e.pos; holding [v] (truthy v)) := by intro _; rfl) : PT X e (rdT g B (mTru ma)) :=
  (pt_truth h he).imp fun σ H Q h => rd_tru hK σ H Q h
/-- x and y, x or y, not x, as values -/
def mAndV (ma mb : M W) : M W := fun bs env S => (ma bs env S).bind fun x S1 => match truW S1 x with
  | some b => if b = true then mb bs env S1 else .ok x S1
  | none => .stuck
def mOrV (ma mb : M W) : M W := fun bs env S => (ma bs env S).bind fun x S1 => match truW S1 x with
  | some b => if b = true then .ok x S1 else mb bs env S1
  | none => .stuck
def mNotV (ma : M W) : M W := fun bs env S => (ma bs env S).bind fun x S1 => match truW S1 x with
  | some b => .ok (.bl (!b)) S1
  | none => .stuck
theorem re_and (hK : g.K = X.K) {rest : List Expr} (ha : PE X a (rd g B ma)) (hb : PE X (.BoolOp .And (b :: rest) pos) (rd g B mb)) : PE X (.BoolOp .And (a :: b :: rest) pos) (rd g B (mAndV ma mb)) := (pe_andT ha hb).imp fun σ H Q ⟨bs, ρ, F, N, env, S, s, e, p⟩ => by
  refine ⟨bs, ρ, F, N, env, S, s, e, (Post.bind (R1 := RW g) p).imp fun x H1 ⟨ρ1, F1, wx, S1, g1, s1, r1, p1⟩ => ?_⟩
  split at p1
  · rename_i b hb
    refine ⟨b, by rw [← hK]; exact tru_of s1 r1 hb, ?_⟩
    cases b with
    | true => exact ⟨bs, ρ1, F1, N, env, S1, s1, e.mono g1, p1⟩
    | false => exact p1 ρ1 F1 H1 _ (Grow.refl _ _) s1 r1
  · exact p1.elim
theorem re_or (hK : g.K = X.K) {rest : List Expr} (ha : PE X a (rd g B ma)) (hb : PE X (.BoolOp .Or (b :: rest) pos) (rd g B mb)) : PE X (.BoolOp .Or (a :: b :: rest) pos) (rd g B (mOrV ma mb)) := (pe_orT ha hb).imp fun σ H Q ⟨bs, ρ, F, N, env, S, s, e, p⟩ => by
  refine ⟨bs, ρ, F, N, env, S, s, e, (Post.bind (R1 := RW g) p).imp fun x H1 ⟨ρ1, F1, wx, S1, g1, s1, r1, p1⟩ => ?_⟩
  split at p1
  · rename_i b hb
    refine ⟨b, by rw [← hK]; exact tru_of s1 r1 hb, ?_⟩
    cases b with
    | true => exact p1 ρ1 F1 H1 _ (Grow.refl _ _) s1 r1
    | false => exact ⟨bs, ρ1, F1, N, env, S1, s1, e.mono g1, p1⟩
  · exact p1.elim
theorem re_one {op : BoolOp} (ha : PE X a (rd g B ma)) : PE X (.BoolOp op [a] pos) (rd g B ma) := pe_one ha
theorem re_not (hK : g.K = X.K) (ha : PE X a (rd g B ma)) : PE X (.UnaryOp .Not a pos) (rd g B (mNotV ma)) := (pe_notT ha).imp fun σ H Q ⟨bs, ρ, F, N, env, S, s, e, p⟩ => by
  refine ⟨bs, ρ, F, N, env, S, s, e, (Post.bind (R1 := RW g) p).imp fun x H1 ⟨ρ1, F1, wx, S1, g1, s1, r1, p1⟩ => ?_⟩
  split at p1
  · rename_i b hb
    exact ⟨b, by rw [← hK]; exact tru_of s1 r1 hb, p1 ρ1 F1 H1 _ (Grow.refl _ _) s1 (.dat (.bl _))⟩
  · exact p1.elim
def mNeg (ma : M W) : M W := fun bs env S => (ma bs env S).bind fun x S1 => match x with
  | .dat (.int i) => .ok (.int (-i)) S1
  | _ => .stuck
theorem re_neg (ha : PE X a (rd g B ma)) : PE X (.UnaryOp .USub a pos) (rd g B (mNeg ma)) := (pe_un un_neg ha).imp fun σ H Q ⟨bs, ρ, F, N, env, S, s, e, p⟩ => by
  refine ⟨bs, ρ, F, N, env, S, s, e, (Post.bind (R1 := RW g) p).imp fun x H1 ⟨ρ1, F1, wx, S1, g1, s1, r1, p1⟩ => ?_⟩
  split at p1
  · rw [is_int r1]; exact ⟨_, rfl, p1 ρ1 F1 H1 _ (Grow.refl _ _) s1 (.dat (.int _))⟩
  · exact p1.elim
end
end Rf

namespace Rf
open PySem L2

/-! ### dicts by data -/
def keyD : PyData → Option Key
  | .int i => some (.inl i)
  | .str x => some (.inr x)
  | _ => none
def keysD : List PyData → Option (List Key)
  | [] => some []
  | d :: ds => match keyD d, keysD ds with
    | some k, some ks => some (k :: ks)
    | _, _ => none
theorem keyD_eq {d : PyData} {k : Key} (h : keyD d = some k) : d = kD k := by
  cases d <;> simp [keyD] at h <;> subst h <;> rfl
@[simp] theorem keyD_kD (k : Key) : keyD (kD k) = some k := by cases k <;> rfl
theorem keysD_eq : ∀ {ds : List PyData} {ks : List Key}, keysD ds = some ks → ds = ks.map kD
  | [], _, h => by simp [keysD] at h; subst h; rfl
  | d :: ds, _, h => by
    simp only [keysD] at h
    split at h
    · rename_i k ks h1 h2
      cases h
      rw [keyD_eq h1, keysD_eq h2]; rfl
    · cases h
@[simp] theorem keysD_map (ks : List Key) : keysD (ks.map kD) = some ks := by
  induction ks with
  | nil => rfl
  | cons k ks ih => simp [keysD, ih]
theorem rp_key {K : PySem.W.Frag} {F : Hp} {v : V} {k : Key} (h : Rp K F v (kD k)) : v = kV k := by
  cases k with
  | inl i => cases h; rfl
  | inr x => cases h; rfl
theorem rp_keys {K : PySem.W.Frag} {F : Hp} : ∀ {ks : List Key} {vs : List V}, RpAll K F vs (ks.map kD) → vs = ks.map kV
  | [], _, h => by cases h; rfl
  | k :: ks, _, h => by
    cases h with
    | cons a b => rw [rp_key a, rp_keys b]; rfl
/-- what stands at an item that equals a key -/
inductive DKey where
  | one (k : Key)
  | tup (ks : List Key)
  deriving DecidableEq
def dkey : PyData → Option DKey
  | .tuple ds => if ds.isEmpty = true then none else (keysD ds).map .tup
  | d => (keyD d).map .one
def DKey.d : DKey → PyData
  | .one k => kD k
  | .tup ks => .tuple (ks.map kD)
theorem dkey_eq {d : PyData} {k : DKey} (h : dkey d = some k) : d = k.d := by
  unfold dkey at h
  split at h
  · split at h
    · cases h
    simp only [Option.map_eq_some_iff] at h
    obtain ⟨ks, h, rfl⟩ := h
    rw [keysD_eq h]; rfl
  · simp only [Option.map_eq_some_iff] at h
    obtain ⟨ks, h, rfl⟩ := h
    rw [keyD_eq h]; rfl
@[simp] theorem dkey_one (k : Key) : dkey (kD k) = some (.one k) := by cases k <;> rfl
theorem dkey_tup {ks : List Key} (h : ks ≠ []) : dkey (.tuple (ks.map kD)) = some (.tup ks) := by
  cases ks with
  | nil => exact absurd rfl h
  | cons k ks => simp [dkey, ← List.map_cons]
theorem dkey_two (ks : List Key) : dkey (.tuple (ks.map kD)) = none ∨ dkey (.tuple (ks.map kD)) = some (.tup ks) := by
  by_cases e : ks = []
  · subst e; exact .inl rfl
  · exact .inr (dkey_tup e)
theorem dkey_ne {d : PyData} {ks : List Key} (h : dkey d = some (.tup ks)) : ks ≠ [] := by
  intro e
  subst e
  have := dkey_eq h
  subst this
  cases h
theorem dkey_tupI {k ks : List Key} (h : ks ≠ []) : decide (dkey (.tuple (k.map kD)) = some (.tup ks)) = decide (k = ks) := by
  by_cases e : k = []
  · subst e
    rw [decide_eq_false (p := [] = ks) (fun z => h z.symm)]
    exact decide_eq_false (fun z => nomatch z)
  · rw [dkey_tup e]; simp
theorem dkey_d {d : PyData} {k : DKey} (h : dkey d = some k) : dkey k.d = some k := by rw [← dkey_eq h]; exact h
def lookW (ws : List (PyData × W)) (k : DKey) : Option W := (ws.find? fun p => decide (dkey p.1 = some k)).map (·.2)
def putW (ws : List (PyData × W)) (k : DKey) (w : W) : List (PyData × W) :=
  if (ws.any fun p => decide (dkey p.1 = some k)) then ws.map fun p => if dkey p.1 = some k then (p.1, w) else p else ws ++ [(k.d, w)]
def dropW (ws : List (PyData × W)) (k : DKey) : List (PyData × W) := ws.filter fun p => decide (dkey p.1 ≠ some k)
/-- all keys of one kind: 0 ints and texts, 1 tuples of these -/
def kindK (k : DKey) : Nat := match k with | .one _ => 0 | .tup _ => 1
def dicOf (S : Store) : W → Option (List (PyData × W))
  | .dat (.dict kvs) => some (kvs.map fun p => (p.1, .dat p.2))
  | .loc n => match S[n]? with
    | some (.dic ws) => some ws
    | some (.fz ws) => some ws
    | _ => none
  | _ => none
section
variable {K : PySem.W.Frag} {ρ : List Addr} {F N H : Hp}
theorem RpKV.isKV : ∀ {vs : List (PyData × V)} {ds : List (PyData × PyData)}, RpKV K F vs ds → IsKV K ρ F vs (ds.map fun p => (p.1, .dat p.2))
  | _, [], h => by cases h; exact .nil
  | _, (k, d) :: ds, h => by
    cases h with
    | cons a b => exact .cons (.dat a) (RpKV.isKV b)
theorem isKV_val {vs : List (PyData × V)} {ws : List (PyData × W)} (h : IsKV K ρ F vs ws) (k : DKey) : match lookW ws k with
    | some w => ∃ v, (vs.find? fun p => decide (dkey p.1 = some k)).map (·.2) = some v ∧ Is K ρ F v w
    | none => (vs.find? fun p => decide (dkey p.1 = some k)).map (·.2) = none := by
  induction h with
  | nil => rfl
  | @cons k' v vs w ws a b ih =>
    unfold lookW at ih ⊢
    rw [List.find?_cons, List.find?_cons]
    by_cases e : dkey k' = some k
    · simp only [decide_eq_true e]; exact ⟨v, rfl, a⟩
    · simp only [decide_eq_false e]; exact ih
theorem valK_eq (kvs : List (Key × V)) (k : Key) : ((kvs.map fun p => (kD p.1, p.2)).find? fun p => decide (dkey p.1 = some (.one k))).map (·.2) = valV kvs k := by
  unfold valV
  induction kvs with
  | nil => rfl
  | cons p kvs ih =>
    rw [List.map_cons, List.find?_cons, List.find?_cons]
    have e : decide (dkey (kD p.1) = some (.one k)) = decide (p.1 = k) := by
      have z : dkey (kD p.1) = some (.one p.1) := dkey_one p.1
      rw [z]; simp
    simp only [e]
    by_cases q : p.1 = k
    · simp [q]
    · simp [q]; simpa using ih
theorem valT_eq (kvs : List (List Key × V)) {k : List Key} (hk : k ≠ []) : ((kvs.map fun p => (PyData.tuple (p.1.map kD), p.2)).find? fun p => decide (dkey p.1 = some (.tup k))).map (·.2) = valV kvs k := by
  unfold valV
  induction kvs with
  | nil => rfl
  | cons p kvs ih =>
    rw [List.map_cons, List.find?_cons, List.find?_cons]
    have e : decide (dkey (.tuple (p.1.map kD)) = some (.tup k)) = decide (p.1 = k) := dkey_tupI hk
    simp only [e]
    by_cases q : p.1 = k
    · simp [q]
    · simp [q]; simpa using ih
end
/-- the dict in the heap, of one kind -/
inductive DicH (H : Hp) (a : Addr) : Nat → List (PyData × V) → Prop
  | k {kvs : List (Key × V)} : Rd H a (.dK kvs) → DicH H a 0 (kvs.map fun p => (kD p.1, p.2))
  | t {kvs : List (List Key × V)} : Rd H a (.dT kvs) → DicH H a 1 (kvs.map fun p => (.tuple (p.1.map kD), p.2))
section
variable {X : Cx} {g : Gx} {bs : List Nat} {ρ : List Addr} {F N H : Hp} {S : Store} {v : V} {w : W}
theorem dic_of {ws : List (PyData × W)} (s : Sim g bs ρ F N S H) (r : Is g.K ρ F v w) (h : dicOf S w = some ws) : ∃ a n vs, v = .ref a ∧ DicH H a n vs ∧ IsKV g.K ρ F vs ws := by
  cases w with
  | dat d =>
    cases d <;> simp only [dicOf] at h <;> try cases h
    cases r with
    | dat r => cases r with
      | dicK e q => exact ⟨_, _, _, rfl, .k (.inr ⟨_, s.ex _ _ e⟩), q.isKV⟩
      | dicT e q => exact ⟨_, _, _, rfl, .t (.inr ⟨_, s.ex _ _ e⟩), q.isKV⟩
  | loc n =>
    simp only [dicOf] at h
    split at h
    · rename_i xs hn
      cases h
      cases r with
      | loc hr =>
        rcases s.cell n _ _ hn hr with ⟨kvs, e, q⟩ | ⟨kvs, e, q⟩
        · exact ⟨_, _, _, rfl, .k (.inl e), q⟩
        · exact ⟨_, _, _, rfl, .t (.inl e), q⟩
    · rename_i xs hn
      cases h
      cases r with
      | loc hr =>
        rcases s.cell n _ _ hn hr with ⟨o, kvs, e, _, q⟩ | ⟨o, kvs, e, _, q⟩
        · exact ⟨_, _, _, rfl, .k (.inr ⟨_, e⟩), q⟩
        · exact ⟨_, _, _, rfl, .t (.inr ⟨_, e⟩), q⟩
    · cases h
  | tw xs => simp [dicOf] at h
  | lw xs => simp [dicOf] at h
  | kt xs => simp [dicOf] at h
  | fn xs => simp [dicOf] at h
  | rg x y z => simp [dicOf] at h
/-- an empty dict may be of either kind -/
theorem inv_kind {pins : List (Addr × Obj)} {σ : L2.St} {s : Shared} {a : Addr} (I : Inv X pins σ H s) (h : H a = some (.dK [])) : Inv X pins σ (upd H a (.dT [])) s := by
  obtain ⟨z, hd, vs, rel, o, es, ep, h1, h2, h3, h4, h5, h6⟩ := dk_of I.hok h
  cases rel
  cases es with
  | mk l =>
    cases l with
    | nil =>
      refine I.write (h' := s.heap) (t' := s.toks) (x := a) (e := a) (by rw [h]; trivial) (.inl rfl) (fun b u _ q => q) ⟨_, h1⟩ ⟨Nat.zero_le _, hd, [], .nil, o, _, ep, h1, h2, h3, rfl, .nil⟩
    | cons x xs => cases h5
theorem inv_kind' {pins : List (Addr × Obj)} {σ : L2.St} {s : Shared} {a : Addr} (I : Inv X pins σ H s) (h : H a = some (.dT [])) : Inv X pins σ (upd H a (.dK [])) s := by
  obtain ⟨z, hd, xs, rel, o, es, ep, h1, h2, h3, h4, h5⟩ := (show ObjOk X.prog X.w H s.heap a (.dT []) from I.hok a _ h)
  cases rel
  cases es with
  | mk l =>
    cases l with
    | nil =>
      refine I.write (h' := s.heap) (t' := s.toks) (x := a) (e := a) (by rw [h]; trivial) (.inl rfl) (fun b u _ q => q) ⟨_, h1⟩ (dk_new (kvs := []) (vs := []) (Nat.zero_le _) hd .nil ⟨o, _, ep, h1, h2, h3, fun x hx => by simp at hx, ?_, .nil⟩)
      exact .nil
    | cons x xs => simp at h4
end
end Rf

namespace Rf
open PySem L2

/-! ### an item -/
def ixF : Op2 := fun _ x y S => match seqOf S x, y with
  | some ws, .dat (.int i) => (atI ws i).map (·, S)
  | some _, _ => none
  | none, y => match x, y with
    | .dat (.str z), .dat (.int i) => if z.length ≤ 100000 then (atI z.cps.toList i).map fun c => (.str ⟨#[c]⟩, S) else none
    | x, .dat d => match dicOf S x, dkey d with
      | some ws, some k => (lookW ws k).map (·, S)
      | _, _ => none
    | _, _ => none
section
variable {X : Cx} {g : Gx}
/-- the key in the heap -/
theorem key_one {K : PySem.W.Frag} {F : Hp} {v : V} {k : Key} (r : Rp K F v (DKey.one k).d) : v = kV k := rp_key r
theorem key_tup {K : PySem.W.Frag} {F H : Hp} {v : V} {ks : List Key} (hk : ks ≠ []) (e : Same F H) (r : Rp K F v (DKey.tup ks).d) : ∃ b, v = .ref b ∧ H b = some (.tup (ks.map kV)) := by
  have r' : Rp K F v (.tuple (ks.map kD)) := r
  cases r' with
  | tup q r => rw [rp_keys r] at q; exact ⟨_, rfl, e _ _ q⟩
  | own q n r => rw [noKey_keys hk] at n; cases n
theorem dic_get {H : Hp} {a : Addr} {n : Nat} {vs : List (PyData × V)} {K : PySem.W.Frag} {F : Hp} {v : V} {k : DKey} (d : DicH H a n vs) (e : Same F H) (r : Rp K F v k.d) (h : kindK k = n) (hk : dkey k.d = some k) :
    DGet H a v ((vs.find? fun p => decide (dkey p.1 = some k)).map (·.2)) := by
  cases d with
  | k hd =>
    cases k with
    | one k => rw [key_one r, valK_eq]; exact .inl ⟨_, k, hd, rfl, rfl⟩
    | tup ks => simp [kindK] at h
  | t hd =>
    cases k with
    | one k => simp [kindK] at h
    | tup ks => obtain ⟨b, rfl, hb⟩ := key_tup (dkey_ne hk) e r; rw [valT_eq _ (dkey_ne hk)]; exact .inr ⟨_, ks, b, hd, rfl, hb, rfl⟩
/-- a key found says the kind -/
theorem look_kind {H : Hp} {a : Addr} {n : Nat} {vs : List (PyData × V)} {k : DKey} {v : V} (d : DicH H a n vs) (h : (vs.find? fun p => decide (dkey p.1 = some k)).map (·.2) = some v) : kindK k = n := by
  obtain ⟨p, h1, _⟩ := Option.map_eq_some_iff.mp h
  have hm := List.mem_of_find?_eq_some h1
  have hp := List.find?_some h1
  simp only [decide_eq_true_eq] at hp
  cases d with
  | k hk =>
    obtain ⟨q, _, rfl⟩ := List.mem_map.mp hm
    have z : dkey (kD q.1) = some (.one q.1) := dkey_one q.1
    rw [z] at hp; cases hp; rfl
  | t hk =>
    obtain ⟨q, _, rfl⟩ := List.mem_map.mp hm
    cases k with
    | one k => have z := dkey_eq hp; cases k <;> cases z
    | tup k => rfl
theorem subTail {prog : Program} {w : World} {A : Around} {E : Value → Shared → Prop} {s : Shared} {value slice : Expr} {o i : Value} {T id : String} {Q : Value → Shared → Prop} (hT : s.TypeIs o T)
    (hl : typeLookup (.type T) "__getitem__" = pure (some (.builtin id))) (h : wpAny (model prog w) A (getItem o i) Q E s) (hs : subscripted slice false o i = operate [o, i] (getItem o i)) : wpAny (model prog w) A (PyProof.Rows.subscriptTail value slice o i) Q E s := by
  unfold PyProof.Rows.subscriptTail
  refine wpAny_bind ?_
  rw [getitemInPython_of_ne hT.not_modules]; refine wpAny_bind (wpAny_specialOf hT hl ?_)
  have fin : wpAny (model prog w) A (subscripted slice false o i) (fun r t => wpAny (model prog w) A (letTemporaryGo value o r >>= fun _ => pure r) Q E t) E s := by
    rw [hs]; exact wpAny_operating (wpAny_mono h (fun r t ht => wpAny_bind (wpAny_letTemporaryGo (wpAny_pure ht))) fun _ _ x => x)
  first
    | exact wpAny_pure (wpAny_bind fin)
    | exact wpAny_bind (wpAny_pure (wpAny_bind fin))
    | exact wpAny_bind fin
theorem ix_dict (hu : X.A.units + 100 < cLine) : IxR X (fun x y H Q => ∃ a v, x = .ref a ∧ DGet H a y (some v) ∧ Q v H) := by
  intro value slice pins s σ H x y v u Q I rx ry ⟨a, w, e, d, q⟩ hs
  subst e
  cases rx
  exact subTail (dict_typeIs I d) PySem.F.slot_dict_getitem.lookup (d_getItem (by omega) I d ry fun w' s' I' r' => ⟨w, H, I', r', q⟩) hs
theorem ro_ix (hK : g.K = X.K) (hu : X.A.units + 100 < cLine) : IxR X (rd2 g ixF) := by
  intro value slice pins s σ H x y v u Q I rx ry ⟨bs, ρ, F, N, S, wx, wy, s1, r1, r2, p⟩ hs
  unfold ixF at p
  split at p
  · rename_i ws i h1
    cases hz : atI ws i with
    | none => rw [hz] at p; exact p.elim
    | some z =>
      rw [hz] at p
      obtain ⟨a, vs, e1, q1, l1⟩ := seq_of s1 r1 h1
      obtain ⟨x', hx, rx'⟩ := l1.atI hz
      subst e1
      rw [is_int r2] at ry
      have q : Q x' H := p ρ F H _ (Grow.refl _ _) s1 rx'
      rw [hK] at q1
      rcases q1 with q1 | q1
      · exact ix_list value slice pins s σ H _ _ v u Q I rx ry ⟨a, vs, i, x', rfl, rfl, q1, hx, q⟩ hs
      · exact ix_tup value slice pins s σ H _ _ v u Q I rx ry ⟨a, vs, i, x', rfl, rfl, q1, hx, q⟩ hs
  · exact p.elim
  · split at p
    · rename_i _ z i _
      split at p
      · rename_i hl
        cases hz : atI z.cps.toList i with
        | none => rw [hz] at p; exact p.elim
        | some c =>
          rw [hz] at p
          rw [is_str r1] at rx; rw [is_int r2] at ry
          exact ix_str value slice pins s σ H _ _ v u Q I rx ry ⟨z, i, c, rfl, rfl, line5 hl, hz, p ρ F H _ (Grow.refl _ _) s1 (.dat (.str _))⟩ hs
      · exact p.elim
    · rename_i d _
      split at p
      · rename_i ws k h1 h2
        cases hz : lookW ws k with
        | none => rw [hz] at p; exact p.elim
        | some z =>
          rw [hz] at p
          obtain ⟨a, n, vs, e1, dh, l1⟩ := dic_of s1 r1 h1
          subst e1
          have hv := isKV_val l1 k
          rw [hz] at hv
          obtain ⟨x', hx, rx'⟩ := hv
          have hd := dkey_eq h2
          subst hd
          cases r2 with
          | dat r2 =>
            have dg := dic_get dh s1.ex r2 (look_kind dh hx) (dkey_d h2)
            rw [hx] at dg
            exact ix_dict hu value slice pins s σ H _ _ v u Q I rx ry ⟨a, x', rfl, dg, p ρ F H _ (Grow.refl _ _) s1 rx'⟩ hs
      · exact p.elim
    · exact p.elim
variable {B : WX} {a b c e : Expr} {es : List Expr} {ma mb mc : M W} {ms : M (List W)} {pos : Pos}
theorem re_ix (hK : g.K = X.K) (hu : X.A.units + 100 < cLine) (ha : PE X a (rd g B ma)) (hb : PE X b (rd g B mb)) (hs : PlainIx b := by intro _ _; rfl) : PE X (.Subscript a b pos) (rd g B (mBin ixF ma mb)) := (pe_ix (ro_ix hK hu) ha hb hs).imp rd_bin

/-! ### calls of built-ins -/
abbrev OpN := List Nat → List W → Store → Option (W × Store)
def mCB (f : OpN) (ms : M (List W)) : M W := fun bs env S => (ms bs env S).bind fun ws S1 => match f bs ws S1 with
  | some (w, S2) => .ok w S2
  | none => .stuck
def rdN (g : Gx) (f : OpN) : List V → Hp → VK → Prop := fun xs H Q => ∃ bs ρ F N S ws, Sim g bs ρ F N S H ∧ IsAll g.K ρ F xs ws ∧ PostV g bs ρ F N Q (f bs ws S)
theorem rd_CB {f : OpN} (σ : L2.St) (H : Hp) (Q : VK) (h : rd g B (mCB f ms) σ H Q) : tCB (rdN g f) (rdA g B ms) σ H Q := by
  obtain ⟨bs, ρ, F, N, env, S, s, e, p⟩ := h
  exact ⟨bs, ρ, F, N, env, S, s, e, (Post.bind p).imp fun x H1 ⟨ρ1, F1, wx, S1, g1, s1, r1, p1⟩ => ⟨bs, ρ1, F1, N, S1, wx, s1, r1, post_op p1⟩⟩
theorem re_callB {f : OpN} {x : Str} {id : String} {p : Pos} (hc : CallR X (.builtin id) (rdN g f)) (hg : Gl X x) (hm : X.mg x = none) (hv : bootBuiltins x = some (.builtin id)) (ha : PA X (e :: es) (rdA g B ms)) (hn : x ≠ "__name__" := by decide) (hdb : (x == ("__debug__" : Str)) = false := by decide)
    (he : starEach (e :: es) X.env = (false, eval e X.env) :: starEach es X.env := by rfl) (hpl : (backTo pos (starEach es X.env)).any (·.1) = false := by rfl) : PE X (.Call (.Name x p) (e :: es) [] pos) (rd g B (mCB f ms)) := (pe_callB hc hg hm hv ha hn hdb he hpl).imp rd_CB
theorem re_callTy {f : OpN} {x : Str} {T : String} {p : Pos} (hc : CallR X (.type T) (rdN g f)) (hg : Gl X x) (hm : X.mg x = none) (hv : bootBuiltins x = some (.type T)) (ha : PA X (e :: es) (rdA g B ms)) (hn : x ≠ "__name__" := by decide) (hdb : (x == ("__debug__" : Str)) = false := by decide)
    (he : starEach (e :: es) X.env = (false, eval e X.env) :: starEach es X.env := by rfl) (hpl : (backTo pos (starEach es X.env)).any (·.1) = false := by rfl) : PE X (.Call (.Name x p) (e :: es) [] pos) (rd g B (mCB f ms)) := (pe_callTy hc hg hm hv ha hn hdb he hpl).imp rd_CB
end
end Rf

namespace Rf
open PySem L2

section
variable {X : Cx} {g : Gx}
/-- a value of one argument that changes nothing -/
def un (f : Store → W → Option W) : OpN := fun _ ws S => match ws with
  | [w] => (f S w).map (·, S)
  | _ => none
theorem all_one {K : PySem.W.Frag} {ρ : List Addr} {F : Hp} {vs : List V} {w : W} (h : IsAll K ρ F vs [w]) : ∃ v, vs = [v] ∧ Is K ρ F v w := by
  cases h with
  | cons a b => cases b; exact ⟨_, rfl, a⟩
theorem all_two {K : PySem.W.Frag} {ρ : List Addr} {F : Hp} {vs : List V} {w u : W} (h : IsAll K ρ F vs [w, u]) : ∃ v x, vs = [v, x] ∧ Is K ρ F v w ∧ Is K ρ F x u := by
  cases h with
  | cons a b => cases b with
    | cons b c => cases c; exact ⟨_, _, rfl, a, b⟩
def lenW (S : Store) (w : W) : Option W := match seqOf S w with
  | some ws => some (.int ws.length)
  | none => match w with
    | .dat (.str x) => if x.length ≤ 100000 then some (.int x.length) else none
    | _ => none
theorem rc_len (hK : g.K = X.K) : CallR X (.builtin "len") (rdN g (un lenW)) := by
  intro pins s σ H xs us Q I r ⟨bs, ρ, F, N, S, ws, s1, r1, p⟩
  unfold un at p
  split at p
  · rename_i w
    obtain ⟨v, rfl, r2⟩ := all_one r1
    unfold lenW at p
    split at p
    · rename_i ws h1
      obtain ⟨a, vs, rfl, q1, l1⟩ := seq_of s1 r2 h1
      rw [hK] at q1
      exact call_len_seq pins s σ H _ us Q I r ⟨a, vs, rfl, q1, by rw [l1.len]; exact p ρ F H _ (Grow.refl _ _) s1 (.dat (.int _))⟩
    · split at p
      · skip
        split at p
        · rename_i hl
          rw [is_str r2] at r
          exact call_len_str pins s σ H _ us Q I r ⟨_, rfl, line5 hl, p ρ F H _ (Grow.refl _ _) s1 (.dat (.int _))⟩
        · exact p.elim
      · exact p.elim
  · exact p.elim
def absW (_ : Store) (w : W) : Option W := match w with
  | .dat (.int i) => some (.int (if i < 0 then -i else i))
  | _ => none
theorem rc_abs : CallR X (.builtin "abs") (rdN g (un absW)) := by
  intro pins s σ H xs us Q I r ⟨bs, ρ, F, N, S, ws, s1, r1, p⟩
  unfold un at p
  split at p
  · obtain ⟨v, rfl, r2⟩ := all_one r1
    unfold absW at p
    split at p
    · rw [is_int r2] at r
      exact call_abs pins s σ H _ us Q I r ⟨_, rfl, p ρ F H _ (Grow.refl _ _) s1 (.dat (.int _))⟩
    · exact p.elim
  · exact p.elim
def intW (_ : Store) (w : W) : Option W := match w with
  | .dat (.int i) => some (.int i)
  | .dat (.bool b) => some (.int (if b then 1 else 0))
  | _ => none
theorem rc_int : CallR X (.type "int") (rdN g (un intW)) := by
  intro pins s σ H xs us Q I r ⟨bs, ρ, F, N, S, ws, s1, r1, p⟩
  unfold un at p
  split at p
  · obtain ⟨v, rfl, r2⟩ := all_one r1
    unfold intW at p
    split at p
    · rw [is_int r2] at r
      exact call_int1 pins s σ H _ us Q I r (.inl ⟨_, rfl, p ρ F H _ (Grow.refl _ _) s1 (.dat (.int _))⟩)
    · rw [is_bl r2] at r
      exact call_int1 pins s σ H _ us Q I r (.inr ⟨_, rfl, p ρ F H _ (Grow.refl _ _) s1 (.dat (.int _))⟩)
    · exact p.elim
  · exact p.elim
def strW (_ : Store) (w : W) : Option W := match w with
  | .dat (.int i) => if i.natAbs.log2 < 1920 then some (.str (toString i)) else none
  | _ => none
theorem rc_str : CallR X (.type "str") (rdN g (un strW)) := by
  intro pins s σ H xs us Q I r ⟨bs, ρ, F, N, S, ws, s1, r1, p⟩
  unfold un at p
  split at p
  · obtain ⟨v, rfl, r2⟩ := all_one r1
    unfold strW at p
    split at p
    · split at p
      · rename_i hl
        rw [is_int r2] at r
        exact call_str_int pins s σ H _ us Q I r ⟨_, rfl, hl, p ρ F H _ (Grow.refl _ _) s1 (.dat (.str _))⟩
      · exact p.elim
    · exact p.elim
  · exact p.elim
def two (f : Int → Int → Int) : OpN := fun _ ws S => match ws with
  | [.dat (.int i), .dat (.int j)] => some (.int (f i j), S)
  | _ => none
theorem rc_two {n : String} {f : Int → Int → Int} (hc : CallR X (.builtin n) (fun xs H Q => ∃ i j, xs = [.int i, .int j] ∧ Q (.int (f i j)) H)) : CallR X (.builtin n) (rdN g (two f)) := by
  intro pins s σ H xs us Q I r ⟨bs, ρ, F, N, S, ws, s1, r1, p⟩
  unfold two at p
  split at p
  · obtain ⟨v, x, rfl, r2, r3⟩ := all_two r1
    rw [is_int r2, is_int r3] at r
    exact hc pins s σ H _ us Q I r ⟨_, _, rfl, p ρ F H _ (Grow.refl _ _) s1 (.dat (.int _))⟩
  · exact p.elim
def max2F : OpN := two fun i j => if j > i then j else i
def min2F : OpN := two fun i j => if j < i then j else i
theorem rc_max2 (hc : X.calm = true) : CallR X (.builtin "max") (rdN g max2F) := rc_two (call_max2 hc)
theorem rc_min2 (hc : X.calm = true) : CallR X (.builtin "min") (rdN g min2F) := rc_two (call_min2 hc)
/-- list(..) of a sequence -/
def listF (k : Bool) : OpN := fun _ ws S => match ws with
  | [w] => (seqOf S w).map fun xs => newL k xs S
  | _ => none
theorem rc_list (hK : g.K = X.K) {k : Bool} : CallR X (.type "list") (rdN g (listF k)) := by
  intro pins s σ H xs us Q I r ⟨bs, ρ, F, N, S, ws, s1, r1, p⟩
  unfold listF at p
  split at p
  · rename_i w
    obtain ⟨v, rfl, r2⟩ := all_one r1
    cases h1 : seqOf S w with
    | none => rw [h1] at p; exact p.elim
    | some ws =>
      rw [h1] at p
      obtain ⟨a, vs, rfl, q1, l1⟩ := seq_of s1 r2 h1
      rw [hK] at q1
      exact call_list_of pins s σ H _ us Q I r ⟨a, vs, rfl, q1, fun q hq => new_ok s1 hq l1 p⟩
  · exact p.elim
/-- tuple(..) of a list; of a tuple: itself -/
def tupleF : OpN := fun _ ws S => match ws with
  | [w] => match tupOf w with
    | some _ => some (w, S)
    | none => (lstOf S w).map fun xs => (mkTup xs, S)
  | _ => none
theorem rc_tuple (hK : g.K = X.K) : CallR X (.type "tuple") (rdN g tupleF) := by
  intro pins s σ H xs us Q I r ⟨bs, ρ, F, N, S, ws, s1, r1, p⟩
  unfold tupleF at p
  split at p
  · rename_i w
    obtain ⟨v, rfl, r2⟩ := all_one r1
    split at p
    · rename_i xs h1
      obtain ⟨a, vs, rfl, q1, l1⟩ := tup_of r2 h1
      rw [hK] at q1
      exact call_tuple_of pins s σ H _ us Q I r ⟨a, vs, rfl, .inr ⟨Same.sqT s1.ex q1, p ρ F H _ (Grow.refl _ _) s1 r2⟩⟩
    · cases h1 : lstOf S w with
      | none => rw [h1] at p; exact p.elim
      | some ws =>
        rw [h1] at p
        obtain ⟨a, vs, rfl, q1, l1⟩ := lst_of s1 r2 h1
        rw [hK] at q1
        exact call_tuple_of pins s σ H _ us Q I r ⟨a, vs, rfl, .inl ⟨q1, fun q hq => newT_ok s1 hq l1 p⟩⟩
  · exact p.elim
/-- the bools, the intsW of a list -/
def bools : List W → Option (List Bool)
  | [] => some []
  | .dat (.bool b) :: ws => (bools ws).map (b :: ·)
  | _ :: _ => none
theorem bools_is {K : PySem.W.Frag} {ρ : List Addr} {F : Hp} : ∀ {ws : List W} {vs : List V} {xs : List Bool}, IsAll K ρ F vs ws → bools ws = some xs → vs = xs.map V.bl
  | [], _, _, h, e => by cases h; simp [bools] at e; subst e; rfl
  | w :: ws, _, _, .cons a b, e => by
    unfold bools at e
    split at e
    · rename_i h; cases h
    · rename_i b' ws' h
      cases h
      simp only [Option.map_eq_some_iff] at e
      obtain ⟨xs, e, rfl⟩ := e
      rw [is_bl a, bools_is b e]; rfl
    · cases e
@[simp] theorem bools_map (xs : List Bool) : bools (xs.map W.bl) = some xs := by
  induction xs with
  | nil => rfl
  | cons x xs ih => simp only [List.map_cons, W.bl, bools, Option.map_eq_some_iff]; exact ⟨xs, ih, rfl⟩
def intsW : List W → Option (List Int)
  | [] => some []
  | .dat (.int b) :: ws => (intsW ws).map (b :: ·)
  | _ :: _ => none
theorem ints_is {K : PySem.W.Frag} {ρ : List Addr} {F : Hp} : ∀ {ws : List W} {vs : List V} {xs : List Int}, IsAll K ρ F vs ws → intsW ws = some xs → vs = xs.map V.int
  | [], _, _, h, e => by cases h; simp [intsW] at e; subst e; rfl
  | w :: ws, _, _, .cons a b, e => by
    unfold intsW at e
    split at e
    · rename_i h; cases h
    · rename_i b' ws' h
      cases h
      simp only [Option.map_eq_some_iff] at e
      obtain ⟨xs, e, rfl⟩ := e
      rw [is_int a, ints_is b e]; rfl
    · cases e
def allF (S : Store) (w : W) : Option W := match lstOf S w with
  | some ws => (bools ws).map fun xs => .bl (xs.all id)
  | none => none
def anyF (S : Store) (w : W) : Option W := match lstOf S w with
  | some ws => (bools ws).map fun xs => .bl (xs.any id)
  | none => none
def sumF (S : Store) (w : W) : Option W := match lstOf S w with
  | some ws => (intsW ws).map fun xs => .int xs.sum
  | none => none
theorem rc_all (hK : g.K = X.K) (hc : X.calm = true) : CallR X (.builtin "all") (rdN g (un allF)) := by
  intro pins s σ H xs us Q I r ⟨bs, ρ, F, N, S, ws, s1, r1, p⟩
  unfold un at p
  split at p
  · obtain ⟨v, rfl, r2⟩ := all_one r1
    unfold allF at p
    split at p
    · rename_i ws h1
      obtain ⟨a, vs, rfl, q1, l1⟩ := lst_of s1 r2 h1
      rw [hK] at q1
      cases h2 : bools ws with
      | none => rw [h2] at p; exact p.elim
      | some xs =>
        rw [h2] at p
        rw [bools_is l1 h2] at q1
        exact cr_all hc pins s σ H _ us Q I r ⟨a, xs, rfl, q1, p ρ F H _ (Grow.refl _ _) s1 (.dat (.bl _))⟩
    · exact p.elim
  · exact p.elim
/-- isinstance(x, T), T a built-in type -/
def tyW (S : Store) : W → Option String
  | .dat .none => some "NoneType"
  | .dat (.bool _) => some "bool"
  | .dat (.int _) => some "int"
  | .dat (.str _) => some "str"
  | .dat (.list _) => some "list"
  | .dat (.tuple _) => some "tuple"
  | .dat (.dict _) => some "dict"
  | .tw _ => some "tuple"
  | .lw _ => some "list"
  | .loc n => match S[n]? with
    | some (.lst _) => some "list"
    | some (.dic _) => some "dict"
    | some (.fz _) => some "dict"
    | _ => none
  | .kt _ => none
  | .fn _ => none
  | .rg _ _ _ => none
/-- a type, also of a locked dict whose keys are tuples -/
def TyD (K : PySem.W.Frag) (H : Hp) (x : V) (t : Value) : Prop := TyX K H x t ∨ ∃ a o, ∃ kvs : List (List Key × V), x = .ref a ∧ H a = some (.frz o (.dT kvs)) ∧ t = .type "dict"
def isiD (K : PySem.W.Frag) : List V → Hp → VK → Prop := fun xs H Q => ∃ (x c : V) (t u : Value) (b : Bool), xs = [x, c] ∧ ClsV c u ∧ TyD K H x t ∧ PySem.W.kitOne K t u = some b ∧ Q (.bl b) H
theorem call_isiD : CallR X (.builtin "isinstance") (isiD X.K) := by
  intro pins s σ H xs us Q inv rel ⟨x, c, t, u, b, ex, cls, ty, kit, q⟩
  rcases ty with ty | ⟨a, o, kvs, rfl, look, rfl⟩
  · exact call_isi pins s σ H xs us Q inv rel ⟨x, c, t, u, b, ex, cls, ty, kit, q⟩
  · subst ex
    obtain ⟨w1, w2, rfl, rel1, rel2⟩ := vals2 rel
    obtain rfl := cls.eq rel2
    cases rel1
    obtain ⟨hs, get, exact_, _⟩ := inv.frzT look
    exact PySem.W.kia_one PySem.W.kitx_dict inv.kIn ⟨o, get, exact_.1⟩ kit (fun z => nomatch z) fun tk => ⟨.bl b, H, inv.tok tk, rfl, q⟩
theorem ty_of {bs : List Nat} {ρ : List Addr} {F N H : Hp} {S : Store} {v : V} {w : W} {T : String} (s : Sim g bs ρ F N S H) (r : Is g.K ρ F v w) (h : tyW S w = some T) : TyD g.K H v (.type T) := by
  unfold tyW at h
  split at h <;> try cases h
  · rw [is_non r]; exact .inl (.base .non)
  · rw [is_bl r]; exact .inl (.base (.bl _))
  · rw [is_int r]; exact .inl (.base (.int _))
  · rw [is_str r]; exact .inl (.base (.str _))
  · cases r with
    | dat r => cases r with
      | lst q _ => exact .inl (.base (.lst (s.ex _ _ q)))
  · cases r with
    | dat r => cases r with
      | tup q _ => exact .inl (.base (.tup (s.ex _ _ q)))
      | own q _ _ => obtain ⟨o, its, n, q, c, _⟩ := q; exact .inl (.kTuple q c)
  · cases r with
    | dat r => cases r with
      | dicK q _ => exact .inl (.fDict (s.ex _ _ q))
      | dicT q _ => exact .inr ⟨_, _, _, rfl, s.ex _ _ q, rfl⟩
  · cases r with
    | tw q _ =>
      rcases q with (q | ⟨o, q⟩) | ⟨o, its, n, q, c, _⟩
      · exact .inl (.base (.tup (s.ex _ _ q)))
      · exact .inl (.fTuple (s.ex _ _ q))
      · exact .inl (.kTuple q c)
  · cases r with
    | lw q _ =>
      rcases q with (q | ⟨o, q⟩) | ⟨o, its, n, q, c, _⟩
      · exact .inl (.base (.lst (s.ex _ _ q)))
      · exact .inl (.base (.frz (s.ex _ _ q)))
      · exact .inl (.kList q c)
  · split at h <;> try cases h
    · rename_i hn
      cases r with
      | loc hr => obtain ⟨vs, e, q⟩ := s.cell _ _ _ hn hr; exact .inl (.base (.lst e))
    · rename_i hn
      cases r with
      | loc hr =>
        rcases s.cell _ _ _ hn hr with ⟨kvs, e, q⟩ | ⟨kvs, e, q⟩
        · exact .inl (.base (.dK e))
        · exact .inl (.base (.dT e))
    · rename_i hn
      cases r with
      | loc hr =>
        rcases s.cell _ _ _ hn hr with ⟨o, kvs, e, _, q⟩ | ⟨o, kvs, e, _, q⟩
        · exact .inl (.fDict e)
        · exact .inr ⟨_, _, _, rfl, e, rfl⟩
def isiW (T : String) (S : Store) (w : W) : Option W := match tyW S w with
  | some t => (kitB t T).map .bl
  | none => none
def mIsi (T : String) (m : M W) : M W := fun bs env S => (m bs env S).bind fun w S1 => match isiW T S1 w with
  | some u => .ok u S1
  | none => .stuck
variable {B : WX} {a b c e : Expr} {es : List Expr} {ma mb mc : M W} {ms : M (List W)} {pos : Pos}
/-- isinstance with a name of a built-in type -/
theorem re_isi (hK : g.K = X.K) {x t : Str} {T : String} {p q : Pos} (hg : Gl X x) (hm : X.mg x = none) (hv : bootBuiltins x = some (.builtin "isinstance")) (ha : PE X a (rd g B ma)) (hg' : Gl X t) (hm' : X.mg t = none) (hv' : bootBuiltins t = some (.type T))
    (hn : x ≠ "__name__" := by decide) (hdb : (x == ("__debug__" : Str)) = false := by decide) (hn' : t ≠ "__name__" := by decide) (hdb' : (t == ("__debug__" : Str)) = false := by decide)
    (he : starEach [a, .Name t q] X.env = (false, eval a X.env) :: starEach [.Name t q] X.env := by rfl) (hpl : (backTo pos (starEach [.Name t q] X.env)).any (·.1) = false := by rfl) :
    PE X (.Call (.Name x p) [a, .Name t q] [] pos) (rd g B (mIsi T ma)) :=
  (pe_callB call_isiD hg hm hv (pa_cons ha (pa_cons (pe_bltn (v := .ty T) hg' hm' hv' rfl hn' hdb') pa_nil) he) hn hdb he hpl).imp fun σ H Q ⟨bs, ρ, F, N, env, S, s, e, p⟩ => by
    refine ⟨bs, ρ, F, N, env, S, s, e, (Post.bind p).imp fun x H1 ⟨ρ1, F1, wx, S1, g1, s1, r1, p1⟩ => ?_⟩
    show isiD X.K [x, .ty T] H1 Q
    split at p1
    · rename_i u hu
      unfold isiW at hu
      split at hu
      · rename_i t ht
        simp only [Option.map_eq_some_iff] at hu
        obtain ⟨b, hb, rfl⟩ := hu
        have ty := ty_of s1 r1 ht
        rw [hK] at ty
        exact ⟨x, .ty T, .type t, .type T, b, rfl, .ty T, ty, kit_ty hb, p1 ρ1 F1 H1 _ (Grow.refl _ _) s1 (.dat (.bl _))⟩
      · cases hu
    · exact p1.elim
end
end Rf

namespace Rf
open PySem L2

/-! ### statements -/
inductive SO where
  | nx (env : Env) (S : Store)
  | rt (w : W) (S : Store)
  | bk (env : Env) (S : Store)
  | ct (env : Env) (S : Store)
  | ex (c : Nat) (ws : List W) (env : Env) (S : Store)
  | stuck
abbrev MS := List Nat → Env → Store → SO
def Out.so {α : Type} (o : Out α) (env : Env) (f : α → Store → SO) : SO := match o with
  | .ok a S => f a S
  | .ex c ws S => .ex c ws env S
  | .stuck => .stuck
def PostS (g : Gx) (B : WX) (bs : List Nat) (ρ : List Addr) (F N : Hp) (D : Ends) : SO → Prop
  | .nx e S' => ∀ ρ' F' H' σ', Grow ρ F ρ' F' → Sim g bs ρ' F' N S' H' → EnvR g ρ' F' σ' e → D.nx σ' H'
  | .rt w S' => ∀ ρ' F' H' v, Grow ρ F ρ' F' → Sim g bs ρ' F' N S' H' → Is g.K ρ' F' v w → D.rt v H'
  | .bk e S' => ∀ ρ' F' H' σ', Grow ρ F ρ' F' → Sim g bs ρ' F' N S' H' → EnvR g ρ' F' σ' e → D.bk σ' H'
  | .ct e S' => ∀ ρ' F' H' σ', Grow ρ F ρ' F' → Sim g bs ρ' F' N S' H' → EnvR g ρ' F' σ' e → D.ct σ' H'
  | .ex c ws e S' => ∀ ρ' F' H' σ' d, Grow ρ F ρ' F' → Sim g bs ρ' F' N S' H' → EnvR g ρ' F' σ' e → ExR g c ρ' F' H' d ws → B (.ref (g.cls c)) d σ' H'
  | .stuck => False
def rdS (g : Gx) (B : WX) (m : MS) : TS := fun D σ H => ∃ bs ρ F N env S, Sim g bs ρ F N S H ∧ EnvR g ρ F σ env ∧ PostS g B bs ρ F N D (m bs env S)
section
variable {X : Cx} {g : Gx} {B : WX} {bs : List Nat} {ρ ρ1 : List Addr} {F F1 N : Hp} {D : Ends} {σ : L2.St}
theorem PostS.grow {o : SO} (gr : Grow ρ F ρ1 F1) (h : PostS g B bs ρ F N D o) : PostS g B bs ρ1 F1 N D o := by
  cases o with
  | nx e S => exact fun ρ' F' H' s' g1 => h ρ' F' H' s' (gr.trans g1)
  | rt e S => exact fun ρ' F' H' s' g1 => h ρ' F' H' s' (gr.trans g1)
  | bk e S => exact fun ρ' F' H' s' g1 => h ρ' F' H' s' (gr.trans g1)
  | ct e S => exact fun ρ' F' H' s' g1 => h ρ' F' H' s' (gr.trans g1)
  | ex c ws e S => exact fun ρ' F' H' s' d g1 => h ρ' F' H' s' d (gr.trans g1)
  | stuck => exact h
theorem PostS.out {α β : Type} {R : List Addr → Hp → β → α → Prop} {o : Out α} {env : Env} {f : α → Store → SO} (e : EnvR g ρ F σ env) (h : PostS g B bs ρ F N D (o.so env f)) :
    Post g B R bs ρ F N σ (fun v H1 => ∃ ρ' F' a S', Grow ρ F ρ' F' ∧ Sim g bs ρ' F' N S' H1 ∧ R ρ' F' v a ∧ PostS g B bs ρ' F' N D (f a S')) o := by
  cases o with
  | ok a S1 => exact fun ρ' F' H' v gr s' r => ⟨ρ', F', a, S1, gr, s', r, PostS.grow gr h⟩
  | ex c ws S1 => exact fun ρ' F' H' d gr s' r => h ρ' F' H' σ d gr s' (e.mono gr) r
  | stuck => exact h
variable {a b c e : Expr} {es : List Expr} {ma mb mc : M W} {ms : M (List W)} {pos : Pos} {st : Stmt} {rest : List Stmt}
/-- an expression alone -/
def sDrop (m : M W) : MS := fun bs env S => (m bs env S).so env fun _ S1 => .nx env S1
theorem rs_expr (h : PE X e (rd g B ma)) (hs : swapsWith e none pos.line X.env = pure false := by rfl) : PS X (.Expr e pos) (rdS g B (sDrop ma)) := (ps_expr h hs).imp fun D σ H ⟨bs, ρ, F, N, env, S, s, e, p⟩ => by
  refine ⟨bs, ρ, F, N, env, S, s, e, (PostS.out (R := RW g) e p).imp fun x H1 ⟨ρ1, F1, wx, S1, g1, s1, r1, p1⟩ => ?_⟩
  exact p1 ρ1 F1 H1 σ (Grow.refl _ _) s1 (e.mono g1)
def sRet (m : M W) : MS := fun bs env S => (m bs env S).so env fun w S1 => .rt w S1
theorem rs_ret (h : PE X e (rd g B ma)) : PS X (.Return (some e) pos) (rdS g B (sRet ma)) := (ps_ret h).imp fun D σ H ⟨bs, ρ, F, N, env, S, s, e, p⟩ => by
  refine ⟨bs, ρ, F, N, env, S, s, e, (PostS.out (R := RW g) e p).imp fun x H1 ⟨ρ1, F1, wx, S1, g1, s1, r1, p1⟩ => ?_⟩
  exact p1 ρ1 F1 H1 x (Grow.refl _ _) s1 r1
def sRetN : MS := fun _ _ S => .rt .non S
def sNil : MS := fun _ env S => .nx env S
def SO.andThen (o : SO) (f : Env → Store → SO) : SO := match o with
  | .nx env S => f env S
  | o => o
def sSeq (m n : MS) : MS := fun bs env S => (m bs env S).andThen fun env1 S1 => n bs env1 S1
theorem rss_nil : PSs X [] (rdS g B sNil) := pss_nil.imp fun D σ H ⟨bs, ρ, F, N, env, S, s, e, p⟩ => p ρ F H σ (Grow.refl _ _) s e
theorem rss_cons {m n : MS} (h : PS X st (rdS g B m)) (k : PSs X rest (rdS g B n)) : PSs X (st :: rest) (rdS g B (sSeq m n)) := (pss_cons h k).imp fun D σ H ⟨bs, ρ, F, N, env, S, s, e, p⟩ => by
  refine ⟨bs, ρ, F, N, env, S, s, e, ?_⟩
  unfold sSeq at p
  cases hm : m bs env S with
  | nx e1 S1 => rw [hm] at p; exact fun ρ' F' H' σ' gr s' e' => ⟨bs, ρ', F', N, e1, S1, s', e', PostS.grow gr p⟩
  | rt w S1 => rw [hm] at p; exact p
  | bk e1 S1 => rw [hm] at p; exact p
  | ct e1 S1 => rw [hm] at p; exact p
  | ex c ws e1 S1 => rw [hm] at p; exact p
  | stuck => rw [hm] at p; exact p
theorem rss_one {m : MS} (h : PS X st (rdS g B m)) : PSs X [st] (rdS g B m) := pss_one h
def sBrk : MS := fun _ env S => .bk env S
def sCnt : MS := fun _ env S => .ct env S
/-- what is never come to -/
def sNever : MS := fun _ _ _ => .stuck
def sIf (t : M Bool) (m n : MS) : MS := fun bs env S => (t bs env S).so env fun b S1 => if b = true then m bs env S1 else n bs env S1
theorem rs_if {t : M Bool} {m n : MS} {p q : List Stmt} (ht : PT X c (rdT g B t)) (hm : PSs X p (rdS g B m)) (hn : PSs X q (rdS g B n)) : PS X (.If c p q pos) (rdS g B (sIf t m n)) := (ps_if ht hm hn).imp fun D σ H ⟨bs, ρ, F, N, env, S, s, e, p⟩ => by
  refine ⟨bs, ρ, F, N, env, S, s, e, (PostS.out (R := RB) e p).imp fun x H1 ⟨ρ1, F1, wx, S1, g1, s1, r1, p1⟩ => ?_⟩
  cases r1
  cases x with
  | true => exact ⟨bs, ρ1, F1, N, env, S1, s1, e.mono g1, p1⟩
  | false => exact ⟨bs, ρ1, F1, N, env, S1, s1, e.mono g1, p1⟩

/-! ### targets -/
abbrev TM := W → M Env
abbrev TMs := List W → M Env
def PostG (g : Gx) (B : WX) (bs : List Nat) (ρ : List Addr) (F N : Hp) (σ : L2.St) (Q : L2.St → Hp → Prop) : Out Env → Prop
  | .ok e S' => ∀ ρ' F' H' σ', Grow ρ F ρ' F' → Sim g bs ρ' F' N S' H' → EnvR g ρ' F' σ' e → Q σ' H'
  | .ex c ws S' => ∀ ρ' F' H' d, Grow ρ F ρ' F' → Sim g bs ρ' F' N S' H' → ExR g c ρ' F' H' d ws → B (.ref (g.cls c)) d σ H'
  | .stuck => False
theorem PostG.grow {o : Out Env} {Q : L2.St → Hp → Prop} (gr : Grow ρ F ρ1 F1) (h : PostG g B bs ρ F N σ Q o) : PostG g B bs ρ1 F1 N σ Q o := by
  cases o with
  | ok e S => exact fun ρ' F' H' s' g1 => h ρ' F' H' s' (gr.trans g1)
  | ex c ws S => exact fun ρ' F' H' d g1 => h ρ' F' H' d (gr.trans g1)
  | stuck => exact h
def rdTg (g : Gx) (B : WX) (t : TM) : TG := fun v σ H Q => ∃ bs ρ F N env S w, Sim g bs ρ F N S H ∧ EnvR g ρ F σ env ∧ Is g.K ρ F v w ∧ PostG g B bs ρ F N σ Q (t w bs env S)
def rdTgs (g : Gx) (B : WX) (t : TMs) : TGs := fun vs σ H Q => ∃ bs ρ F N env S ws, Sim g bs ρ F N S H ∧ EnvR g ρ F σ env ∧ IsAll g.K ρ F vs ws ∧ PostG g B bs ρ F N σ Q (t ws bs env S)
def tName (i : Nat) : TM := fun w _ env S => .ok (env.set i (some w)) S
theorem rg_name {i : Nat} {x : Str} (hN : X.N.Nodup) (hi : X.N[i]? = some x := by rfl) (hx : Loc X.env.scope x := by first | exact Or.inl rfl | exact Or.inr rfl) (hf : X.fn x = true ∨ X.env.scope.names.lookup x = some .local := by first | exact .inl rfl | exact .inr rfl | assumption) : PG X (.Name x pos) (rdTg g B (tName i)) :=
  (pg_name hN hi hx hf).imp fun v σ H Q ⟨bs, ρ, F, N, env, S, w, s, e, r, p⟩ => p ρ F H _ (Grow.refl _ _) s (e.set i r)
def tNil : TMs := fun ws _ env S => match ws with
  | [] => .ok env S
  | _ => .stuck
def tCons (t : TM) (u : TMs) : TMs := fun ws bs env S => match ws with
  | w :: r => (t w bs env S).bind fun env1 S1 => u r bs env1 S1
  | [] => .stuck
/-- targets that never raise -/
def Calm (t : TM) : Prop := ∀ w bs env S c ws S1, t w bs env S ≠ .ex c ws S1
theorem rgs_nil : PGs X [] (rdTgs g B tNil) := ⟨fun pins s σ H vs us Q I rv ⟨bs, ρ, F, N, env, S, ws, s1, e, r, p⟩ => by
  refine pgs_nil.run pins s σ H vs us Q I rv ?_
  cases ws with
  | nil => cases r; exact ⟨rfl, p ρ F H σ (Grow.refl _ _) s1 e⟩
  | cons w ws => exact p.elim⟩
theorem rgs_cons {t : TM} {u : TMs} (h1 : PG X e (rdTg g B t)) (h2 : PGs X es (rdTgs g B u)) (hu : ∀ ws bs env S c us S1, u ws bs env S ≠ .ex c us S1)
    (hs : (assignEach (e :: es) X.env).map (·.2) = assign e X.env :: (assignEach es X.env).map (·.2) := by rfl) : PGs X (e :: es) (rdTgs g B (tCons t u)) := ⟨fun pins s σ H vs us Q I rv ⟨bs, ρ, F, N, env, S, ws, s1, e, r, p⟩ => by
  refine (pgs_cons h1 h2 hs).run pins s σ H vs us Q I rv ?_
  cases ws with
  | nil => exact p.elim
  | cons w ws =>
    cases r with
    | @cons v vs' _ _ ra rb =>
      refine ⟨v, vs', rfl, bs, ρ, F, N, env, S, w, s1, e, ra, ?_⟩
      unfold tCons at p
      cases ht : t w bs env S with
      | ok e1 S1 =>
        simp only [ht, Out.bind_ok] at p
        intro ρ' F' H' σ' gr s' e'
        refine ⟨bs, ρ', F', N, e1, S1, ws, s', e', rb.mono gr, ?_⟩
        cases hq : u ws bs e1 S1 with
        | ok e2 S2 => rw [hq] at p; exact fun ρ2 F2 H2 σ2 g2 => p ρ2 F2 H2 σ2 (gr.trans g2)
        | ex c us S2 => exact absurd hq (hu _ _ _ _ _ _ _)
        | stuck => rw [hq] at p; exact p
      | ex c us S1 => simp only [ht, Out.bind_ex] at p; exact p
      | stuck => simp only [ht, Out.bind_stuck] at p; exact p⟩
/-- a tuple of targets -/
def tTup (n : Nat) (t : TMs) : TM := fun w bs env S => match tupOf w with
  | some ws => if ws.length = n then t ws bs env S else .stuck
  | none => .stuck
theorem rg_tup (hK : g.K = X.K) {k : Nat} {t : TMs} {n : Nat} (hc : X.calm = true) (h : PGs X es (rdTgs g B t)) (hn : (assignEach es X.env).length = n := by rfl) (hst : (assignEach es X.env).findIdx? (·.1) = none := by rfl) :
    PG X (.Tuple es k pos) (rdTg g B (tTup n t)) := (pg_tup hc h hn hst).imp fun v σ H Q ⟨bs, ρ, F, N, env, S, w, s, e, r, p⟩ => by
  unfold tTup at p
  split at p
  · rename_i ws hw
    split at p
    · rename_i hl
      obtain ⟨a, vs, rfl, q, l⟩ := tup_of r hw
      rw [hK] at q
      exact ⟨a, vs, rfl, Same.sqT s.ex q, by rw [l.len]; exact hl, bs, ρ, F, N, env, S, ws, s, e, l, p⟩
    · exact p.elim
  · exact p.elim
/-- target = value -/
def sAsg (m : M W) (t : TM) : MS := fun bs env S => (m bs env S).so env fun w S1 => (t w bs env S1).so env fun env1 S2 => .nx env1 S2
theorem post_asg {o : Out Env} {env : Env} (e : EnvR g ρ F σ env) (h : PostS g B bs ρ F N D (o.so env fun env1 S2 => .nx env1 S2)) : PostG g B bs ρ F N σ D.nx o := by
  cases o with
  | ok e1 S1 => exact h
  | ex c ws S1 => exact fun ρ' F' H' d gr s' r => h ρ' F' H' σ d gr s' (e.mono gr) r
  | stuck => exact h
theorem rd_asg {m : M W} {t : TM} (D : Ends) (σ : L2.St) (H : Hp) (h : rdS g B (sAsg m t) D σ H) : tAsg (rd g B m) (rdTg g B t) D σ H := by
  obtain ⟨bs, ρ, F, N, env, S, s, e, p⟩ := h
  refine ⟨bs, ρ, F, N, env, S, s, e, (PostS.out (R := RW g) e p).imp fun x H1 ⟨ρ1, F1, wx, S1, g1, s1, r1, p1⟩ => ?_⟩
  exact ⟨bs, ρ1, F1, N, env, S1, wx, s1, e.mono g1, r1, post_asg (e.mono g1) p1⟩
theorem rs_asg {tg : Expr} {t : TM} (he : PE X e (rd g B ma)) (hg : PG X tg (rdTg g B t)) (hs : swapsWithSole [tg] e pos.line X.env = pure false := by rfl) (hw : swappedStores [tg] e X.env = pure none := by rfl)
    (h1 : (assignEach [tg] X.env).map (·.2) = [assign tg X.env] := by rfl) : PS X (.Assign [tg] e pos) (rdS g B (sAsg ma t)) := (ps_asg he hg hs hw h1).imp rd_asg
theorem rs_set {i : Nat} {x : Str} {pos' : Pos} (hN : X.N.Nodup) (he : PE X e (rd g B ma)) (hi : X.N[i]? = some x := by rfl) (hx : Loc X.env.scope x := by first | exact Or.inl rfl | exact Or.inr rfl) (hs : swapsWith e (some (.Name x pos')) pos.line X.env = pure false := by rfl)
    (hf : X.fn x = true ∨ X.env.scope.names.lookup x = some .local := by first | exact .inl rfl | exact .inr rfl | assumption) : PS X (.Assign [.Name x pos'] e pos) (rdS g B (sAsg ma (tName i))) :=
  (ps_set hN hi hx he hs hf).imp fun D σ H h => rdG_imp (rd_asg D σ H h) fun v H1 ⟨bs, ρ, F, N, env, S, w, s, e, r, p⟩ => p ρ F H1 _ (Grow.refl _ _) s (e.set i r)
/-- a, b = x, y -/
def sPar (i j : Nat) (ms : M (List W)) : MS := fun bs env S => (ms bs env S).so env fun ws S1 => match ws with
  | [w, u] => .nx ((env.set i (some w)).set j (some u)) S1
  | _ => .stuck
theorem rs_par {i j : Nat} {x y : Str} {px py pt : Pos} {kt k2 pt2} (hc : X.calm = true) (hN : X.N.Nodup) (hi : X.N[i]? = some x) (hj : X.N[j]? = some y) (hij : i ≠ j)
    (hx : X.env.scope.names.lookup x = some .local) (hy : X.env.scope.names.lookup y = some .local) (ha : PA X [a, b] (rdA g B ms))
    (hw : swappedStores [.Tuple [.Name x px, .Name y py] kt pt] (.Tuple [a, b] k2 pt2) X.env = pure (some [x, y]))
    (hs : swapsWithSole [.Tuple [.Name x px, .Name y py] kt pt] (.Tuple [a, b] k2 pt2) pos.line X.env = pure false := by rfl) :
    PS X (.Assign [.Tuple [.Name x px, .Name y py] kt pt] (.Tuple [a, b] k2 pt2) pos) (rdS g B (sPar i j ms)) := (ps_par hc hN hi hj hij hx hy ha hw hs).imp fun D σ H ⟨bs, ρ, F, N, env, S, s, e, p⟩ => by
  refine ⟨bs, ρ, F, N, env, S, s, e, (PostS.out (R := RWs g) e p).imp fun x H1 ⟨ρ1, F1, wx, S1, g1, s1, r1, p1⟩ => ?_⟩
  split at p1
  · obtain ⟨v, u, rfl, r2, r3⟩ := all_two r1
    exact ⟨v, u, rfl, p1 ρ1 F1 H1 _ (Grow.refl _ _) s1 (((e.mono g1).set i r2).set j r3)⟩
  · exact p1.elim
def sPar3 (i j l : Nat) (ms : M (List W)) : MS := fun bs env S => (ms bs env S).so env fun ws S1 => match ws with
  | [w, u, z] => .nx (((env.set i (some w)).set j (some u)).set l (some z)) S1
  | _ => .stuck
/-- name op= e -/
def sAug (i : Nat) (f : Op2) (m : M W) : MS := fun bs env S => match env[i]? with
  | some (some x) => (m bs env S).so env fun y S1 => match f bs x y S1 with
    | some (z, S2) => .nx (env.set i (some z)) S2
    | none => .stuck
  | _ => .stuck
end
end Rf

namespace Rf
open PySem L2

/-! ### what is walked -/
inductive Iter where
  | items (ws : List W)
  | cell (n : Nat)
  | zip (a b : Iter)
  | enm (a : Iter)
def Iter.fuel : Iter → Nat
  | .items ws => ws.length + 1
  | .cell _ => 100000
  | .zip a _ => a.fuel
  | .enm a => a.fuel
/-- the item of a turn: none: it stops; nothing at all: it cannot go on -/
def Iter.next (it : Iter) (i : Nat) (S : Store) : Option (Option W) := match it with
  | .items ws => some ws[i]?
  | .cell n => match S[n]? with
    | some (.lst ws) => some ws[i]?
    | _ => none
  | .zip a b => match a.next i S, b.next i S with
    | some (some x), some (some y) => some (some (mkTup [x, y]))
    | some none, some _ => some none
    | some _, some none => some none
    | _, _ => none
  | .enm a => match a.next i S with
    | some (some x) => some (some (mkTup [.int i, x]))
    | some none => some none
    | none => none
def WalkOk (g : Gx) (J : It) (ρ : List Addr) (F : Hp) (it : Iter) : Prop := ∀ bs ρ' F' N' S' H' i, Grow ρ F ρ' F' → Sim g bs ρ' F' N' S' H' → match it.next i S' with
  | some (some w) => J.go i H' ∧ ∀ x H2, J.yld i H' x H2 → ∃ F2, Grow ρ' F' ρ' F2 ∧ Sim g bs ρ' F2 N' S' H2 ∧ Is g.K ρ' F2 x w
  | some none => J.stop i H'
  | none => True
def PostI (g : Gx) (B : WX) (bs : List Nat) (ρ : List Addr) (F N : Hp) (σ : L2.St) (R : It → Hp → Prop) : Out Iter → Prop
  | .ok it S' => ∀ ρ' F' H' J, Grow ρ F ρ' F' → Sim g bs ρ' F' N S' H' → WalkOk g J ρ' F' it → R J H'
  | .ex c ws S' => ∀ ρ' F' H' d, Grow ρ F ρ' F' → Sim g bs ρ' F' N S' H' → ExR g c ρ' F' H' d ws → B (.ref (g.cls c)) d σ H'
  | .stuck => False
def rdI (g : Gx) (B : WX) (m : M Iter) : TI := fun σ H R => ∃ bs ρ F N env S, Sim g bs ρ F N S H ∧ EnvR g ρ F σ env ∧ PostI g B bs ρ F N σ R (m bs env S)
section
variable {X : Cx} {g : Gx} {B : WX} {bs : List Nat} {ρ ρ1 : List Addr} {F F1 N : Hp} {D : Ends} {σ : L2.St}
theorem Post.iter {α β : Type} {R : List Addr → Hp → β → α → Prop} {Rr : It → Hp → Prop} {o : Out α} {f : α → Store → Out Iter} (h : PostI g B bs ρ F N σ Rr (o.bind f)) :
    Post g B R bs ρ F N σ (fun v H1 => ∃ ρ' F' a S', Grow ρ F ρ' F' ∧ Sim g bs ρ' F' N S' H1 ∧ R ρ' F' v a ∧ PostI g B bs ρ' F' N σ Rr (f a S')) o := by
  cases o with
  | ok a S1 =>
    refine fun ρ' F' H' v gr s' r => ⟨ρ', F', a, S1, gr, s', r, ?_⟩
    simp only [Out.bind_ok] at h
    cases hf : f a S1 with
    | ok it S2 => rw [hf] at h; exact fun ρ2 F2 H2 J g2 => h ρ2 F2 H2 J (gr.trans g2)
    | ex c ws S2 => rw [hf] at h; exact fun ρ2 F2 H2 d g2 => h ρ2 F2 H2 d (gr.trans g2)
    | stuck => rw [hf] at h; exact h
  | ex c ws S1 => exact h
  | stuck => exact h
variable {a b c e tg : Expr} {es : List Expr} {ma mb mc : M W} {ms : M (List W)} {pos : Pos} {st : Stmt} {rest : List Stmt}
/-- a sequence's items: a tuple or frozen list as it is; a cell by its place -/
def iterT (w : W) : Option Iter := (tupOf w).map .items
def iterL (S : Store) (w : W) : Option Iter := match w with
  | .dat (.list ds) => some (.items (ds.map .dat))
  | .lw ws => some (.items ws)
  | .loc n => match S[n]? with
    | some (.lst _) => some (.cell n)
    | _ => none
  | _ => none
theorem walk_tup {a : Addr} {vs : List V} {ws : List W} (q : SqT g.K F a vs) (l : IsAll g.K ρ F vs ws) : WalkOk g (Itt g.K a) ρ F (.items ws) := by
  intro bs ρ' F' N' S' H' i gr s
  have q' : SqT g.K H' a vs := Same.sqT s.ex (Same.sqT gr.ex q)
  show match (some ws[i]? : Option (Option W)) with
    | some (some w) => _
    | some none => _
    | none => True
  cases hw : ws[i]? with
  | some w =>
    obtain ⟨v, hv, r⟩ := l.get hw
    refine ⟨⟨vs, v, q', hv⟩, fun x H2 ⟨e, h⟩ => ?_⟩
    subst e
    have := h vs q'
    rw [hv] at this; cases this
    exact ⟨F', Grow.refl _ _, s, r.mono gr⟩
  | none => exact ⟨vs, q', by rw [l.len]; exact List.getElem?_eq_none_iff.mp hw⟩
theorem walk_lst {a : Addr} {vs : List V} {ws : List W} (q : SqL g.K F a vs) (l : IsAll g.K ρ F vs ws) : WalkOk g (Itl g.K a) ρ F (.items ws) := by
  intro bs ρ' F' N' S' H' i gr s
  have q' : SqL g.K H' a vs := s.ex.seq (gr.ex.seq q)
  show match (some ws[i]? : Option (Option W)) with
    | some (some w) => _
    | some none => _
    | none => True
  cases hw : ws[i]? with
  | some w =>
    obtain ⟨v, hv, r⟩ := l.get hw
    refine ⟨⟨vs, v, q', hv⟩, fun x H2 ⟨e, h⟩ => ?_⟩
    subst e
    have := h vs q'
    rw [hv] at this; cases this
    exact ⟨F', Grow.refl _ _, s, r.mono gr⟩
  | none => exact ⟨vs, q', by rw [l.len]; exact List.getElem?_eq_none_iff.mp hw⟩
theorem walk_cell {a : Addr} {n : Nat} (hn : ρ[n]? = some a) : WalkOk g (Itl g.K a) ρ F (.cell n) := by
  intro bs ρ' F' N' S' H' i gr s
  have hn' := gr.at hn
  show match (match S'[n]? with
    | some (.lst ws) => some ws[i]?
    | _ => none : Option (Option W)) with
    | some (some w) => _
    | some none => _
    | none => True
  cases hc : S'[n]? with
  | none => trivial
  | some c =>
    cases c with
    | lst ws =>
      obtain ⟨vs, e, l⟩ := s.cell n _ _ hc hn'
      have q' : SqL g.K H' a vs := SqL.of e
      cases hw : ws[i]? with
      | some w =>
        obtain ⟨v, hv, r⟩ := l.get hw
        simp only [hw]
        refine ⟨⟨vs, v, q', hv⟩, fun x H2 ⟨e2, h⟩ => ?_⟩
        subst e2
        have := h vs q'
        rw [hv] at this; cases this
        exact ⟨F', Grow.refl _ _, s, r⟩
      | none => simp only [hw]; exact ⟨vs, q', by rw [l.len]; exact List.getElem?_eq_none_iff.mp hw⟩
    | dic _ => trivial
    | ins _ _ => trivial
    | fz _ => trivial
def mItT (m : M W) : M Iter := fun bs env S => (m bs env S).bind fun w S1 => match iterT w with
  | some it => .ok it S1
  | none => .stuck
def mItL (m : M W) : M Iter := fun bs env S => (m bs env S).bind fun w S1 => match iterL S1 w with
  | some it => .ok it S1
  | none => .stuck
/-- range -/
def rangeW (lo hi : Int) : List W := (List.range (hi - lo).toNat).map fun (i : Nat) => W.int (lo + (i : Int))
theorem walk_range {lo : Int} {n : Nat} : WalkOk g (Itr lo n) ρ F (.items ((List.range n).map fun (i : Nat) => W.int (lo + (i : Int)))) := by
  intro bs ρ' F' N' S' H' i gr s
  show match (some ((List.range n).map fun (i : Nat) => W.int (lo + (i : Int)))[i]? : Option (Option W)) with
    | some (some w) => _
    | some none => _
    | none => True
  rw [List.getElem?_map]
  by_cases h : i < n
  · rw [List.getElem?_range h]
    refine ⟨h, fun x H2 ⟨e, q⟩ => ?_⟩
    subst e q
    exact ⟨F', Grow.refl _ _, s, .dat (.int _)⟩
  · rw [List.getElem?_eq_none (by simpa using h)]
    show n ≤ i
    omega
/-- decided, but not by unfolding -/
@[irreducible] def rdec (n : Int) : Decidable (n < 4611686018427387904 ∧ -4611686018427387904 ≤ n) := inferInstance
def mRng1 (ms : M (List W)) : M Iter := fun bs env S => (ms bs env S).bind fun ws S1 => match ws with
  | [.dat (.int n)] => @ite _ (n < 4611686018427387904 ∧ -4611686018427387904 ≤ n) (rdec n) (.ok (.items (rangeW 0 n)) S1) .stuck
  | _ => .stuck
def mRng2 (ms : M (List W)) : M Iter := fun bs env S => (ms bs env S).bind fun ws S1 => match ws with
  | [.dat (.int i), .dat (.int n)] => @ite _ ((n < 4611686018427387904 ∧ -4611686018427387904 ≤ n) ∧ (i < 4611686018427387904 ∧ -4611686018427387904 ≤ i)) (@instDecidableAnd _ _ (rdec n) (rdec i)) (.ok (.items (rangeW i n)) S1) .stuck
  | _ => .stuck
theorem ri_range1 {p : Pos} (hg : Gl X "range") (hm : X.mg "range" = none) (ha : PA X [a] (rdA g B ms)) (hs : starEach [a] X.env = [(false, eval a X.env)] := by rfl) : PI X tg (.Call (.Name "range" p) [a] [] pos) (rdI g B (mRng1 ms)) :=
  (pi_range1 hg hm ha hs).imp fun σ H R ⟨bs, ρ, F, N, env, S, s, e, p⟩ => by
    refine ⟨bs, ρ, F, N, env, S, s, e, (Post.iter (R := RWs g) p).imp fun x H1 ⟨ρ1, F1, wx, S1, g1, s1, r1, p1⟩ => ?_⟩
    split at p1
    · split at p1
      · rename_i n hl
        obtain ⟨v, rfl, r2⟩ := all_one r1
        rw [is_int r2]
        refine ⟨n, rfl, by omega, by omega, p1 ρ1 F1 H1 _ (Grow.refl _ _) s1 ?_⟩
        have e : (n - 0).toNat = n.toNat := by simp
        unfold rangeW; rw [e]; exact walk_range
      · exact p1.elim
    · exact p1.elim
theorem ri_range2 {p : Pos} (hg : Gl X "range") (hm : X.mg "range" = none) (ha : PA X [a, b] (rdA g B ms)) (hs : starEach [a, b] X.env = [(false, eval a X.env), (false, eval b X.env)] := by rfl) (hs2 : starEach [b] X.env = [(false, eval b X.env)] := by rfl) :
    PI X tg (.Call (.Name "range" p) [a, b] [] pos) (rdI g B (mRng2 ms)) :=
  (pi_range2 hg hm ha hs hs2).imp fun σ H R ⟨bs, ρ, F, N, env, S, s, e, p⟩ => by
    refine ⟨bs, ρ, F, N, env, S, s, e, (Post.iter (R := RWs g) p).imp fun x H1 ⟨ρ1, F1, wx, S1, g1, s1, r1, p1⟩ => ?_⟩
    split at p1
    · split at p1
      · rename_i i n hl
        obtain ⟨v, u, rfl, r2, r3⟩ := all_two r1
        rw [is_int r2, is_int r3]
        exact ⟨i, n, rfl, ⟨by omega, by omega, by omega, by omega⟩, p1 ρ1 F1 H1 _ (Grow.refl _ _) s1 walk_range⟩
      · exact p1.elim
    · exact p1.elim

/-! ### for -/
/-- a body's end at a turn -/
def SO.turn (o : SO) (f : Env → Store → SO) : SO := match o with
  | .nx env S => f env S
  | .ct env S => f env S
  | .bk env S => .nx env S
  | o => o
def forG (it : Iter) (bd : W → MS) : Nat → Nat → MS
  | 0, _ => fun _ _ _ => .stuck
  | f + 1, i => fun bs env S => match it.next i S with
    | none => .stuck
    | some none => .nx env S
    | some (some w) => (bd w bs env S).turn fun e S1 => forG it bd f (i + 1) bs e S1
def tBody (t : TM) (m : MS) : W → MS := fun w bs env S => (t w bs env S).so env fun e S1 => m bs e S1
def sFor (mi : M Iter) (t : TM) (m : MS) : MS := fun bs env S => (mi bs env S).so env fun it S1 => forG it (tBody t m) it.fuel 0 bs env S1
theorem rs_for {mi : M Iter} {t : TM} {m : MS} {iter : Expr} {body : List Stmt} (hp : PassesOwn (model X.prog X.w) X.A X.env X.xe) (hc : X.calm = true) (hi : PI X tg iter (rdI g B mi)) (hg : PG X tg (rdTg g B t)) (hb : PSs X body (rdS g B m))
    (hs : ∀ x, foldedSetIterable iter X.env x = pure x := by intro _; rfl) : PS X (.For tg iter body [] pos) (rdS g B (sFor mi t m)) := (ps_for hp hc hi hg hb hs).imp fun D σ H ⟨bs, ρ, F, N, env, S, s, e, p⟩ => by
  refine ⟨bs, ρ, F, N, env, S, s, e, ?_⟩
  unfold sFor at p
  cases hm : mi bs env S with
  | stuck => rw [hm] at p; exact p
  | ex c ws S1 => rw [hm] at p; exact fun ρ' F' H' d gr s' r => p ρ' F' H' σ d gr s' (e.mono gr) r
  | ok it S1 =>
    rw [hm] at p
    intro ρ1 F1 H1 J g1 s1 wk
    have p1 : PostS g B bs ρ1 F1 N D (forG it (tBody t m) it.fuel 0 bs env S1) := PostS.grow g1 p
    refine ⟨fun i m' σ' H' => ∃ ρ' F' env' S', Grow ρ1 F1 ρ' F' ∧ Sim g bs ρ' F' N S' H' ∧ EnvR g ρ' F' σ' env' ∧ PostS g B bs ρ' F' N D (forG it (tBody t m) m' i bs env' S'), ⟨it.fuel, ρ1, F1, env, S1, Grow.refl _ _, s1, e.mono g1, p1⟩, ?_⟩
    rintro i m' σ' H' ⟨ρ', F', env', S', g', s', e', p'⟩
    cases m' with
    | zero => exact p'.elim
    | succ f =>
      unfold forG at p'
      have w := wk bs ρ' F' N S' H' i g' s'
      cases hx : it.next i S' with
      | none => rw [hx] at p'; exact p'.elim
      | some o =>
        cases o with
        | none => rw [hx] at p' w; exact .inl ⟨w, p' ρ' F' H' σ' (Grow.refl _ _) s' e'⟩
        | some x =>
          rw [hx] at p' w
          refine .inr ⟨w.1, fun σ2 H2 => ∃ ρ2 F2 env2 S2, Grow ρ' F' ρ2 F2 ∧ Sim g bs ρ2 F2 N S2 H2 ∧ EnvR g ρ2 F2 σ2 env2 ∧ PostS g B bs ρ2 F2 N D (forG it (tBody t m) f (i + 1) bs env2 S2), fun σ2 H2 ⟨ρ2, F2, env2, S2, g2, s2, e2, p2⟩ => ⟨f, Nat.lt_succ_self f, ρ2, F2, env2, S2, g'.trans g2, s2, e2, p2⟩, fun v H2 y => ?_⟩
          obtain ⟨F2, g2, s2, r2⟩ := w.2 v H2 y
          refine ⟨bs, ρ', F2, N, env', S', x, s2, e'.mono g2, r2, ?_⟩
          have p2 := PostS.grow g2 p'
          unfold tBody at p2
          cases ht : t x bs env' S' with
          | stuck => simp only [ht, Out.so, SO.turn] at p2; exact p2
          | ex c ws S3 => simp only [ht, Out.so, SO.turn] at p2; exact fun ρ3 F3 H3 d g3 s3 r3 => p2 ρ3 F3 H3 σ' d g3 s3 ((e'.mono g2).mono g3) r3
          | ok env3 S3 =>
            simp only [ht, Out.so] at p2
            intro ρ3 F3 H3 σ3 g3 s3 e3
            refine ⟨bs, ρ3, F3, N, env3, S3, s3, e3, ?_⟩
            have p3 := PostS.grow g3 p2
            cases ho : m bs env3 S3 with
            | nx e4 S4 => simp only [ho, SO.turn] at p3; exact fun ρ4 F4 H4 σ4 g4 s4 e4' => ⟨ρ4, F4, e4, S4, g2.trans (g3.trans g4), s4, e4', PostS.grow g4 p3⟩
            | ct e4 S4 => simp only [ho, SO.turn] at p3; exact fun ρ4 F4 H4 σ4 g4 s4 e4' => ⟨ρ4, F4, e4, S4, g2.trans (g3.trans g4), s4, e4', PostS.grow g4 p3⟩
            | bk e4 S4 => simp only [ho, SO.turn] at p3; exact p3
            | rt w4 S4 => simp only [ho, SO.turn] at p3; exact p3
            | ex c ws e4 S4 => simp only [ho, SO.turn] at p3; exact p3
            | stuck => simp only [ho, SO.turn] at p3; exact p3
end
end Rf

namespace Rf
open PySem L2

/-! ### what is hidden while it is made -/
section
variable {g : Gx} {bs : List Nat} {ρ : List Addr} {F N H : Hp} {S : Store} {D : Addr} {o : HO}
theorem Sim.freeN (s : Sim g bs ρ F N S H) (h : H D = none) : F D = none ∧ N D = none ∧ D ∉ ρ :=
  ⟨s.ex.free h, s.hid.free h, fun z => by obtain ⟨o, e⟩ := s.has z; rw [h] at e; cases e⟩
theorem Sim.hide (s : Sim g bs ρ F N S H) (h : H D = none) (hl : Mu (some o) := by exact True.intro) : Sim g bs ρ F (upd N D o) S (upd H D o) := by
  obtain ⟨h1, h2, h3⟩ := s.freeN h
  refine ⟨s.len, s.nd, fun a u e => ?_, s.fr, fun n c a e1 e2 => ?_, fun a u e => ?_, fun a u e => ?_, (fun a u e => by
    by_cases z : a = D
    · subst z; rw [upd_same] at e; cases e; exact hl
    · rw [upd_ne z] at e; exact s.nl a u e), s.bot, tabs_new h s.tab, s.nt⟩
  · rw [upd_ne (ne_of_none e h1)]; exact s.ex a u e
  · exact (s.cell n c a e1 e2).mono (Grow.refl _ _) (by rw [upd_ne (ne_mem (List.mem_of_getElem? e2) h3)])
  · by_cases z : a = D
    · subst z; rw [upd_same] at e ⊢; exact e
    · rw [upd_ne z] at e ⊢; exact s.hid a u e
  · by_cases z : a = D
    · subst z; exact ⟨h1, h3⟩
    · rw [upd_ne z] at e; exact s.nf a u e
theorem Sim.hidNT (s : Sim g bs ρ F (upd N D o) S H) : ∀ u, H D = some u → NT u := fun u e => by
  have h := s.hid D o upd_same
  rw [h] at e; cases e
  exact (s.nl D o upd_same).nt
theorem Sim.rehide {o' : HO} (s : Sim g bs ρ F (upd N D o) S H) (hl : Mu (some o') := by exact True.intro) : Sim g bs ρ F (upd N D o') S (upd H D o') := by
  obtain ⟨h1, h3⟩ := s.nf D o upd_same
  refine ⟨s.len, s.nd, fun a u e => ?_, s.fr, fun n c a e1 e2 => ?_, fun a u e => ?_, fun a u e => ?_, (fun a u e => by
    by_cases z : a = D
    · subst z; rw [upd_same] at e; cases e; exact hl
    · rw [upd_ne z] at e; exact s.nl a u (by rw [upd_ne z]; exact e)), s.bot, tabs_put s.hidNT s.tab, s.nt⟩
  · rw [upd_ne (ne_of_none e h1)]; exact s.ex a u e
  · exact (s.cell n c a e1 e2).mono (Grow.refl _ _) (by rw [upd_ne (ne_mem (List.mem_of_getElem? e2) h3)])
  · by_cases z : a = D
    · subst z; rw [upd_same] at e ⊢; exact e
    · rw [upd_ne z] at e ⊢; exact s.hid a u (by rw [upd_ne z]; exact e)
  · by_cases z : a = D
    · subst z; exact ⟨h1, h3⟩
    · exact s.nf a u (by rw [upd_ne z] at e ⊢; exact e)
theorem Sim.showF (s : Sim g bs ρ F (upd N D o) S H) (hn : N D = none) : Sim g bs ρ (upd F D o) N S H ∧ Grow ρ F ρ (upd F D o) := by
  obtain ⟨h1, h3⟩ := s.nf D o upd_same
  have gr : Grow ρ F ρ (upd F D o) := ⟨⟨[], by simp⟩, same_new h1⟩
  refine ⟨⟨s.len, s.nd, fun a u e => ?_, fun n c a e1 e2 e3 => ?_, fun n c a e1 e2 => (s.cell n c a e1 e2).mono gr rfl, fun a u e => ?_, fun a u e => ?_, (fun a u e => s.nl a u (by rw [upd_ne (ne_of_none e hn)]; exact e)), s.bot, s.tab, nt_upd s.nt (s.nl D o upd_same).nt.1⟩, gr⟩
  · by_cases z : a = D
    · subst z; rw [upd_same] at e; rw [← e]; exact s.hid a o upd_same
    · rw [upd_ne z] at e; exact s.ex a u e
  · rw [upd_ne (ne_mem (List.mem_of_getElem? e2) h3)]; exact s.fr n c a e1 e2 e3
  · exact s.hid a u (by rw [upd_ne (ne_of_none e hn)]; exact e)
  · have z := ne_of_none e hn
    rw [upd_ne z]; exact s.nf a u (by rw [upd_ne z]; exact e)
theorem Sim.showC {c : Cell} (s : Sim g bs ρ F (upd N D o) S H) (hn : N D = none) (hc : CellOk g (ρ ++ [D]) F H D c) : Sim g bs (ρ ++ [D]) F N (S ++ [c]) H ∧ Grow ρ F (ρ ++ [D]) F := by
  obtain ⟨h1, h3⟩ := s.nf D o upd_same
  have gr : Grow ρ F (ρ ++ [D]) F := ⟨⟨[D], rfl⟩, Same.refl F⟩
  refine ⟨⟨by simp [s.len], ?_, s.ex, fun n c' a e1 e2 e3 => ?_, fun n c' a e1 e2 => ?_, fun a u e => ?_, fun a u e => ?_, (fun a u e => s.nl a u (by rw [upd_ne (ne_of_none e hn)]; exact e)), fun b hb => ?_, s.tab, s.nt⟩, gr⟩
  · rw [List.nodup_append]; exact ⟨s.nd, by simp, fun a ha b hb z => by simp at hb; subst hb; subst z; exact h3 ha⟩
  · by_cases hl : n < S.length
    · rw [List.getElem?_append_left hl] at e1
      rw [List.getElem?_append_left (by rw [s.len]; exact hl)] at e2
      exact s.fr n c' a e1 e2 e3
    · have hl2 := (List.getElem?_eq_some_iff.mp e1).1
      have e : n = S.length := by simp at hl2; omega
      subst e
      rw [← s.len] at e2; simp at e2
      subst e2; exact h1
  · by_cases hl : n < S.length
    · rw [List.getElem?_append_left hl] at e1
      rw [List.getElem?_append_left (by rw [s.len]; exact hl)] at e2
      exact (s.cell n c' a e1 e2).mono gr rfl
    · have hl2 := (List.getElem?_eq_some_iff.mp e1).1
      have e : n = S.length := by simp at hl2; omega
      subst e
      simp at e1
      rw [← s.len] at e2; simp at e2
      subst e1; subst e2
      exact hc
  · exact s.hid a u (by rw [upd_ne (ne_of_none e hn)]; exact e)
  · have z := ne_of_none e hn
    have w := s.nf a u (by rw [upd_ne z]; exact e)
    refine ⟨w.1, fun ha => ?_⟩
    rcases List.mem_append.mp ha with ha | ha
    · exact w.2 ha
    · simp at ha; exact z ha
  · obtain ⟨b1, b2⟩ := s.bot b hb
    refine ⟨by simp; omega, fun k c' hk e => b2 k c' hk ?_⟩
    rw [List.getElem?_append_left (by omega)] at e
    exact e
/-- a list that was hidden comes to light -/
theorem show_ok {k : Bool} {vs : List V} {ws : List W} {Q : VK} (s : Sim g bs ρ F (upd N D (.lst vs)) S H) (hn : N D = none) (r : IsAll g.K ρ F vs ws)
    (h : ∀ ρ' F' H' v, Grow ρ F ρ' F' → Sim g bs ρ' F' N (newL k ws S).2 H' → Is g.K ρ' F' v (newL k ws S).1 → Q v H') : Q (.ref D) H := by
  cases k with
  | true =>
    obtain ⟨s', gr⟩ := s.showC (c := .lst ws) hn ⟨vs, s.hid D _ upd_same, r.mono ⟨⟨[D], rfl⟩, Same.refl F⟩⟩
    refine h _ _ _ _ gr s' (.loc ?_)
    show (ρ ++ [D])[S.length]? = some D
    rw [← s.len]; simp
  | false =>
    obtain ⟨s', gr⟩ := s.showF hn
    exact h _ _ _ _ gr s' (is_mkLst upd_same (r.mono gr))
end

/-! ### targets of comprehensions -/
def wipeE (env : Env) : List Nat → Env
  | [] => env
  | v :: vs => (wipeE env vs).set v none
theorem EnvR.clr {g : Gx} {ρ : List Addr} {F : Hp} {σ : L2.St} {env : Env} (e : EnvR g ρ F σ env) (i : Nat) : EnvR g ρ F (σ.set i none) (env.set i none) := by
  refine ⟨by simp [e.len], fun j x hj => ?_, e.more⟩
  by_cases z : i = j
  · subst z
    have hl := (List.getElem?_eq_some_iff.mp hj).1
    simp only [List.length_set] at hl
    rw [List.getElem?_set_self hl] at hj
    cases hj
  · rw [List.getElem?_set_ne z] at hj ⊢
    exact e.at_ j x hj
theorem EnvR.wipe {g : Gx} {ρ : List Addr} {F : Hp} {σ : L2.St} {env : Env} (e : EnvR g ρ F σ env) : ∀ vs : List Nat, EnvR g ρ F (wipe σ vs) (wipeE env vs)
  | [] => e
  | v :: vs => (EnvR.wipe e vs).clr v
theorem set_wipe {σ : L2.St} {i : Nat} {x : Option V} : ∀ {vs : List Nat}, i ∈ vs → wipe (σ.set i x) vs = wipe σ vs
  | v :: vs, h => by
    unfold wipe
    by_cases z : i ∈ vs
    · rw [set_wipe z]
    · have hv : i = v := by
        rcases List.mem_cons.mp h with h | h
        · exact h
        · exact absurd h z
      subst hv
      have : wipe (σ.set i x) vs = (wipe σ vs).set i x := by
        clear h
        induction vs with
        | nil => rfl
        | cons u us ih =>
          unfold wipe
          rw [ih (fun h => z (List.mem_cons_of_mem _ h)), List.set_comm]
          exact fun h => z (by rw [h]; exact List.mem_cons_self ..)
      rw [this, List.set_set]
def rdTc (g : Gx) (B : WX) (vs : List Nat) (t : TM) : TG := fun v σ H Q => ∃ bs ρ F N env S w, Sim g bs ρ F N S H ∧ EnvR g ρ F σ env ∧ Is g.K ρ F v w ∧ PostG g B bs ρ F N σ (fun σ' H' => wipe σ' vs = wipe σ vs → Q σ' H') (t w bs env S)
def rdTcs (g : Gx) (B : WX) (vs : List Nat) (t : TMs) : TGs := fun us σ H Q => ∃ bs ρ F N env S ws, Sim g bs ρ F N S H ∧ EnvR g ρ F σ env ∧ IsAll g.K ρ F us ws ∧ PostG g B bs ρ F N σ (fun σ' H' => wipe σ' vs = wipe σ vs → Q σ' H') (t ws bs env S)
section
variable {X : Cx} {g : Gx} {B : WX} {bs : List Nat} {ρ ρ1 : List Addr} {F F1 N : Hp} {σ : L2.St} {vs : List Nat} {e : Expr} {es : List Expr} {pos : Pos}
theorem rc_name {i : Nat} {x : Str} (hN : X.N.Nodup) (hv : i ∈ vs := by decide) (hi : X.N[i]? = some x := by rfl) (hx : Loc X.env.scope x := by first | exact Or.inl rfl | exact Or.inr rfl) (hf : X.fn x = true ∨ X.env.scope.names.lookup x = some .local := by first | exact .inl rfl | exact .inr rfl | assumption) : PG X (.Name x pos) (rdTc g B vs (tName i)) :=
  (pg_name hN hi hx hf).imp fun v σ H Q ⟨bs, ρ, F, N, env, S, w, s, e, r, p⟩ => p ρ F H _ (Grow.refl _ _) s (e.set i r) (set_wipe hv)
theorem rcs_nil : PGs X [] (rdTcs g B vs tNil) := ⟨fun pins s σ H us zs Q I rv ⟨bs, ρ, F, N, env, S, ws, s1, e, r, p⟩ => by
  refine pgs_nil.run pins s σ H us zs Q I rv ?_
  cases ws with
  | nil => cases r; exact ⟨rfl, p ρ F H σ (Grow.refl _ _) s1 e rfl⟩
  | cons w ws => exact p.elim⟩
theorem rcs_cons {t : TM} {u : TMs} (h1 : PG X e (rdTc g B vs t)) (h2 : PGs X es (rdTcs g B vs u)) (hu : ∀ ws bs env S c us S1, u ws bs env S ≠ .ex c us S1)
    (hs : (assignEach (e :: es) X.env).map (·.2) = assign e X.env :: (assignEach es X.env).map (·.2) := by rfl) : PGs X (e :: es) (rdTcs g B vs (tCons t u)) := ⟨fun pins s σ H us zs Q I rv ⟨bs, ρ, F, N, env, S, ws, s1, e, r, p⟩ => by
  refine (pgs_cons h1 h2 hs).run pins s σ H us zs Q I rv ?_
  cases ws with
  | nil => exact p.elim
  | cons w ws =>
    cases r with
    | @cons v vs' _ _ ra rb =>
      refine ⟨v, vs', rfl, bs, ρ, F, N, env, S, w, s1, e, ra, ?_⟩
      unfold tCons at p
      cases ht : t w bs env S with
      | ok e1 S1 =>
        simp only [ht, Out.bind_ok] at p
        intro ρ' F' H' σ' gr s' e' w1
        refine ⟨bs, ρ', F', N, e1, S1, ws, s', e', rb.mono gr, ?_⟩
        cases hq : u ws bs e1 S1 with
        | ok e2 S2 => rw [hq] at p; exact fun ρ2 F2 H2 σ2 g2 s2 e2' w2 => p ρ2 F2 H2 σ2 (gr.trans g2) s2 e2' (w2.trans w1)
        | ex c us S2 => exact absurd hq (hu _ _ _ _ _ _ _)
        | stuck => rw [hq] at p; exact p
      | ex c us S1 => simp only [ht, Out.bind_ex] at p; exact p
      | stuck => simp only [ht, Out.bind_stuck] at p; exact p⟩
theorem rc_tup (hK : g.K = X.K) {k : Nat} {t : TMs} {n : Nat} (hc : X.calm = true) (h : PGs X es (rdTcs g B vs t)) (hn : (assignEach es X.env).length = n := by rfl) (hst : (assignEach es X.env).findIdx? (·.1) = none := by rfl) :
    PG X (.Tuple es k pos) (rdTc g B vs (tTup n t)) := (pg_tup hc h hn hst).imp fun v σ H Q ⟨bs, ρ, F, N, env, S, w, s, e, r, p⟩ => by
  unfold tTup at p
  split at p
  · rename_i ws hw
    split at p
    · rename_i hl
      obtain ⟨a, vs, rfl, q, l⟩ := tup_of r hw
      rw [hK] at q
      exact ⟨a, vs, rfl, Same.sqT s.ex q, by rw [l.len]; exact hl, bs, ρ, F, N, env, S, ws, s, e, l, p⟩
    · exact p.elim
  · exact p.elim

/-! ### comprehensions -/
def NoB : WX := fun _ _ _ _ => False
def mYes : M Bool := fun _ _ S => .ok true S
theorem rts_nil {B : WX} : PTs X [] (rdT g B mYes) := ⟨fun pins s σ H Q I ⟨bs, ρ, F, N, env, S, s1, e, p⟩ => pts_nil.run pins s σ H Q I (p ρ F H true (Grow.refl _ _) s1 rfl)⟩
theorem rts_one {B : WX} {c : Expr} {m : M Bool} (h : PT X c (rdT g B m)) : PTs X [c] (rdT g B m) := pts_one h
/-- no exception goes out of a comprehension's turns -/
def Out.bindC {α β : Type} : Out α → (α → Store → Out β) → Out β
  | .ok a S, f => f a S
  | _, _ => .stuck
@[simp] theorem Out.bindC_ok {α β : Type} (a : α) (S : Store) (f : α → Store → Out β) : (Out.ok a S).bindC f = f a S := rfl
def compG (it : Iter) (t : TM) (c : M Bool) (e : M W) : Nat → Nat → List W → M (List W)
  | 0, _, _ => fun _ _ _ => .stuck
  | f + 1, i, acc => fun bs env S => match it.next i S with
    | none => .stuck
    | some none => .ok acc S
    | some (some w) => (t w bs env S).bindC fun env1 S1 => (c bs env1 S1).bindC fun b S2 =>
      if b = true then (e bs env1 S2).bindC fun y S3 => if acc.length < 100000 then compG it t c e f (i + 1) (acc ++ [y]) bs env S3 else .stuck
      else compG it t c e f (i + 1) acc bs env S2
def mComp (k : Bool) (mi : M Iter) (vs : List Nat) (t : TM) (c : M Bool) (e : M W) : M W := fun bs env S => (mi bs env S).bind fun it S1 =>
  (compG it t c e it.fuel 0 [] bs (wipeE env vs) S1).bind fun ws S2 => .ok (newL k ws S2).1 (newL k ws S2).2
theorem Post.bindC {α β γ δ ε : Type} {R1 : List Addr → Hp → β → α → Prop} {R2 : List Addr → Hp → δ → γ → Prop} {σ' : L2.St} {Q : δ → Hp → Prop} {o : Out α} {f : α → Store → Out ε} {f2 : ε → Store → Out γ} {N' : Hp}
    (h : Post g B R2 bs ρ F N σ Q ((o.bindC f).bind f2)) :
    Post g NoB R1 bs ρ F N' σ' (fun v H1 => ∃ ρ' F' a S', Grow ρ F ρ' F' ∧ Sim g bs ρ' F' N' S' H1 ∧ R1 ρ' F' v a ∧ Post g B R2 bs ρ' F' N σ Q ((f a S').bind f2)) o := by
  cases o with
  | ok a S1 => exact fun ρ' F' H' v gr s' r => ⟨ρ', F', a, S1, gr, s', r, Post.grow gr h⟩
  | ex c ws S1 => exact h.elim
  | stuck => exact h.elim
end
end Rf

namespace Rf
open PySem L2
section
variable {X : Cx} {g : Gx} {B : WX} {bs : List Nat} {ρ ρ1 : List Addr} {F F1 N N' : Hp} {σ σ' : L2.St} {vs : List Nat} {e : Expr} {es : List Expr} {pos : Pos}
theorem PostG.bindC {γ δ ε : Type} {R2 : List Addr → Hp → δ → γ → Prop} {Q : δ → Hp → Prop} {o : Out Env} {f : Env → Store → Out ε} {f2 : ε → Store → Out γ}
    (h : Post g B R2 bs ρ F N σ Q ((o.bindC f).bind f2)) {Q' : L2.St → Hp → Prop}
    (i : ∀ ρ' F' H' σ2 e2 S', Grow ρ F ρ' F' → Sim g bs ρ' F' N' S' H' → EnvR g ρ' F' σ2 e2 → Post g B R2 bs ρ' F' N σ Q ((f e2 S').bind f2) → Q' σ2 H') : PostG g NoB bs ρ F N' σ' Q' o := by
  cases o with
  | ok a S1 => exact fun ρ' F' H' σ2 gr s' r => i ρ' F' H' σ2 a S1 gr s' r (Post.grow gr h)
  | ex c ws S1 => exact h.elim
  | stuck => exact h.elim
theorem wipe_wipe {ws : List Nat} : ∀ {vs : List Nat}, (∀ i ∈ vs, i ∈ ws) → wipe (wipe σ vs) ws = wipe σ ws
  | [], _ => rfl
  | v :: vs, h => by
    show wipe ((wipe σ vs).set v none) ws = _
    rw [set_wipe (h v (List.mem_cons_self ..)), wipe_wipe fun i hi => h i (List.mem_cons_of_mem _ hi)]
def finL (k : Bool) : List W → Store → Out W := fun ws S2 => .ok (newL k ws S2).1 (newL k ws S2).2
theorem IsAll.snoc {K : PySem.W.Frag} {v : V} {w : W} : ∀ {ws : List W} {us : List V}, IsAll K ρ F us ws → Is K ρ F v w → IsAll K ρ F (us ++ [v]) (ws ++ [w])
  | [], _, h, r => by cases h; exact .cons r .nil
  | _ :: _, _, h, r => by
    cases h with
    | cons a b => exact .cons a (IsAll.snoc b r)
/-- a turn's end: the item is put behind -/
theorem comp_put {D : Addr} {accv : List V} {acc : List W} {S : Store} {H : Hp} {yv : V} {y : W} (s : Sim g bs ρ F (upd N D (.lst accv)) S H) (l : IsAll g.K ρ F accv acc) (r : Is g.K ρ F yv y) (hl : acc.length < 100000) :
    ∃ a, H D = some (.lst a) ∧ a.length < sizeLine ∧ Sim g bs ρ F (upd N D (.lst (a ++ [yv]))) S (upd H D (.lst (a ++ [yv]))) ∧ IsAll g.K ρ F (a ++ [yv]) (acc ++ [y]) :=
  ⟨accv, s.hid D _ upd_same, by rw [l.len]; exact Nat.lt_of_lt_of_le hl (by decide), s.rehide, l.snoc r⟩
theorem rd_lc {k : Bool} {mi : M Iter} {t : TM} {mc : M Bool} {me : M W} {vs : List Nat} (σ : L2.St) (H : Hp) (Q : VK) (h : rd g B (mComp k mi vs t mc me) σ H Q) : tLc (rdI g B mi) (rdTc g NoB vs t) (rdT g NoB mc) (rd g NoB me) vs σ H Q := by
  obtain ⟨bs, ρ, F, N, env, S, s, e, p⟩ := h
  refine ⟨bs, ρ, F, N, env, S, s, e, ?_⟩
  unfold mComp at p
  cases hm : mi bs env S with
  | stuck => rw [hm] at p; exact p
  | ex c ws S1 => rw [hm] at p; exact p
  | ok it S1 =>
    rw [hm] at p
    intro ρ1 F1 H1 J g1 s1 wk D hD
    obtain ⟨fD, nD, rD⟩ := s1.freeN hD
    have p1 : Post g B (RW g) bs ρ1 F1 N σ Q ((compG it t mc me it.fuel 0 [] bs (wipeE env vs) S1).bind (finL k)) := Post.grow g1 p
    have ev := (e.mono g1).wipe vs
    refine ⟨fun i m H' => ∃ ρ' F' accv acc S', Grow ρ1 F1 ρ' F' ∧ Sim g bs ρ' F' (upd N D (.lst accv)) S' H' ∧ IsAll g.K ρ' F' accv acc ∧ Post g B (RW g) bs ρ' F' N σ Q ((compG it t mc me m i acc bs (wipeE env vs) S').bind (finL k)), ⟨it.fuel, ρ1, F1, [], [], S1, Grow.refl _ _, s1.hide hD, .nil, p1⟩, ?_⟩
    rintro i m H' ⟨ρ', F', accv, acc, S', g', s', l', p'⟩
    cases m with
    | zero => exact p'.elim
    | succ f =>
      unfold compG at p'
      have w := wk bs ρ' F' _ S' H' i g' s'
      cases hx : it.next i S' with
      | none => rw [hx] at p'; exact p'.elim
      | some o =>
        cases o with
        | none => simp only [hx] at p' w; exact .inl ⟨w, show_ok s' nD l' p'⟩
        | some x =>
          simp only [hx] at p' w
          refine .inr ⟨w.1, fun H2 => ∃ ρ2 F2 accv acc S2, Grow ρ' F' ρ2 F2 ∧ Sim g bs ρ2 F2 (upd N D (.lst accv)) S2 H2 ∧ IsAll g.K ρ2 F2 accv acc ∧ Post g B (RW g) bs ρ2 F2 N σ Q ((compG it t mc me f (i + 1) acc bs (wipeE env vs) S2).bind (finL k)), fun H2 ⟨ρ2, F2, accv, acc, S2, g2, s2, l2, p2⟩ => ⟨f, Nat.lt_succ_self f, ρ2, F2, accv, acc, S2, g'.trans g2, s2, l2, p2⟩, fun v H2 y => ?_⟩
          obtain ⟨F2, g2, s2, r2⟩ := w.2 v H2 y
          have p2 := Post.grow g2 p'
          refine ⟨bs, ρ', F2, _, _, S', x, s2, (ev.mono g').mono g2, r2, PostG.bindC p2 fun ρ3 F3 H3 σ3 e3 S3 g3 s3 ev3 p3 w3 => ⟨w3.trans (wipe_wipe fun _ h => h), ?_⟩⟩
          refine ⟨bs, ρ3, F3, _, e3, S3, s3, ev3, (Post.bindC (R1 := RB) p3).imp fun b H4 ⟨ρ4, F4, b', S4, g4, s4, r4, p4⟩ => ?_⟩
          cases r4
          cases b with
          | false => exact ⟨ρ4, F4, accv, acc, S4, (g2.trans g3).trans g4, s4, ((l'.mono g2).mono g3).mono g4, p4⟩
          | true =>
            simp only [if_true] at p4 ⊢
            refine ⟨bs, ρ4, F4, _, e3, S4, s4, ev3.mono g4, (Post.bindC (R1 := RW g) p4).imp fun yv H5 ⟨ρ5, F5, y', S5, g5, s5, r5, p5⟩ => ?_⟩
            split at p5
            · rename_i hl
              obtain ⟨a, e1, e2, e3, e4⟩ := comp_put s5 ((((l'.mono g2).mono g3).mono g4).mono g5) r5 hl
              exact ⟨a, e1, e2, ρ5, F5, _, _, S5, ((g2.trans g3).trans g4).trans g5, e3, e4, p5⟩
            · exact p5.elim
theorem re_lc {k : Bool} {elt tg iter : Expr} {ifs : List Expr} {scope : Scope} {own : List (Str × Nat)} {mi : M Iter} {t : TM} {mc : M Bool} {me : M W} (hc : X.calm = true) (hN : X.N.Nodup) (ok : BlkOk X.N X.env.scope scope own) (hi : PI X tg iter (rdI g B mi))
    (hg : ∀ (s : Shared) (H : Hp) (C : Addr) (cl : List (Str × Addr)) (fp : List Addr), PG (X.blk s H scope (compEnvC scope cl C X.env) fp) tg (rdTc g NoB (own.map (·.2)) t)) (ht : ∀ (s : Shared) (H : Hp) (C : Addr) (cl : List (Str × Addr)) (fp : List Addr), PTs (X.blk s H scope (compEnvC scope cl C X.env) fp) ifs (rdT g NoB mc))
    (he : ∀ (s : Shared) (H : Hp) (C : Addr) (cl : List (Str × Addr)) (fp : List Addr), PE (X.blk s H scope (compEnvC scope cl C X.env) fp) elt (rd g NoB me)) (hs : ∀ x, foldedSetIterable iter X.env x = pure x := by intro _; rfl) :
    PE X (.ListComp elt [⟨tg, iter, ifs, 0⟩] scope pos) (rd g B (mComp k mi (own.map (·.2)) t mc me)) := (pe_lc hc hN hi ok hg ht he hs).imp rd_lc
theorem rs_setLc {k : Bool} {i : Nat} {y : Str} {py spos : Pos} {elt tg iter : Expr} {ifs : List Expr} {scope : Scope} {own : List (Str × Nat)} {mi : M Iter} {t : TM} {mc : M Bool} {me : M W} (hc : X.calm = true) (hN : X.N.Nodup) (hy : X.N[i]? = some y) (hyl : X.env.scope.names.lookup y = some .local)
    (hsw : swapsWith (.ListComp elt [⟨tg, iter, ifs, 0⟩] scope pos) (some (.Name y py)) spos.line X.env = pure true) (ok : BlkOk X.N X.env.scope scope own) (hi : PI X tg iter (rdI g B mi))
    (hg : ∀ (s : Shared) (H : Hp) (C : Addr) (cl : List (Str × Addr)) (fp : List Addr), PG (X.blk s H scope (compEnvC scope cl C X.env) fp) tg (rdTc g NoB (own.map (·.2)) t)) (ht : ∀ (s : Shared) (H : Hp) (C : Addr) (cl : List (Str × Addr)) (fp : List Addr), PTs (X.blk s H scope (compEnvC scope cl C X.env) fp) ifs (rdT g NoB mc))
    (he : ∀ (s : Shared) (H : Hp) (C : Addr) (cl : List (Str × Addr)) (fp : List Addr), PE (X.blk s H scope (compEnvC scope cl C X.env) fp) elt (rd g NoB me)) (hs : ∀ x, foldedSetIterable iter X.env x = pure x := by intro _; rfl) :
    PS X (.Assign [.Name y py] (.ListComp elt [⟨tg, iter, ifs, 0⟩] scope pos) spos) (rdS g B (sAsg (mComp k mi (own.map (·.2)) t mc me) (tName i))) := (ps_setLc hc hN hy hyl hsw hi ok hg ht he hs).imp fun D σ H h =>
  rd_lc σ H _ (rdG_imp (rd_asg D σ H h) fun v H1 ⟨bs, ρ, F, N, env, S, w, s, e, r, p⟩ => p ρ F H1 _ (Grow.refl _ _) s (e.set i r))

/-! ### while -/
def whileG (c : M Bool) (b : MS) : Nat → MS
  | 0 => fun _ _ _ => .stuck
  | f + 1 => fun bs env S => (c bs env S).so env fun t S1 => if t = true then (b bs env S1).turn fun e S2 => whileG c b f bs e S2 else .nx env S1
end
end Rf

namespace Rf
open PySem L2
section
variable {X : Cx} {g : Gx} {B : WX} {bs : List Nat} {ρ ρ1 : List Addr} {F F1 N N' : Hp} {σ σ' : L2.St} {vs : List Nat} {e : Expr} {es : List Expr} {pos : Pos}
theorem Out.bindC_bind {α β γ : Type} (o : Out α) (f : α → Store → Out β) (h : β → Store → Out γ) : (o.bindC f).bind h = o.bindC fun a S => (f a S).bind h := by cases o <;> rfl
theorem PostI.bindC {γ δ ε : Type} {R2 : List Addr → Hp → δ → γ → Prop} {Q : δ → Hp → Prop} {o : Out Iter} {f : Iter → Store → Out ε} {f2 : ε → Store → Out γ}
    (h : Post g B R2 bs ρ F N σ Q ((o.bindC f).bind f2)) {R : It → Hp → Prop}
    (i : ∀ ρ' F' H' J it S', Grow ρ F ρ' F' → Sim g bs ρ' F' N' S' H' → WalkOk g J ρ' F' it → Post g B R2 bs ρ' F' N σ Q ((f it S').bind f2) → R J H') : PostI g NoB bs ρ F N' σ' R o := by
  cases o with
  | ok a S1 => exact fun ρ' F' H' J gr s' wk => i ρ' F' H' J a S1 gr s' wk (Post.grow gr h)
  | ex c ws S1 => exact h.elim
  | stuck => exact h.elim
theorem PostG.bindCC {γ δ ε : Type} {R2 : List Addr → Hp → δ → γ → Prop} {Q : δ → Hp → Prop} {o : Out Env} {f : Env → Store → Out ε} {f2 : ε → Store → Out γ}
    (h : Post g B R2 bs ρ F N σ Q ((o.bindC f).bindC f2)) {Q' : L2.St → Hp → Prop}
    (i : ∀ ρ' F' H' σ2 e2 S', Grow ρ F ρ' F' → Sim g bs ρ' F' N' S' H' → EnvR g ρ' F' σ2 e2 → Post g B R2 bs ρ' F' N σ Q ((f e2 S').bindC f2) → Q' σ2 H') : PostG g NoB bs ρ F N' σ' Q' o := by
  cases o with
  | ok a S1 => exact fun ρ' F' H' σ2 gr s' r => i ρ' F' H' σ2 a S1 gr s' r (Post.grow gr h)
  | ex c ws S1 => exact h.elim
  | stuck => exact h.elim
theorem Post.bindCC {α β γ δ ε : Type} {R1 : List Addr → Hp → β → α → Prop} {R2 : List Addr → Hp → δ → γ → Prop} {σ' : L2.St} {Q : δ → Hp → Prop} {o : Out α} {f : α → Store → Out ε} {f2 : ε → Store → Out γ} {N' : Hp}
    (h : Post g B R2 bs ρ F N σ Q ((o.bindC f).bindC f2)) :
    Post g NoB R1 bs ρ F N' σ' (fun v H1 => ∃ ρ' F' a S', Grow ρ F ρ' F' ∧ Sim g bs ρ' F' N' S' H1 ∧ R1 ρ' F' v a ∧ Post g B R2 bs ρ' F' N σ Q ((f a S').bindC f2)) o := by
  cases o with
  | ok a S1 => exact fun ρ' F' H' v gr s' r => ⟨ρ', F', a, S1, gr, s', r, Post.grow gr h⟩
  | ex c ws S1 => exact h.elim
  | stuck => exact h.elim
def compG2 (it : Iter) (t : TM) (c : M Bool) (mi1 : M Iter) (vs1 : List Nat) (t1 : TM) (c1 : M Bool) (e : M W) : Nat → Nat → List W → M (List W)
  | 0, _, _ => fun _ _ _ => .stuck
  | f + 1, i, acc => fun bs env S => match it.next i S with
    | none => .stuck
    | some none => .ok acc S
    | some (some w) => (t w bs env S).bindC fun env1 S1 => (c bs env1 S1).bindC fun b S2 =>
      if b = true then (mi1 bs env1 S2).bindC fun it1 S3 => (compG it1 t1 c1 e it1.fuel 0 acc bs (wipeE env1 vs1) S3).bindC fun acc' S4 => compG2 it t c mi1 vs1 t1 c1 e f (i + 1) acc' bs env S4
      else compG2 it t c mi1 vs1 t1 c1 e f (i + 1) acc bs env S2
def mComp2 (k : Bool) (mi : M Iter) (vs : List Nat) (t : TM) (c : M Bool) (mi1 : M Iter) (vs1 : List Nat) (t1 : TM) (c1 : M Bool) (e : M W) : M W := fun bs env S => (mi bs env S).bind fun it S1 =>
  (compG2 it t c mi1 vs1 t1 c1 e it.fuel 0 [] bs (wipeE env vs) S1).bind fun ws S2 => .ok (newL k ws S2).1 (newL k ws S2).2
theorem rd_lc2 {k : Bool} {mi mi1 : M Iter} {t t1 : TM} {mc mc1 : M Bool} {me : M W} {vs vs1 : List Nat} (σ : L2.St) (H : Hp) (Q : VK) (h : rd g B (mComp2 k mi vs t mc mi1 vs1 t1 mc1 me) σ H Q) :
    tLc2 (rdI g B mi) (rdTc g NoB vs t) (rdT g NoB mc) (rdI g NoB mi1) (rdTc g NoB vs1 t1) (rdT g NoB mc1) (rd g NoB me) vs vs1 σ H Q := by
  obtain ⟨bs, ρ, F, N, env, S, s, e, p⟩ := h
  refine ⟨bs, ρ, F, N, env, S, s, e, ?_⟩
  unfold mComp2 at p
  cases hm : mi bs env S with
  | stuck => rw [hm] at p; exact p
  | ex c ws S1 => rw [hm] at p; exact p
  | ok it S1 =>
    rw [hm] at p
    intro ρ1 F1 H1 J g1 s1 wk D hD
    obtain ⟨fD, nD, rD⟩ := s1.freeN hD
    have p1 : Post g B (RW g) bs ρ1 F1 N σ Q ((compG2 it t mc mi1 vs1 t1 mc1 me it.fuel 0 [] bs (wipeE env vs) S1).bind (finL k)) := Post.grow g1 p
    have ev := (e.mono g1).wipe vs
    refine ⟨fun i m H' => ∃ ρ' F' accv acc S', Grow ρ1 F1 ρ' F' ∧ Sim g bs ρ' F' (upd N D (.lst accv)) S' H' ∧ IsAll g.K ρ' F' accv acc ∧ Post g B (RW g) bs ρ' F' N σ Q ((compG2 it t mc mi1 vs1 t1 mc1 me m i acc bs (wipeE env vs) S').bind (finL k)), ⟨it.fuel, ρ1, F1, [], [], S1, Grow.refl _ _, s1.hide hD, .nil, p1⟩, ?_⟩
    rintro i m H' ⟨ρ', F', accv, acc, S', g', s', l', p'⟩
    cases m with
    | zero => exact p'.elim
    | succ f =>
      unfold compG2 at p'
      have w := wk bs ρ' F' _ S' H' i g' s'
      cases hx : it.next i S' with
      | none => rw [hx] at p'; exact p'.elim
      | some o =>
        cases o with
        | none => simp only [hx] at p' w; exact .inl ⟨w, show_ok s' nD l' p'⟩
        | some x =>
          simp only [hx] at p' w
          refine .inr ⟨w.1, fun H2 => ∃ ρ2 F2 accv acc S2, Grow ρ' F' ρ2 F2 ∧ Sim g bs ρ2 F2 (upd N D (.lst accv)) S2 H2 ∧ IsAll g.K ρ2 F2 accv acc ∧ Post g B (RW g) bs ρ2 F2 N σ Q ((compG2 it t mc mi1 vs1 t1 mc1 me f (i + 1) acc bs (wipeE env vs) S2).bind (finL k)), fun H2 ⟨ρ2, F2, accv, acc, S2, g2, s2, l2, p2⟩ => ⟨f, Nat.lt_succ_self f, ρ2, F2, accv, acc, S2, g'.trans g2, s2, l2, p2⟩, fun v H2 y => ?_⟩
          obtain ⟨F2, g2, s2, r2⟩ := w.2 v H2 y
          have p2 := Post.grow g2 p'
          refine ⟨bs, ρ', F2, _, _, S', x, s2, (ev.mono g').mono g2, r2, PostG.bindC p2 fun ρ3 F3 H3 σ3 e3 S3 g3 s3 ev3 p3 w3 => ⟨w3.trans (wipe_wipe fun _ h => h), ?_⟩⟩
          refine ⟨bs, ρ3, F3, _, e3, S3, s3, ev3, (Post.bindC (R1 := RB) p3).imp fun b H4 ⟨ρ4, F4, b', S4, g4, s4, r4, p4⟩ => ?_⟩
          cases r4
          have l4 := ((l'.mono g2).mono g3).mono g4
          have G4 := (g2.trans g3).trans g4
          cases b with
          | false => exact ⟨ρ4, F4, accv, acc, S4, G4, s4, l4, p4⟩
          | true =>
            simp only [if_true] at p4 ⊢
            refine ⟨bs, ρ4, F4, _, e3, S4, s4, ev3.mono g4, PostI.bindC p4 fun ρ5 F5 H5 J1 it1 S5 g5 s5 wk1 p5 => ?_⟩
            have ev5 := ((ev3.mono g4).mono g5).wipe vs1
            rw [Out.bindC_bind] at p5
            refine ⟨fun j k' H6 => ∃ ρ6 F6 accv acc S6, Grow ρ5 F5 ρ6 F6 ∧ Sim g bs ρ6 F6 (upd N D (.lst accv)) S6 H6 ∧ IsAll g.K ρ6 F6 accv acc ∧ Post g B (RW g) bs ρ6 F6 N σ Q ((compG it1 t1 mc1 me k' j acc bs (wipeE e3 vs1) S6).bindC fun acc' S4 => (compG2 it t mc mi1 vs1 t1 mc1 me f (i + 1) acc' bs (wipeE env vs) S4).bind (finL k)), ⟨it1.fuel, ρ5, F5, accv, acc, S5, Grow.refl _ _, s5, l4.mono g5, p5⟩, ?_⟩
            rintro j k' H6 ⟨ρ6, F6, accv6, acc6, S6, g6, s6, l6, p6⟩
            cases k' with
            | zero => exact p6.elim
            | succ f1 =>
              unfold compG at p6
              have w6 := wk1 bs ρ6 F6 _ S6 H6 j g6 s6
              cases hx6 : it1.next j S6 with
              | none => rw [hx6] at p6; exact p6.elim
              | some o6 =>
                cases o6 with
                | none =>
                  simp only [hx6, Out.bindC_ok] at p6 w6
                  exact .inl ⟨w6, ρ6, F6, accv6, acc6, S6, (G4.trans g5).trans g6, s6, l6, p6⟩
                | some x6 =>
                  simp only [hx6] at p6 w6
                  refine .inr ⟨w6.1, fun H7 => ∃ ρ7 F7 accv acc S7, Grow ρ6 F6 ρ7 F7 ∧ Sim g bs ρ7 F7 (upd N D (.lst accv)) S7 H7 ∧ IsAll g.K ρ7 F7 accv acc ∧ Post g B (RW g) bs ρ7 F7 N σ Q ((compG it1 t1 mc1 me f1 (j + 1) acc bs (wipeE e3 vs1) S7).bindC fun acc' S4 => (compG2 it t mc mi1 vs1 t1 mc1 me f (i + 1) acc' bs (wipeE env vs) S4).bind (finL k)), fun H7 ⟨ρ7, F7, accv, acc, S7, g7, s7, l7, p7⟩ => ⟨f1, Nat.lt_succ_self f1, ρ7, F7, accv, acc, S7, g6.trans g7, s7, l7, p7⟩, fun v7 H7 y7 => ?_⟩
                  obtain ⟨F7, g7, s7, r7⟩ := w6.2 v7 H7 y7
                  have p7 := Post.grow g7 p6
                  refine ⟨bs, ρ6, F7, _, _, S6, x6, s7, (ev5.mono g6).mono g7, r7, PostG.bindCC p7 fun ρ8 F8 H8 σ8 e8 S8 g8 s8 ev8 p8 w8 => ⟨w8.trans (wipe_wipe fun _ h => h), ?_⟩⟩
                  refine ⟨bs, ρ8, F8, _, e8, S8, s8, ev8, (Post.bindCC (R1 := RB) p8).imp fun b H9 ⟨ρ9, F9, b', S9, g9, s9, r9, p9⟩ => ?_⟩
                  cases r9
                  have l9 := ((l6.mono g7).mono g8).mono g9
                  have G9 := (g7.trans g8).trans g9
                  cases b with
                  | false => exact ⟨ρ9, F9, accv6, acc6, S9, G9, s9, l9, p9⟩
                  | true =>
                    simp only [if_true] at p9 ⊢
                    refine ⟨bs, ρ9, F9, _, e8, S9, s9, ev8.mono g9, (Post.bindCC (R1 := RW g) p9).imp fun yv HA ⟨ρA, FA, yA, SA, gA, sA, rA, pA⟩ => ?_⟩
                    split at pA
                    · rename_i hl
                      obtain ⟨a, e1, e2, e3, e4⟩ := comp_put sA (l9.mono gA) rA hl
                      exact ⟨a, e1, e2, ρA, FA, _, _, SA, G9.trans gA, e3, e4, pA⟩
                    · exact pA.elim
end
end Rf

namespace Rf
open PySem L2

/-! ### slices -/
abbrev OpSl := W → Option Int → Option Int → Store → Option (W × Store)
def rdO (g : Gx) (B : WX) (m : M (Option Int)) : TO := rdG g B (fun _ _ a b => a = b) m
def mNoPart : M (Option Int) := fun _ _ S => .ok none S
def mPart (m : M W) : M (Option Int) := fun bs env S => (m bs env S).bind fun w S1 => match w with
  | .dat (.int i) => .ok (some i) S1
  | _ => .stuck
def cutW {α : Type} (xs : List α) (lo hi : Option Int) : List α := (xs.drop (HT.sIx xs.length 0 lo)).take (HT.sIx xs.length xs.length hi - HT.sIx xs.length 0 lo)
def slF (k : Bool) : OpSl := fun w lo hi S => match tupOf w with
  | some ws => if HT.sIx ws.length 0 lo = 0 ∧ HT.sIx ws.length ws.length hi = ws.length then some (w, S) else some (mkTup (cutW ws lo hi), S)
  | none => match lstOf S w with
    | some ws => some (newL k (cutW ws lo hi) S)
    | none => match w with
      | .dat (.str z) => if z.length ≤ 100000 then some (.str (cutS z lo hi), S) else none
      | _ => none
def mSl (f : OpSl) (ma : M W) (ml mh : M (Option Int)) : M W := fun bs env S => (ma bs env S).bind fun w S1 => (ml bs env S1).bind fun l S2 => (mh bs env S2).bind fun h S3 => match f w l h S3 with
  | some (r, S4) => .ok r S4
  | none => .stuck
section
variable {X : Cx} {g : Gx} {B : WX} {bs : List Nat} {ρ ρ1 : List Addr} {F F1 N : Hp} {σ : L2.St} {a b c e : Expr} {es : List Expr} {ma mb mc : M W} {ms : M (List W)} {pos p2 : Pos} {lo hi : Option Expr} {ml mh : M (Option Int)}
theorem ro_noPart : PO X none (rdO g B mNoPart) := ⟨fun pins s σ H Q I ⟨bs, ρ, F, N, env, S, s1, e, p⟩ => po_none.run pins s σ H Q I (p ρ F H none (Grow.refl _ _) s1 rfl)⟩
theorem ro_part (h : PE X e (rd g B ma)) : PO X (some e) (rdO g B (mPart ma)) := ⟨fun pins s σ H Q I ⟨bs, ρ, F, N, env, S, s1, e, p⟩ => (po_some h).run pins s σ H Q I ⟨bs, ρ, F, N, env, S, s1, e, (Post.bind (R1 := RW g) p).imp fun x H1 ⟨ρ1, F1, wx, S1, g1, s1, r1, p1⟩ => by
  split at p1
  · rw [is_int r1]; exact ⟨_, rfl, p1 ρ1 F1 H1 _ (Grow.refl _ _) s1 rfl⟩
  · exact p1.elim⟩⟩
theorem IsAll.cut {K : PySem.W.Frag} {ws : List W} {vs : List V} (h : IsAll K ρ F vs ws) (lo hi : Option Int) : IsAll K ρ F (cutV vs lo hi) (cutW ws lo hi) := by
  unfold cutV cutW
  rw [h.len]
  exact (h.drop _).take _
def rdSl (g : Gx) (f : OpSl) : V → Option Int → Option Int → Hp → VK → Prop := fun x lo hi H Q => ∃ bs ρ F N S wx, Sim g bs ρ F N S H ∧ Is g.K ρ F x wx ∧ PostV g bs ρ F N Q (f wx lo hi S)
theorem slr (hK : g.K = X.K) {k : Bool} : SlR X (rdSl g (slF k)) := by
  intro pins s σ H x v vl vu lo hi sl Q I rx hs pl pu ⟨bs, ρ, F, N, S, wx, s1, r, p⟩
  unfold slF at p
  split at p
  · rename_i ws hw
    obtain ⟨a, vs, rfl, q, l⟩ := tup_of r hw
    rw [hK] at q
    refine sl_tupA pins s σ H _ v vl vu lo hi sl Q I rx hs pl pu ⟨a, vs, rfl, Same.sqT s1.ex q, ?_⟩
    rw [l.len]
    split at p
    · rename_i hz
      exact ⟨fun _ => p ρ F H _ (Grow.refl _ _) s1 r, fun z => absurd hz z⟩
    · rename_i hz
      exact ⟨fun z => absurd z hz, fun _ q hq => newT_ok s1 hq (l.cut lo hi) p⟩
  · split at p
    · rename_i ws hw
      obtain ⟨a, vs, rfl, q, l⟩ := lst_of s1 r hw
      rw [hK] at q
      exact sl_list pins s σ H _ v vl vu lo hi sl Q I rx hs pl pu ⟨a, vs, rfl, q, fun q hq => new_ok s1 hq (l.cut lo hi) p⟩
    · split at p
      · rename_i z _ _
        split at p
        · rename_i hz
          cases r with
          | dat r => cases r; exact sl_str pins s σ H _ v vl vu lo hi sl Q I rx hs pl pu ⟨z, rfl, line5 hz, p ρ F H _ (Grow.refl _ _) s1 (.dat (.str _))⟩
        · exact p.elim
      · exact p.elim
theorem re_sl {f : OpSl} (hr : SlR X (rdSl g f)) (he : PE X e (rd g B ma)) (hl : PO X lo (rdO g B ml)) (hu : PO X hi (rdO g B mh)) : PE X (.Subscript e (.Slice lo hi none p2) pos) (rd g B (mSl f ma ml mh)) :=
  (pe_slice hr he hl hu).imp fun σ H Q ⟨bs, ρ, F, N, env, S, s, e, p⟩ => by
    refine ⟨bs, ρ, F, N, env, S, s, e, (Post.bind (R1 := RW g) p).imp fun x H1 ⟨ρ1, F1, wx, S1, g1, s1, r1, p1⟩ => ?_⟩
    refine ⟨bs, ρ1, F1, N, env, S1, s1, e.mono g1, (Post.bind (R1 := fun _ _ a b => a = b) p1).imp fun l H2 ⟨ρ2, F2, l', S2, g2, s2, r2, p2⟩ => ?_⟩
    cases r2
    refine ⟨bs, ρ2, F2, N, env, S2, s2, (e.mono g1).mono g2, (Post.bind (R1 := fun _ _ a b => a = b) p2).imp fun u H3 ⟨ρ3, F3, u', S3, g3, s3, r3, p3⟩ => ?_⟩
    cases r3
    exact ⟨bs, ρ3, F3, N, S3, wx, s3, (r1.mono g2).mono g3, post_op p3⟩

/-! ### o[i] = .. -/
abbrev OpSet := List Nat → W → W → W → Store → Option Store
def PostU (g : Gx) (bs : List Nat) (ρ : List Addr) (F N : Hp) (Q : Hp → Prop) : Option Store → Prop
  | some S' => ∀ ρ' F' H', Grow ρ F ρ' F' → Sim g bs ρ' F' N S' H' → Q H'
  | none => False
def rdSet (g : Gx) (f : OpSet) : TSet := fun o i v H Q => ∃ bs ρ F N S wo wi wv, Sim g bs ρ F N S H ∧ Is g.K ρ F o wo ∧ Is g.K ρ F i wi ∧ Is g.K ρ F v wv ∧ PostU g bs ρ F N Q (f bs wo wi wv S)
/-- a write keeps what lies below popping frames -/
def mayW (bs : List Nat) (n : Nat) (w : W) : Bool := bs.all fun b => decide (b ≤ n) || w.und b
def setF : OpSet := fun bs o i v S => match o with
  | .loc n => match S[n]? with
    | some (.lst ws) => match i with
      | .dat (.int k) => match ixN ws.length k with
        | some j => if mayW bs n v then some (S.set n (.lst (ws.set j v))) else none
        | none => none
      | _ => none
    | some (.dic ws) => match i with
      | .dat d => match dkey d with
        | some k => if mayW bs n v ∧ ws.length < 100000 ∧ (ws.all fun p => (dkey p.1).any fun k' => kindK k' == kindK k) then some (S.set n (.dic (putW ws k v))) else none
        | none => none
      | _ => none
    | _ => none
  | _ => none
theorem undAll_iff {b : Nat} : ∀ {ws : List W}, W.undAll b ws = true ↔ ∀ w ∈ ws, w.und b = true
  | [] => by simp [W.undAll]
  | w :: ws => by simp [W.undAll, undAll_iff (ws := ws)]

theorem IsKV.len {K : PySem.W.Frag} : ∀ {ws : List (PyData × W)} {vs : List (PyData × V)}, IsKV K ρ F vs ws → vs.length = ws.length
  | _, _, .nil => rfl
  | _, _, .cons _ b => by simp [IsKV.len b]
theorem IsKV.any {K : PySem.W.Frag} (f : PyData → Bool) : ∀ {ws : List (PyData × W)} {vs : List (PyData × V)}, IsKV K ρ F vs ws → (vs.any fun p => f p.1) = ws.any fun p => f p.1
  | _, _, .nil => rfl
  | _, _, .cons _ b => by simp [IsKV.any f b]
theorem IsKV.put {K : PySem.W.Frag} (f : PyData → Prop) [DecidablePred f] {v : V} {w : W} (r : Is K ρ F v w) : ∀ {ws : List (PyData × W)} {vs : List (PyData × V)}, IsKV K ρ F vs ws → IsKV K ρ F (vs.map fun p => if f p.1 then (p.1, v) else p) (ws.map fun p => if f p.1 then (p.1, w) else p)
  | _, _, .nil => .nil
  | (k, _) :: _, _, .cons a b => by
    rw [List.map_cons, List.map_cons]
    by_cases h : f k
    · simp only [h, if_true]; exact .cons r (IsKV.put f r b)
    · simp only [h, if_false]; exact .cons a (IsKV.put f r b)
theorem IsKV.snoc {K : PySem.W.Frag} {k : PyData} {v : V} {w : W} (r : Is K ρ F v w) : ∀ {ws : List (PyData × W)} {vs : List (PyData × V)}, IsKV K ρ F vs ws → IsKV K ρ F (vs ++ [(k, v)]) (ws ++ [(k, w)])
  | _, _, .nil => .cons r .nil
  | _, _, .cons a b => .cons a (IsKV.snoc r b)
theorem put_kv {K : PySem.W.Frag} {κ : Type} [DecidableEq κ] (φ : κ → PyData) (ψ : κ → DKey) {kvs : List (κ × V)} {ws : List (PyData × W)} {k : κ} {v : V} {w : W} (h1 : ∀ x, decide (dkey (φ x) = some (ψ k)) = decide (x = k)) (h2 : ∀ k, (ψ k).d = φ k)
    (h : IsKV K ρ F (kvs.map fun p => (φ p.1, p.2)) ws) (r : Is K ρ F v w) : IsKV K ρ F ((putK kvs k v).map fun p => (φ p.1, p.2)) (putW ws (ψ k) w) := by
  have e : ∀ x : κ, decide (dkey (φ x) = some (ψ k)) = decide (x = k) := h1
  have ea := h.any fun d => decide (dkey d = some (ψ k))
  rw [List.any_map] at ea
  have ea' : (kvs.any fun kv => decide (kv.1 = k)) = ws.any fun p => decide (dkey p.1 = some (ψ k)) := by
    rw [← ea]
    congr 1
    funext p
    exact (e p.1).symm
  unfold putK putW
  rw [ea']
  split
  · have := h.put (fun d => dkey d = some (ψ k)) r
    rw [List.map_map] at this ⊢
    refine cast (congrArg (fun l => IsKV K ρ F l _) ?_) this
    congr 1
    funext p
    have e1 := e p.1
    by_cases z : p.1 = k
    · simp only [z, decide_true, decide_eq_true_eq] at e1
      simp [z, e1]
    · simp only [z, decide_false, decide_eq_false_iff_not] at e1
      simp [z, e1]
  · rw [List.map_append, h2]
    exact h.snoc r
theorem mayW_le {n : Nat} {w : W} (h : mayW bs n w = true) {b : Nat} (hb : b ∈ bs) (hn : n < b) : w.und b = true := by
  have := List.all_eq_true.mp h b hb
  simp only [Bool.or_eq_true, decide_eq_true_eq] at this
  rcases this with z | z
  · omega
  · exact z
theorem undAll_set {b : Nat} {ws : List W} {j : Nat} {w : W} (h : W.undAll b ws = true) (r : w.und b = true) : W.undAll b (ws.set j w) = true := by
  rw [undAll_iff] at h ⊢
  intro x hx
  rcases List.mem_or_eq_of_mem_set hx with z | z
  · exact h x z
  · rw [z]; exact r
theorem und_put {b : Nat} {ws : List (PyData × W)} {k : DKey} {w : W} (h : (ws.all fun p => p.2.und b) = true) (r : w.und b = true) : ((putW ws k w).all fun p => p.2.und b) = true := by
  rw [List.all_eq_true] at h ⊢
  unfold putW
  split
  · intro x hx
    obtain ⟨p, hp, rfl⟩ := List.mem_map.mp hx
    split
    · exact r
    · exact h p hp
  · intro x hx
    rcases List.mem_append.mp hx with z | z
    · exact h x z
    · simp at z; subst z; exact r
/-- a dict that is a cell -/
inductive DicE (H : Hp) (a : Addr) : Nat → List (PyData × V) → Prop
  | k {kvs : List (Key × V)} : H a = some (.dK kvs) → DicE H a 0 (kvs.map fun p => (kD p.1, p.2))
  | t {kvs : List (List Key × V)} : H a = some (.dT kvs) → DicE H a 1 (kvs.map fun p => (.tuple (p.1.map kD), p.2))
theorem DicE.h {H : Hp} {a : Addr} {n : Nat} {vs : List (PyData × V)} (d : DicE H a n vs) : DicH H a n vs := by
  cases d with
  | k e => exact .k (.inl e)
  | t e => exact .t (.inl e)
/-- a dict cell in the heap, of the kind of a key -/
theorem dic_kind {pins : List (Addr × Obj)} {sh : Shared} {H : Hp} {S : Store} {n : Nat} {a : Addr} {ws : List (PyData × W)} {k : DKey} (I : Inv X pins σ H sh) (s : Sim g bs ρ F N S H) (hn : ρ[n]? = some a) (hS : S[n]? = some (.dic ws)) (hk : (ws.all fun p => (dkey p.1).any fun k' => kindK k' == kindK k) = true) :
    ∃ H', Inv X pins σ H' sh ∧ Sim g bs ρ F N S H' ∧ ∃ vs, DicE H' a (kindK k) vs ∧ IsKV g.K ρ F vs ws := by
  have ub : ∀ b ∈ bs, n < b → (Cell.dic ws).und b = true := fun b hb hlt => (s.bot b hb).2 n _ hlt hS
  have hset : S.set n (.dic ws) = S := by
    have hl := (List.getElem?_eq_some_iff.mp hS)
    apply List.ext_getElem? ; intro i
    by_cases z : n = i
    · subst z; rw [List.getElem?_set_self hl.1, hS]
    · rw [List.getElem?_set_ne z]
  rcases s.cell n _ _ hS hn with ⟨kvs, e, q⟩ | ⟨kvs, e, q⟩
  · cases k with
    | one k => exact ⟨H, I, s, _, .k e, q⟩
    | tup ks =>
      cases ws with
      | nil =>
        have e0 : kvs = [] := by
          have := q.len; simp at this; exact this
        subst e0
        refine ⟨_, inv_kind I e, ?_, [], DicE.t (kvs := []) upd_same, .nil⟩
        have := s.write (o := .dT []) (c := .dic []) hS rfl hn (.inr ⟨[], upd_same, .nil⟩) ub
        rwa [hset] at this
      | cons p ws =>
        exfalso
        obtain ⟨y, kvs', rfl⟩ : ∃ y l, kvs = y :: l := by
          cases kvs with
          | nil => cases q
          | cons y l => exact ⟨y, l, rfl⟩
        cases q
        rw [List.all_cons, Bool.and_eq_true] at hk
        have z : dkey (kD y.1) = some (.one y.1) := dkey_one y.1
        have := hk.1
        simp only [z, Option.any_some, kindK] at this
        simp at this
  · cases k with
    | tup k => exact ⟨H, I, s, _, .t e, q⟩
    | one ks =>
      cases ws with
      | nil =>
        have e0 : kvs = [] := by
          have := q.len; simp at this; exact this
        subst e0
        refine ⟨_, inv_kind' I e, ?_, [], DicE.k (kvs := []) upd_same, .nil⟩
        have := s.write (o := .dK []) (c := .dic []) hS rfl hn (.inl ⟨[], upd_same, .nil⟩) ub
        rwa [hset] at this
      | cons p ws =>
        exfalso
        obtain ⟨y, kvs', rfl⟩ : ∃ y l, kvs = y :: l := by
          cases kvs with
          | nil => cases q
          | cons y l => exact ⟨y, l, rfl⟩
        cases q
        rw [List.all_cons, Bool.and_eq_true] at hk
        have z : dkey (.tuple (y.1.map kD)) = none ∨ dkey (.tuple (y.1.map kD)) = some (.tup y.1) := dkey_two y.1
        have := hk.1
        rcases z with z | z
        · simp only [z, Option.any_none] at this
          simp at this
        · simp only [z, Option.any_some, kindK] at this
          simp at this
theorem set_ok (hu : X.A.units + 1 < cLine) : PSet X (rdSet g setF) := by
  intro pins sh σ H o i v ov iv u Q I ro ri rv ⟨bs, ρ, F, N, S, wo, wi, wv, s, qo, qi, qv, p⟩
  unfold setF at p
  split at p
  · rename_i n
    cases qo with
    | loc hn =>
      rename_i a
      split at p
      · rename_i ws hS
        split at p
        · rename_i k
          rw [is_int qi] at ri
          split at p
          · rename_i j hj
            split at p
            · rename_i hm
              obtain ⟨vs, e, l⟩ := s.cell n _ _ hS hn
              refine set_list pins sh σ H _ _ v ov iv u Q I ro ri rv ⟨a, vs, k, j, rfl, rfl, e, by rw [l.len]; exact hj, ?_⟩
              refine p ρ F _ (Grow.refl _ _) (s.write hS rfl hn ⟨_, upd_same, IsAll.set qv _ l⟩ fun b hb hlt => undAll_set ((s.bot b hb).2 n _ hlt hS) (mayW_le hm hb hlt))
            · exact p.elim
          · exact p.elim
        · exact p.elim
      · rename_i ws hS
        split at p
        · rename_i d
          split at p
          · rename_i k hk
            split at p
            · rename_i hm
              obtain ⟨hm, hz, hall⟩ := hm
              have hd := dkey_eq hk
              subst hd
              obtain ⟨H1, I1, s1, vs, hd, l⟩ := dic_kind I s hn hS hall
              have hz' : ∀ n : Nat, n = ws.length → n < sizeLine := fun n e => by rw [e]; exact Nat.lt_of_lt_of_le hz (by decide)
              have hl := l.len
              have ub : ∀ b ∈ bs, n < b → (Cell.dic (putW ws k wv)).und b = true := fun b hb hlt => und_put ((s1.bot b hb).2 n _ hlt hS) (mayW_le hm hb hlt)
              have r : Rp g.K F i k.d := by
                cases qi with
                | dat r => exact r
              cases k with
              | one k =>
                cases hd with
                | @k kvs e =>
                  have ei := key_one r
                  subst ei
                  exact set_dict hu pins sh σ H1 _ _ v ov iv u Q I1 ro ri rv ⟨a, _, rfl, DPut.k e (hz' _ (by simpa using hl)), p ρ F _ (Grow.refl _ _) (s1.write hS rfl hn (.inl ⟨_, upd_same, put_kv kD .one (fun x => by simp) (fun _ => rfl) l qv⟩) ub)⟩
              | tup ks =>
                cases hd with
                | @t kvs e =>
                  obtain ⟨b, rfl, hb⟩ := key_tup (dkey_ne hk) s1.ex r
                  exact set_dict hu pins sh σ H1 _ _ v ov iv u Q I1 ro ri rv ⟨a, _, rfl, DPut.t e hb (hz' _ (by simpa using hl)), p ρ F _ (Grow.refl _ _) (s1.write hS rfl hn (.inr ⟨_, upd_same, put_kv (fun k : List Key => .tuple (k.map kD)) .tup (fun x => dkey_tupI (dkey_ne hk)) (fun _ => rfl) l qv⟩) ub)⟩
            · exact p.elim
          · exact p.elim
        · exact p.elim
      · exact p.elim
  · exact p.elim
/-- as a target -/
def tSub (mo mi : M W) (f : OpSet) : TM := fun w bs env S => (mo bs env S).bind fun o S1 => (mi bs env S1).bind fun i S2 => match f bs o i w S2 with
  | some S3 => .ok env S3
  | none => .stuck
theorem PostG.bind {α β : Type} {R : List Addr → Hp → β → α → Prop} {o : Out α} {f : α → Store → Out Env} {Q : L2.St → Hp → Prop} (h : PostG g B bs ρ F N σ Q (o.bind f)) :
    Post g B R bs ρ F N σ (fun v H1 => ∃ ρ' F' a S', Grow ρ F ρ' F' ∧ Sim g bs ρ' F' N S' H1 ∧ R ρ' F' v a ∧ PostG g B bs ρ' F' N σ Q (f a S')) o := by
  cases o with
  | ok a S1 => exact fun ρ' F' H' v gr s' r => ⟨ρ', F', a, S1, gr, s', r, PostG.grow gr h⟩
  | ex c ws S1 => exact h
  | stuck => exact h
theorem rg_sub {f : OpSet} (ho : PE X a (rd g B ma)) (hi : PE X b (rd g B mb)) (hs : PSet X (rdSet g f))
    (hA : ∀ v, assign (.Subscript a b pos) X.env v = (do
      let ov ← holding [v] (eval a X.env)
      let iv ← holding [v, ov] (eval b X.env)
      standAt pos
      holding [v, ov, iv] (setItem ov iv v)
      release [v, ov, iv] []) := by intro _; rfl) : PG X (.Subscript a b pos) (rdTg g B (tSub ma mb f)) := (pg_sub ho hi hs hA).imp fun v σ H Q ⟨bs, ρ, F, N, env, S, w, s, e, r, p⟩ => by
  refine ⟨bs, ρ, F, N, env, S, s, e, (PostG.bind (R := RW g) p).imp fun x H1 ⟨ρ1, F1, wx, S1, g1, s1, r1, p1⟩ => ?_⟩
  refine ⟨bs, ρ1, F1, N, env, S1, s1, e.mono g1, (PostG.bind (R := RW g) p1).imp fun y H2 ⟨ρ2, F2, wy, S2, g2, s2, r2, p2⟩ => ?_⟩
  refine ⟨bs, ρ2, F2, N, S2, wx, wy, w, s2, r1.mono g2, r2, (r.mono g1).mono g2, ?_⟩
  cases hq : f bs wx wy w S2 with
  | none => rw [hq] at p2; exact p2
  | some S3 => rw [hq] at p2; exact fun ρ' F' H' gr s' => p2 ρ' F' H' σ gr s' (((e.mono g1).mono g2).mono gr)
end
end Rf

namespace Rf
open PySem L2

/-! ### methods -/
inductive MTy where
  | lst
  | dic
  | str
def MTy.s : MTy → String
  | .lst => "list"
  | .dic => "dict"
  | .str => "str"
def wTy (T : MTy) (w : W) (S : Store) : Bool := match T with
  | .lst => (lstOf S w).isSome
  | .dic => (dicOf S w).isSome
  | .str => match w with
    | .dat (.str _) => true
    | _ => false
abbrev OpM := List Nat → W → List W → Store → Option (W × Store)
def mMt (T : MTy) (f : OpM) (mo : M W) (ms : M (List W)) : M W := fun bs env S => (mo bs env S).bind fun w S1 => if wTy T w S1 = true then (ms bs env S1).bind fun ws S2 => match f bs w ws S2 with
  | some (r, S3) => .ok r S3
  | none => .stuck
  else .stuck
def rdMt (g : Gx) (f : OpM) : V → List V → Hp → VK → Prop := fun x xs H Q => ∃ bs ρ F N S wx ws, Sim g bs ρ F N S H ∧ Is g.K ρ F x wx ∧ IsAll g.K ρ F xs ws ∧ PostV g bs ρ F N Q (f bs wx ws S)
section
variable {X : Cx} {g : Gx} {B : WX} {bs : List Nat} {ρ ρ1 : List Addr} {F F1 N : Hp} {S : Store} {σ : L2.St} {a b c e o : Expr} {es : List Expr} {ma mb mc mo : M W} {ms : M (List W)} {pos apos cpos : Pos} {name : Str} {id : String} {f : OpM}
/-- a receiver's type; a dict may be locked -/
def tyD (K : PySem.W.Frag) (T : String) (x : V) (H : Hp) : Prop := tyV K T x H ∨ (T = "dict" ∧ ∃ p, x = .ref p ∧ ((∃ kvs, Rd H p (.dK kvs)) ∨ ∃ kvs, Rd H p (.dT kvs)))
theorem tyD_is {pins : List (Addr × Obj)} {H : Hp} {s : Shared} {T : String} {x : V} {v : Value} (I : Inv X pins σ H s) (r : RelV x v) (ty : tyD X.K T x H) :
    s.TypeIs v T ∧ ∀ a, v = .ref a → ∃ ob, s.heap.get? a = some ob ∧ ob.dict = none := by
  rcases ty with ty | ⟨rfl, p, rfl, ty⟩
  · exact tyV_is I r ty
  · cases r
    have z : ∃ o, s.heap.get? p = some o ∧ o.ExactDict := by
      rcases ty with ⟨kvs, hk⟩ | ⟨kvs, hk⟩
      · obtain ⟨_, _, _, _, o, _, _, e, ex, _⟩ := (show ObjOk X.prog X.w H s.heap p (.dK kvs) from hk.ok I.hok)
        exact ⟨o, e, ex⟩
      · obtain ⟨_, _, _, _, o, _, _, e, ex, _⟩ := (show ObjOk X.prog X.w H s.heap p (.dT kvs) from hk.ok I.hok)
        exact ⟨o, e, ex⟩
    obtain ⟨o, e, ex⟩ := z
    refine ⟨⟨o, e, ex.1⟩, fun a e2 => ?_⟩
    cases e2
    exact ⟨o, e, ex.2.1⟩
def tBD (K : PySem.W.Frag) (T : String) (r : V → List V → Hp → VK → Prop) (to : TE) (t : TA) : TE := fun σ H Q => to σ H fun x H1 => tyD K T x H1 ∧ t σ H1 fun xs H2 => r x xs H2 Q
def tBD0 (K : PySem.W.Frag) (T : String) (r : V → List V → Hp → VK → Prop) (to : TE) : TE := fun σ H Q => to σ H fun x H1 => tyD K T x H1 ∧ r x [] H1 Q
theorem pe_bmD {T : String} {to : TE} {t : TA} {r : V → List V → Hp → VK → Prop} (pa : PlainAttrs T) (slot : Slot T name id) (hty : typeOf (.builtin id) = pure (.type "method_descriptor")) (hm : MtR X id r) (ho : PE X o to) (ha : PA X (e :: es) t)
    (hbase : attributeBase o name X.env (eval o X.env) = eval o X.env := by rfl)
    (hfew : ((backTo cpos (starEach (e :: es) X.env)).all (fun x => !x.1) && (backToKw cpos (keywordEach [] X.env)).all (fun x => x.1.isSome)
      && decide ((e :: es).length + ([] : List Keyword).length + (if ([] : List Keyword).isEmpty then 0 else 1) < 30)) = true := by rfl)
    (hline : (apos.endLine == cpos.line) = true := by rfl) (hs : starEach (e :: es) X.env = (false, eval e X.env) :: starEach es X.env := by rfl) (hplain : (backTo cpos (starEach es X.env)).any (·.1) = false := by rfl) :
    PE X (.Call (.Attribute o name apos) (e :: es) [] cpos) (tBD X.K T r to t) := by
  refine ⟨fun pins s σ H Q I h => ?_⟩
  refine wpAny_Call_method_late hbase hfew hline rfl (thn (ho.run pins s σ H _ I h) fun v s1 ⟨x, H1, I1, r1, ty, q1⟩ => ?_)
  obtain ⟨h1, h2⟩ := tyD_is I1 r1 ty
  refine ⟨T, id, pa, slot, hty, h1, h2, ?_⟩
  have hA := ha.run cpos pins s1 σ H1 _ I1 q1
  rw [hs] at hA ⊢
  refine Calls.callWith_builtin (by show (false || (backTo cpos (starEach es X.env)).any (·.1)) = false; rw [hplain] <;> rfl) (Calls.evalArgs_plain ?_)
  exact thn hA fun us s2 ⟨vs, H2, I2, r2, q2⟩ => hm pins s2 σ H2 x vs v us Q I2 r1 r2 q2
theorem ty_ok {T : MTy} {w : W} {v : V} {H : Hp} (s : Sim g bs ρ F N S H) (r : Is g.K ρ F v w) (h : wTy T w S = true) : tyD g.K T.s v H := by
  cases T with
  | lst =>
    simp only [wTy, Option.isSome_iff_exists] at h
    obtain ⟨ws, h⟩ := h
    obtain ⟨a, vs, rfl, q, _⟩ := lst_of s r h
    exact .inl (.inl ⟨rfl, vs, q⟩)
  | dic =>
    simp only [wTy, Option.isSome_iff_exists] at h
    obtain ⟨ws, h⟩ := h
    obtain ⟨a, n, vs, rfl, q, _⟩ := dic_of s r h
    cases q with
    | k e => exact .inr ⟨rfl, _, rfl, .inl ⟨_, e⟩⟩
    | t e => exact .inr ⟨rfl, _, rfl, .inr ⟨_, e⟩⟩
  | str =>
    simp only [wTy] at h
    split at h
    · cases r with
      | dat r => cases r; exact .inl rfl
    · cases h
theorem re_mt (hK : g.K = X.K) {T : MTy} (pa : PlainAttrs T.s) (slot : Slot T.s name id) (hty : typeOf (.builtin id) = pure (.type "method_descriptor")) (hm : MtR X id (rdMt g f)) (ho : PE X o (rd g B mo)) (ha : PA X (e :: es) (rdA g B ms))
    (hbase : attributeBase o name X.env (eval o X.env) = eval o X.env := by rfl)
    (hfew : ((backTo cpos (starEach (e :: es) X.env)).all (fun x => !x.1) && (backToKw cpos (keywordEach [] X.env)).all (fun x => x.1.isSome)
      && decide ((e :: es).length + ([] : List Keyword).length + (if ([] : List Keyword).isEmpty then 0 else 1) < 30)) = true := by rfl)
    (hline : (apos.endLine == cpos.line) = true := by rfl) (hs : starEach (e :: es) X.env = (false, eval e X.env) :: starEach es X.env := by rfl) (hplain : (backTo cpos (starEach es X.env)).any (·.1) = false := by rfl) :
    PE X (.Call (.Attribute o name apos) (e :: es) [] cpos) (rd g B (mMt T f mo ms)) := (pe_bmD pa slot hty hm ho ha hbase hfew hline hs hplain).imp fun σ H Q ⟨bs, ρ, F, N, env, S, s, e, p⟩ => by
  refine ⟨bs, ρ, F, N, env, S, s, e, (Post.bind (R1 := RW g) p).imp fun x H1 ⟨ρ1, F1, wx, S1, g1, s1, r1, p1⟩ => ?_⟩
  split at p1
  · rename_i hw
    refine ⟨hK ▸ ty_ok s1 r1 hw, bs, ρ1, F1, N, env, S1, s1, e.mono g1, (Post.bind (R1 := RWs g) p1).imp fun xs H2 ⟨ρ2, F2, ws, S2, g2, s2, r2, p2⟩ => ?_⟩
    exact ⟨bs, ρ2, F2, N, S2, wx, ws, s2, r1.mono g2, r2, post_op p2⟩
  · exact p1.elim
/-- xs.append(w), xs.extend(ys), xs.pop(), xs.pop(i) -/
def appF : OpM := fun bs x ws S => match x, ws with
  | .loc n, [w] => match S[n]? with
    | some (.lst us) => if us.length < 100000 ∧ mayW bs n w = true then some (.non, S.set n (.lst (us ++ [w]))) else none
    | _ => none
  | _, _ => none
def extOf (S : Store) : W → Option (List W)
  | .dat (.list ds) => some (ds.map .dat)
  | .loc n => match S[n]? with
    | some (.lst ws) => some ws
    | _ => none
  | _ => none
def extF : OpM := fun bs x ws S => match x, ws with
  | .loc n, [y] => match S[n]?, extOf S y with
    | some (.lst us), some zs => if us.length + zs.length ≤ 100000 ∧ zs.all (mayW bs n) = true then some (.non, S.set n (.lst (us ++ zs))) else none
    | _, _ => none
  | _, _ => none
def popF : OpM := fun bs x ws S => match x, ws with
  | .loc n, [] => match S[n]? with
    | some (.lst us) => match us[us.length - 1]? with
      | some w => some (w, S.set n (.lst us.dropLast))
      | none => none
    | _ => none
  | .loc n, [.dat (.int i)] => match S[n]? with
    | some (.lst us) => if -(2 ^ 63) ≤ i ∧ i < 2 ^ 63 then match seqIndex? i us.length with
      | some k => match us[k]? with
        | some w => some (w, S.set n (.lst (us.eraseIdx k)))
        | none => none
      | none => none
      else none
    | _ => none
  | _, _ => none
theorem undAll_app {b : Nat} {xs ys : List W} (h : W.undAll b xs = true) (k : W.undAll b ys = true) : W.undAll b (xs ++ ys) = true := by
  rw [undAll_iff] at h k ⊢
  intro x hx
  rcases List.mem_append.mp hx with z | z
  · exact h x z
  · exact k x z
theorem IsAll.app {K : PySem.W.Frag} {ws' : List W} {vs' : List V} (k : IsAll K ρ F vs' ws') : ∀ {ws : List W} {vs : List V}, IsAll K ρ F vs ws → IsAll K ρ F (vs ++ vs') (ws ++ ws')
  | _, _, .nil => k
  | _, _, .cons a b => .cons a (IsAll.app k b)
theorem mt_app : MtR X "list.append" (rdMt g appF) := by
  intro pins sh σ H x xs v us Q I rx rv ⟨bs, ρ, F, N, S, wx, ws, s, r, l, p⟩
  unfold appF at p
  split at p
  · rename_i n w
    cases r with
    | loc hn =>
      rename_i a
      obtain ⟨y, rfl, ry⟩ := all_one l
      split at p
      · rename_i us' hS
        split at p
        · rename_i hm
          obtain ⟨vs, e, q⟩ := s.cell n _ _ hS hn
          refine mt_append pins sh σ H _ _ v us Q I rx rv ⟨a, vs, y, rfl, rfl, e, by rw [q.len]; exact Nat.lt_of_lt_of_le hm.1 (by decide), ?_⟩
          exact p ρ F _ _ (Grow.refl _ _) (s.write hS rfl hn ⟨_, upd_same, q.snoc ry⟩ fun b hb hlt => undAll_app ((s.bot b hb).2 n _ hlt hS) (by rw [undAll_iff]; intro z hz; simp at hz; rw [hz]; exact mayW_le hm.2 hb hlt)) (.dat .non)
        · exact p.elim
      · exact p.elim
  · exact p.elim
theorem ext_of {H : Hp} {zs : List W} {w : W} {v : V} (s : Sim g bs ρ F N S H) (r : Is g.K ρ F v w) (h : extOf S w = some zs) : ∃ b vs, v = .ref b ∧ H b = some (.lst vs) ∧ IsAll g.K ρ F vs zs := by
  unfold extOf at h
  split at h
  · cases h
    cases r with
    | dat r => cases r with
      | lst e l => exact ⟨_, _, rfl, s.ex _ _ e, l.isAll⟩
  · rename_i n
    cases r with
    | loc hn =>
      split at h
      · rename_i ws hS
        cases h
        obtain ⟨vs, e, q⟩ := s.cell n _ _ hS hn
        exact ⟨_, vs, rfl, e, q⟩
      · cases h
  · cases h
theorem mt_ext : MtR X "list.extend" (rdMt g extF) := by
  intro pins sh σ H x xs v us Q I rx rv ⟨bs, ρ, F, N, S, wx, ws, s, r, l, p⟩
  unfold extF at p
  split at p
  · rename_i n w
    cases r with
    | loc hn =>
      rename_i a
      obtain ⟨y, rfl, ry⟩ := all_one l
      split at p
      · rename_i us' zs hS hz
        split at p
        · rename_i hm
          obtain ⟨vs, e, q⟩ := s.cell n _ _ hS hn
          obtain ⟨b, vz, rfl, e2, q2⟩ := ext_of s ry hz
          refine mt_extend pins sh σ H _ _ v us Q I rx rv ⟨a, b, vs, vz, rfl, rfl, e, e2, by rw [q.len, q2.len]; exact Nat.le_trans hm.1 (by decide), ?_⟩
          exact p ρ F _ _ (Grow.refl _ _) (s.write hS rfl hn ⟨_, upd_same, q2.app q⟩ fun b hb hlt => undAll_app ((s.bot b hb).2 n _ hlt hS) (by rw [undAll_iff]; intro z hz; exact mayW_le (List.all_eq_true.mp hm.2 z hz) hb hlt)) (.dat .non)
        · exact p.elim
      · exact p.elim
  · exact p.elim
/-- a dict that is a cell, and not locked -/
def isDicC (S : Store) : W → Bool
  | .loc n => match S[n]? with
    | some (.dic _) => true
    | _ => false
  | _ => false
/-- a dict whose kind is that of the key -/
def dicRdy (S : Store) (x : W) (kvs : List (PyData × W)) (k : DKey) : Bool := (kvs.all fun p => (dkey p.1).any fun k' => kindK k' == kindK k) && (isDicC S x || !kvs.isEmpty)
/-- d.get(k), d.get(k, x) -/
def getF : OpM := fun _ x ws S => match dicOf S x, ws with
  | some kvs, [.dat d] => match dkey d with
    | some k => if dicRdy S x kvs k = true then some ((lookW kvs k).getD .non, S) else none
    | none => none
  | some kvs, [.dat d, y] => match dkey d with
    | some k => if dicRdy S x kvs k = true then some ((lookW kvs k).getD y, S) else none
    | none => none
  | _, _ => none
theorem kind_of {H : Hp} {a : Addr} {n : Nat} {vs : List (PyData × V)} {ws : List (PyData × W)} {K : PySem.W.Frag} {k : DKey} (d : DicH H a n vs) (q : IsKV K ρ F vs ws) (hk : (ws.all fun p => (dkey p.1).any fun k' => kindK k' == kindK k) = true) (hne : ws.isEmpty = false) : kindK k = n := by
  cases q with
  | nil => simp at hne
  | @cons k0 v0 vs0 w0 ws0 a0 b0 =>
    rw [List.all_cons, Bool.and_eq_true] at hk
    have h1 := hk.1
    generalize hv : (k0, v0) :: vs0 = vs at d
    cases d with
    | @k kvs e =>
      cases kvs with
      | nil => cases hv
      | cons y l =>
        simp only [List.map_cons, List.cons.injEq, Prod.mk.injEq] at hv
        have z : dkey (kD y.1) = some (.one y.1) := dkey_one y.1
        rw [hv.1.1, z] at h1
        simp only [Option.any_some, beq_iff_eq] at h1
        exact h1.symm
    | @t kvs e =>
      cases kvs with
      | nil => cases hv
      | cons y l =>
        simp only [List.map_cons, List.cons.injEq, Prod.mk.injEq] at hv
        rcases dkey_two y.1 with z | z
        · rw [hv.1.1, z] at h1
          simp at h1
        · rw [hv.1.1, z] at h1
          simp only [Option.any_some, beq_iff_eq] at h1
          exact h1.symm
/-- the dict at hand, of the kind of a key -/
theorem dic_ready {pins : List (Addr × Obj)} {sh : Shared} {H : Hp} {w : W} {v : V} {ws : List (PyData × W)} {k : DKey} (I : Inv X pins σ H sh) (s : Sim g bs ρ F N S H) (r : Is g.K ρ F v w) (h : dicOf S w = some ws)
    (hk : dicRdy S w ws k = true) :
    ∃ H', Inv X pins σ H' sh ∧ Sim g bs ρ F N S H' ∧ ∃ a vs, v = .ref a ∧ DicH H' a (kindK k) vs ∧ IsKV g.K ρ F vs ws := by
  unfold dicRdy at hk
  rw [Bool.and_eq_true] at hk
  obtain ⟨h1, h2⟩ := hk
  cases w with
  | loc n =>
    unfold dicOf at h
    cases r with
    | loc hn =>
      simp only at h
      split at h
      · rename_i us hS
        cases h
        obtain ⟨H', I', s', vs, d, q⟩ := dic_kind I s hn hS h1
        exact ⟨H', I', s', _, vs, rfl, d.h, q⟩
      · rename_i us hS
        cases h
        obtain ⟨a, n', vs, e, d, q⟩ := dic_of (w := .loc n) s (.loc hn) (by simp only [dicOf, hS]; rfl)
        have := kind_of d q h1 (by simpa [isDicC, hS] using h2)
        subst this
        exact ⟨H, I, s, a, vs, e, d, q⟩
      · cases h
  | dat d =>
    obtain ⟨a, n, vs, e, d, q⟩ := dic_of s r h
    have := kind_of d q h1 (by simpa [isDicC] using h2)
    subst this
    exact ⟨H, I, s, a, vs, e, d, q⟩
  | tw us => simp [dicOf] at h
  | lw us => simp [dicOf] at h
  | kt us => simp [dicOf] at h
  | fn us => simp [dicOf] at h
  | rg x y z => simp [dicOf] at h
end
end Rf

namespace Rf
open PySem L2 PyProof.Rows

/-! ### frames that pop -/
section
variable {g : Gx} {K : PySem.W.Frag} {bs : List Nat} {ρ : List Addr} {F N H : Hp} {S : Store}
mutual
theorem Is.und : ∀ {w : W} {v : V}, Is K ρ F v w → w.und ρ.length = true
  | .dat _, _, _ => rfl
  | .loc n, _, h => by
    cases h with
    | loc r => simp [W.und]; exact (List.getElem?_eq_some_iff.mp r).1
  | .tw ws, _, h => by
    cases h with
    | tw _ r => exact IsAll.und r
  | .lw ws, _, h => by
    cases h with
    | lw _ r => exact IsAll.und r
  | .kt _, _, _ => rfl
  | .fn _, _, _ => rfl
  | .rg _ _ _, _, _ => rfl
theorem IsAll.und : ∀ {ws : List W} {vs : List V}, IsAll K ρ F vs ws → W.undAll ρ.length ws = true
  | [], _, _ => rfl
  | w :: ws, _, h => by
    cases h with
    | cons a b => simp [W.undAll, Is.und a, IsAll.und b]
end
mutual
theorem Is.pop {b : Nat} : ∀ {w : W} {v : V}, Is K ρ F v w → w.und b = true → Is K (ρ.take b) F v w
  | .dat _, _, h, _ => by
    cases h with
    | dat r => exact .dat r
  | .loc n, _, h, u => by
    cases h with
    | loc r =>
      simp [W.und] at u
      exact .loc (by rw [List.getElem?_take_of_lt u]; exact r)
  | .tw ws, _, h, u => by
    cases h with
    | tw s r => exact .tw s (IsAll.pop r (by simpa [W.und] using u))
  | .lw ws, _, h, u => by
    cases h with
    | lw s r => exact .lw s (IsAll.pop r (by simpa [W.und] using u))
  | .kt ds, _, h, u => by
    cases h with
    | kt s c d r => exact .kt s c d r
  | .fn x, _, h, u => by
    cases h with
    | fn s => exact .fn s
  | .rg x y z, _, h, u => by
    cases h with
    | rg s => exact .rg s
theorem IsAll.pop {b : Nat} : ∀ {ws : List W} {vs : List V}, IsAll K ρ F vs ws → W.undAll b ws = true → IsAll K (ρ.take b) F vs ws
  | [], _, h, _ => by cases h; exact .nil
  | w :: ws, _, h, u => by
    cases h with
    | cons x y =>
      simp [W.undAll] at u
      exact .cons (Is.pop x u.1) (IsAll.pop y u.2)
end
theorem IsKV.und : ∀ {ws : List (PyData × W)} {vs : List (PyData × V)}, IsKV K ρ F vs ws → (ws.all fun p => p.2.und ρ.length) = true
  | _, _, .nil => rfl
  | _, _, .cons a b => by simp [List.all_cons, a.und]; simpa using IsKV.und b
theorem IsFs.und : ∀ {ws : List (Str × W)} {vs : List (Str × V)}, IsFs K ρ F vs ws → (ws.all fun p => p.2.und ρ.length) = true
  | _, _, .nil => rfl
  | _, _, .cons a b => by simp [List.all_cons, a.und]; simpa using IsFs.und b
theorem IsKV.pop {b : Nat} : ∀ {ws : List (PyData × W)} {vs : List (PyData × V)}, IsKV K ρ F vs ws → (ws.all fun p => p.2.und b) = true → IsKV K (ρ.take b) F vs ws
  | _, _, .nil, _ => .nil
  | _, _, .cons a c, u => by
    rw [List.all_cons, Bool.and_eq_true] at u
    exact .cons (a.pop u.1) (IsKV.pop c u.2)
theorem IsFs.pop {b : Nat} : ∀ {ws : List (Str × W)} {vs : List (Str × V)}, IsFs K ρ F vs ws → (ws.all fun p => p.2.und b) = true → IsFs K (ρ.take b) F vs ws
  | _, _, .nil, _ => .nil
  | _, _, .cons a c, u => by
    rw [List.all_cons, Bool.and_eq_true] at u
    exact .cons (a.pop u.1) (IsFs.pop c u.2)
theorem CellOk.und {a : Addr} {c : Cell} (h : CellOk g ρ F H a c) : c.und ρ.length = true := by
  cases c with
  | lst ws => obtain ⟨vs, _, l⟩ := h; exact l.und
  | dic ws => rcases h with ⟨_, _, l⟩ | ⟨_, _, l⟩ <;> exact l.und
  | ins c fs => obtain ⟨_, _, _, l⟩ := h; exact l.und
  | fz ws => rcases h with ⟨_, _, _, _, l⟩ | ⟨_, _, _, _, l⟩ <;> exact l.und
theorem CellOk.pop {a : Addr} {c : Cell} {b : Nat} (h : CellOk g ρ F H a c) (u : c.und b = true) : CellOk g (ρ.take b) F H a c := by
  cases c with
  | lst ws => obtain ⟨vs, e, l⟩ := h; exact ⟨vs, e, l.pop u⟩
  | dic ws =>
    rcases h with ⟨k, e, l⟩ | ⟨k, e, l⟩
    · exact .inl ⟨k, e, l.pop u⟩
    · exact .inr ⟨k, e, l.pop u⟩
  | ins c fs => obtain ⟨d, k, e, l⟩ := h; exact ⟨d, k, e, l.pop u⟩
  | fz ws =>
    rcases h with ⟨o, k, e, f, l⟩ | ⟨o, k, e, f, l⟩
    · exact .inl ⟨o, k, e, f, l.pop u⟩
    · exact .inr ⟨o, k, e, f, l.pop u⟩
theorem Sim.pushB (s : Sim g bs ρ F N S H) : Sim g (S.length :: bs) ρ F N S H :=
  ⟨s.len, s.nd, s.ex, s.fr, s.cell, s.hid, s.nf, s.nl, (fun b hb => by
    rcases List.mem_cons.mp hb with h | h
    · subst h
      refine ⟨Nat.le_refl _, fun k c hk e => ?_⟩
      have hk' : k < ρ.length := by rw [s.len]; exact hk
      have := (s.cell k c ρ[k] e (List.getElem?_eq_getElem hk')).und
      rwa [s.len] at this
    · exact s.bot b h), s.tab, s.nt⟩
theorem Sim.dropB {b : Nat} (s : Sim g (b :: bs) ρ F N S H) : Sim g bs ρ F N S H := ⟨s.len, s.nd, s.ex, s.fr, s.cell, s.hid, s.nf, s.nl, fun b hb => s.bot b (List.mem_cons_of_mem _ hb), s.tab, s.nt⟩
theorem Sim.pop {b : Nat} (s : Sim g (b :: bs) ρ F N S H) (hb : ∀ c ∈ bs, c ≤ b) : Sim g bs (ρ.take b) F N (S.take b) H := by
  obtain ⟨b1, b2⟩ := s.bot b (List.mem_cons_self ..)
  have hsub : ∀ a ∈ ρ.take b, a ∈ ρ := fun a ha => List.mem_of_mem_take ha
  refine ⟨by simp [s.len], s.nd.sublist (List.take_sublist ..), s.ex, fun n c a e1 e2 e3 => (by
    have hn : n < b := by
      have := (List.getElem?_eq_some_iff.mp e1).1
      simp at this; omega
    rw [List.getElem?_take_of_lt hn] at e1 e2
    exact s.fr n c a e1 e2 e3), fun n c a e1 e2 => ?_, s.hid, fun a o e => ⟨(s.nf a o e).1, fun h => (s.nf a o e).2 (hsub a h)⟩, s.nl, fun c hc => ?_, s.tab, s.nt⟩
  · have hn : n < b := by
      have := (List.getElem?_eq_some_iff.mp e1).1
      simp at this; omega
    rw [List.getElem?_take_of_lt hn] at e1 e2
    exact (s.cell n c a e1 e2).pop (b2 n c hn e1)
  · obtain ⟨c1, c2⟩ := s.bot c (List.mem_cons_of_mem _ hc)
    have := hb c hc
    refine ⟨by simp; omega, fun k x hk e => c2 k x hk ?_⟩
    rw [List.getElem?_take_of_lt (by omega)] at e
    exact e
end
abbrev FnT := List Nat → List W → Store → Out W
def popR (b : Nat) : Out W → Out W
  | .ok w S => if w.und b = true then .ok w (S.take b) else .ok w S
  | .ex c ws S => if W.undAll b ws = true then .ex c ws (S.take b) else .ex c ws S
  | .stuck => .stuck
def SO.out : SO → Out W
  | .nx _ S => .ok .non S
  | .rt w S => .ok w S
  | .ex c ws _ S => .ex c ws S
  | _ => .stuck
def startE (n : Nat) (ws : List W) : Env := ws.map some ++ List.replicate (n - ws.length) none
/-- a def of n names, the first p of them parameters -/
def fnM (n p : Nat) (m : MS) : FnT := fun bs ws S => if ws.length = p then popR S.length (m (S.length :: bs) (startE n ws) S).out else .stuck
def spF (g : Gx) (f : FnT) : Sp := fun vs H Q E => ∃ bs ρ F N S ws, Sim g bs ρ F N S H ∧ IsAll g.K ρ F vs ws ∧ g.more ρ F ∧ Post g (fun c d _ H => E c d H) (RW g) bs ρ F N [] Q (f bs ws S)
section
variable {g : Gx} {B : WX} {bs : List Nat} {ρ : List Addr} {F N H : Hp} {S : Store} {σ : L2.St}
theorem EnvR.start {n : Nat} {N' : List Str} (hn : N'.length = n) {vs : List V} {ws : List W} (h : IsAll g.K ρ F vs ws) (hm : g.more ρ F) : EnvR g ρ F (start N' vs) (startE n ws) := by
  subst hn
  have hl := h.len
  refine ⟨by simp [L2.start, startE, hl], fun i w hi => ?_, hm⟩
  unfold startE at hi
  by_cases hk : i < ws.length
  · rw [List.getElem?_append_left (by simpa using hk), List.getElem?_map] at hi
    cases hw : ws[i]? with
    | none => rw [hw] at hi; cases hi
    | some w' =>
      rw [hw] at hi
      cases hi
      obtain ⟨v, hv, r⟩ := h.get hw
      refine ⟨v, ?_, r⟩
      unfold L2.start
      rw [List.getElem?_append_left (by simp [hl]; exact hk), List.getElem?_map, hv]; rfl
  · rw [List.getElem?_append_right (by simpa using Nat.le_of_not_lt hk)] at hi
    rw [List.getElem?_replicate] at hi
    split at hi
    · cases hi
    · cases hi
theorem grow_take {b : Nat} {ρ' : List Addr} {F' : Hp} (gr : Grow ρ F ρ' F') (hb : ρ.length = b) : Grow ρ F (ρ'.take b) F' := by
  obtain ⟨⟨t, e⟩, x⟩ := gr
  subst e hb
  exact ⟨⟨[], by simp⟩, x⟩
/-- a body's end, its frame popped -/
theorem post_pop {Q : VK} {E : XK} {o : SO} (hS : ρ.length = S.length) (hb : ∀ c ∈ bs, c ≤ S.length) (h : Post g (fun c d _ H => E c d H) (RW g) bs ρ F N [] Q (popR S.length o.out)) :
    PostS g (fun c d _ H => E c d H) (S.length :: bs) ρ F N { nx := fun _ H' => Q .non H', rt := Q } o := by
  cases o with
  | nx e S1 =>
    intro ρ' F' H' σ' gr s _
    have h' : Post g (fun c d _ H => E c d H) (RW g) bs ρ F N [] Q (.ok .non (S1.take S.length)) := h
    exact h' (ρ'.take S.length) F' H' .non (grow_take gr hS) (s.pop hb) (.dat .non)
  | rt w S1 =>
    intro ρ' F' H' v gr s r
    have h' : Post g (fun c d _ H => E c d H) (RW g) bs ρ F N [] Q (if w.und S.length = true then .ok w (S1.take S.length) else .ok w S1) := h
    by_cases hw : w.und S.length = true
    · rw [if_pos hw] at h'
      exact h' (ρ'.take S.length) F' H' v (grow_take gr hS) (s.pop hb) (r.pop hw)
    · rw [if_neg hw] at h'
      exact h' ρ' F' H' v gr s.dropB r
  | bk e S1 => exact h.elim
  | ct e S1 => exact h.elim
  | ex c ws e S1 =>
    intro ρ' F' H' σ' d gr s _ r
    have h' : Post g (fun c d _ H => E c d H) (RW g) bs ρ F N [] Q (if W.undAll S.length ws = true then .ex c ws (S1.take S.length) else .ex c ws S1) := h
    by_cases hw : W.undAll S.length ws = true
    · rw [if_pos hw] at h'
      refine h' (ρ'.take S.length) F' H' d (grow_take gr hS) (s.pop hb) ?_
      cases ws with
      | nil => exact r
      | cons w ws =>
        obtain ⟨a, v, e1, e2, e3⟩ := r
        simp [W.undAll] at hw
        exact ⟨a, v, e1, e2, e3.pop hw.1⟩
    · rw [if_neg hw] at h'
      exact h' ρ' F' H' d gr s.dropB r
  | stuck => exact h.elim
/-- room, and nothing is being printed -/
structure RoomG (k : Nat) (A : Around) : Prop where
  rm : Room k A
  gd : A.guards = some []
theorem RoomG.mono {j k : Nat} {A : Around} (r : RoomG k A) (h : j ≤ k) : RoomG j A := ⟨r.rm.mono h, r.gd⟩
theorem RoomG.deeper {k : Nat} {A : Around} (r : RoomG (k + 1) A) (env : PySem.Env) : RoomG k (A.deeper env) := ⟨r.rm.deeper env, r.gd⟩
variable {P : Program} {w : World} {K : PySem.W.Frag} {mg : Str → Option Value} {base : Heap}
/-- what a def does, called where nothing is being printed -/
structure FnG (P : Program) (w : World) (K : PySem.W.Frag) (mg : Str → Option Value) (base : Heap) (k : Nat) (f : Addr) (fd : FuncData) (ps : List Str) (sp : Sp) : Prop where
  cnt : ∀ vs H Q E, sp vs H Q E → vs.length = ps.length
  go : ∀ (A : Around) (st : List PySem.Env) (s : Shared) (H : Hp) (as : Args) (us : List Value) (vs : List V) (Q : VK) (E : XK), RoomG k A → Env0 P w K mg base A st s H → BindsTo s fd as (ps.zip us) → Vals vs us → sp vs H Q E →
    codeAny (model P w) A (.call (.ref f) as) (CR (L2.CX P w) st P w H s Q E) s
theorem fn_ok {x qual : Str} {st : Stmt} {f : Addr} {fd : FuncData} {N ps : List Str} {k n p : Nat} {m : MS} (Fu : Fun K x qual st f fd) (S : FnScope N ps (defScope st))
    (hbody : ∀ (cdv : Value) (A : Around) (outer : List PySem.Env) (s : Shared) (H : Hp) (E : XK), RoomG k (A.deeper (envOfC qual (defScope st) s.heap.objs.size f cdv)) → fd.code = cdv →
      PSs (cxOf (L2.CX P w) P w K mg base N qual (defScope st) f cdv A outer s H E) (defBody st) (rdS g (fun c d _ H => E c d H) m)) (hn : N.length = n := by rfl) (hp : ps.length = p := by rfl) : FnG P w K mg base (k + 1) f fd ps (spF g (fnM n p m)) := by
  have cnt : ∀ vs H Q E, spF g (fnM n p m) vs H Q E → vs.length = ps.length := fun vs H Q E h => by
    obtain ⟨bs, ρ, F, N', S, ws, s, l, _, q⟩ := h
    unfold fnM at q
    split at q
    · rename_i hl; rw [l.len, hp]; exact hl
    · exact q.elim
  obtain ⟨oc, od, kV, doc, pm, an, cdv, ct, osl, rfl, lk, hcd⟩ := Fu.ex
  refine ⟨cnt, fun A st1 s H as us vs Q E room e0 bind vals h => ?_⟩
  have hin : K.In s.heap := e0.mod.kin.keeps fun b o z => (e0.bs b o z).1
  have lim : s.heap.NoLimit := e0.mod.nolimit.keeps fun b o z => (e0.bs b o z).1
  have kinds : ∀ y ∈ ps.zip us, (defScope st).names.lookup y.1 = some .local ∨ ((defScope st).names.lookup y.1 = some .cell ∧ ((cellsFrom (s.heap.objs.size + 1) (defScope st).names []).lookup y.1).isSome = true) := fun y hy => by
    obtain ⟨y1, y2⟩ := y
    rcases S.par y1 (List.of_mem_zip hy).1 with z | z
    · exact .inl z
    · exact .inr ⟨z, PySem.W.cellsFrom_some _ _ _ (.inl z)⟩
  refine codeAny_call_function room.rm.depth (hin _ _ lk) rfl S.co S.gen rfl (PySem.W.codeRec_of hin hcd) (bind _ _ _ _ ?_)
  refine wpAny_newFunctionEnv_cells S.kind kinds fun env1 henv s1 new => ?_
  subst henv
  refine ⟨lim.keeps new.toInCall.keep, codeAny_func ?_⟩
  have len := cnt _ _ _ _ h
  obtain ⟨bs, ρ, F, N', S', ws, sim, l, mo, q⟩ := h
  have run := hbody cdv A st1 s H E (room.deeper _) rfl
  have inv : Inv (cxOf (L2.CX P w) P w K mg base N qual (defScope st) f cdv A st1 s H E) [] (start N vs) H s1 := inv_start S room.rm.hd e0 len vals new
  unfold fnM at q
  split at q
  · have hq : rdS g (fun c d _ H => E c d H) m { nx := fun _ H' => Q .non H', rt := Q } (start N vs) H :=
      ⟨S'.length :: bs, ρ, F, N', startE n ws, S', sim.pushB, EnvR.start hn l mo, post_pop sim.len (fun c hc => (sim.bot c hc).1) q⟩
    refine wpAny_mono (run.run [] s1 (start N vs) H _ inv hq) (fun fl s' done => ?_) fun _ _ z => z
    cases fl with
    | ret u =>
      obtain ⟨v, σ', H', J, rel, z⟩ := done
      exact ⟨v, H', J.os, J.bare, J.base, J.hok, rel, z⟩
    | next =>
      obtain ⟨σ', H', J, z⟩ := done
      exact ⟨V.non, H', J.os, J.bare, J.base, J.hok, rfl, z⟩
    | brk => exact done.choose_spec.choose_spec.2.elim
    | cont => exact done.choose_spec.choose_spec.2.elim
  · exact q.elim
end
section
variable {X : Cx} {g : Gx} {B : WX} {k : Nat} {f : Addr} {fd : FuncData} {ps : List Str} {x : Str} {p pos : Pos} {e : Expr} {es : List Expr} {ms : M (List W)} {ff : FnT}
def mCall (f : FnT) (ms : M (List W)) : M W := fun bs env S => (ms bs env S).bind fun ws S1 => f bs ws S1
theorem post_at {bs : List Nat} {ρ : List Addr} {F N : Hp} {σ : L2.St} {Q : VK} {o : Out W} (h : Post g B (RW g) bs ρ F N σ Q o) : Post g (fun c d _ H => WE B σ c d H) (RW g) bs ρ F N [] Q o := by
  cases o with
  | ok w S => exact h
  | ex c ws S => exact h
  | stuck => exact h
/-- a call of such a def -/
theorem pe_callG {sp : Sp} {E : L2.St → XK} {t : TA} (Fo : FnG X.prog X.w X.K X.mg X.base k f fd ps sp) (room : RoomG k X.A) (hg : Gl X x) (hm : X.mg x = some (.ref f)) (hk : PySem.W.keepIn X.K (.ref f) = true) (bind : Binds X.K fd ps []) (out : ∀ σ, PassesAt (L2.CX X.prog X.w) X σ (E σ))
    (args : PA X (e :: es) t) (hdb : (x == ("__debug__" : Str)) = false) (he : starEach (e :: es) X.env = (false, eval e X.env) :: starEach es X.env) (hpl : (backTo pos (starEach es X.env)).any (·.1) = false) :
    PE X (.Call (.Name x p) (e :: es) [] pos) (fun σ H Q => t σ H fun vs H1 => sp vs H1 Q (E σ)) := by
  refine ⟨fun pins s σ H Q inv h => ?_⟩
  refine wpAny_Call_Name_kw (ld_glob inv hg hm ?_ hdb)
  refine PySem.W.callWith_K (h₀ := X.base) inv.ok.mod.kin hk (thn (args.run pos pins s σ H _ inv h) fun us s1 told => ?_) he hpl
  obtain ⟨vs, H1, inv1, rel, q⟩ := told
  refine ⟨inv1.kIn, wpAny_call ?_⟩
  have len : us.length = ps.length := rel.length.symm.trans (Fo.cnt _ _ _ _ q)
  have b := bind s1 us inv1.kIn (by simpa using len)
  rw [List.append_nil] at b
  refine codeAny_mono (Fo.go X.A X.stack s1 H1 ⟨us, []⟩ us vs Q (E σ) room inv1.env0 b rel q) fun r s' done => ?_
  cases r with
  | error ex => exact out σ pins H1 s1 ex s' inv1 done
  | ok fl =>
    cases fl with
    | ret u => exact inv1.after done
    | next => exact done.elim
    | brk => exact done.elim
    | cont => exact done.elim
theorem re_call (tk : Takes X B) (Fo : FnG X.prog X.w X.K X.mg X.base k f fd ps (spF g ff)) (hr : RoomG k X.A) (hg : Gl X x) (hm : X.mg x = some (.ref f)) (hk : PySem.W.keepIn X.K (.ref f) = true) (hb : Binds X.K fd ps [])
    (ha : PA X (e :: es) (rdA g B ms)) (hdb : (x == ("__debug__" : Str)) = false := by decide) (he : starEach (e :: es) X.env = (false, eval e X.env) :: starEach es X.env := by rfl) (hpl : (backTo pos (starEach es X.env)).any (·.1) = false := by rfl) :
    PE X (.Call (.Name x p) (e :: es) [] pos) (rd g B (mCall ff ms)) := (pe_callG Fo hr hg hm hk hb (passAt tk) ha hdb he hpl).imp fun σ H Q ⟨bs, ρ, F, N, env, S, s, e, p⟩ => by
  refine ⟨bs, ρ, F, N, env, S, s, e, (Post.bind (R1 := RWs g) p).imp fun vs H1 ⟨ρ1, F1, ws, S1, g1, s1, r1, p1⟩ => ?_⟩
  exact ⟨bs, ρ1, F1, N, S1, ws, s1, r1, (e.mono g1).more, post_at p1⟩
end
end Rf

namespace Rf
open PySem L2 PyProof.Rows

/-! ### what is walked, by the value -/
def ItR (X : Cx) (tg : Expr) (r : V → Hp → (It → Hp → Prop) → Prop) : Prop :=
  ∀ (pins : List (Addr × Obj)) (s : Shared) (σ : L2.St) (H : Hp) (x : V) (v : Value) (R : It → Hp → Prop), Inv X pins σ H s → RelV x v → r x H R → wpAny (model X.prog X.w) X.A (pyIter v) (PIE X pins σ tg R) X.xe s
theorem ItR.or {X : Cx} {tg : Expr} {r r' : V → Hp → (It → Hp → Prop) → Prop} (h : ItR X tg r) (h' : ItR X tg r') : ItR X tg (fun x H R => r x H R ∨ r' x H R) := by
  intro pins s σ H x v R I rx q
  rcases q with q | q
  · exact h pins s σ H x v R I rx q
  · exact h' pins s σ H x v R I rx q
theorem pi_it {X : Cx} {tg l : Expr} {tl : TE} {r : V → Hp → (It → Hp → Prop) → Prop} (hr : ItR X tg r) (hl : PE X l tl) : PI X tg l (fun σ H R => tl σ H fun x H1 => r x H1 R) := by
  refine ⟨fun pins s σ H R I h => ?_⟩
  exact thn (hl.run pins s σ H _ I h) fun v s1 ⟨x, H1, I1, r1, q1⟩ => hr pins s1 σ H1 x v R I1 r1 q1
section
variable {X : Cx} {tg : Expr}
theorem it_list : ItR X tg (fun x H R => ∃ a, x = .ref a ∧ (∃ xs, SqL X.K H a xs) ∧ R (Itl X.K a) H) := by
  intro pins s σ H x v R I rx q
  obtain ⟨a, rfl, ⟨xs, hq⟩, q⟩ := q
  cases rx
  obtain ⟨its, rv, p, hz⟩ := I.list hq
  exact wpAny_pyIter_list p.isList ⟨s.heap.objs.size, [s.heap.objs.size], _, _, H, rfl, I.kept (t' := s.toks) fun _ _ z => Heap.get?_push_of_some _ z, turn_list a _, ⟨_, Heap.get?_push_size _ rfl, rfl, rfl⟩, fun c hc => by
    have z : c = s.heap.objs.size := by simpa using hc
    rw [z]; exact I.fpOk (Nat.le_refl _) (I.hok.fresh (Nat.le_refl _)), q⟩
theorem it_tup : ItR X tg (fun x H R => ∃ a, x = .ref a ∧ (∃ xs, SqT X.K H a xs) ∧ R (Itt X.K a) H) := by
  intro pins s σ H x v R I rx q
  obtain ⟨a, rfl, ⟨xs, hq⟩, q⟩ := q
  cases rx
  obtain ⟨its, rv, p, hz⟩ := I.tuple hq
  exact wpAny_pyIter_tuple (show s.heap.IsTuple a its.toArray from p) ⟨s.heap.objs.size, [s.heap.objs.size], _, _, H, rfl, I.kept (t' := s.toks) fun _ _ z => Heap.get?_push_of_some _ z, turn_tuple a _, ⟨_, Heap.get?_push_size _ rfl, rfl, rfl⟩, fun c hc => by
    have z : c = s.heap.objs.size := by simpa using hc
    rw [z]; exact I.fpOk (Nat.le_refl _) (I.hok.fresh (Nat.le_refl _)), q⟩
variable {g : Gx} {B : WX} {a : Expr} {ma : M W}
def iterA (S : Store) (w : W) : Option Iter := match iterT w with
  | some it => some it
  | none => iterL S w
def mIt (m : M W) : M Iter := fun bs env S => (m bs env S).bind fun w S1 => match iterA S1 w with
  | some it => .ok it S1
  | none => .stuck
/-- a global of the module -/
theorem re_globE {x : Str} {d : PyData} {v : V} {pos : Pos} (hg : Gl X x) (hm : ∃ u, X.mg x = some u ∧ RelV v u) (hr : ∀ F, Rp g.K F v d) (hd : (x == ("__debug__" : Str)) = false := by decide) : PE X (.Name x pos) (rd g B (mCon d)) := by
  obtain ⟨u, h1, h2⟩ := hm
  exact re_glob hg h1 h2 hr hd
theorem un100 {A : Around} {k : Nat} (h : RoomG k A) : A.units + 100 < cLine := Nat.lt_of_le_of_lt (by omega) h.rm.un
theorem un1 {A : Around} {k : Nat} (h : RoomG k A) : A.units + 1 < cLine := Nat.lt_of_le_of_lt (by omega) h.rm.un
end
end Rf

namespace Rf
open PySem L2 PyProof.Rows
/-! ### targets that never raise -/
theorem calm_nil (ws : List W) (bs : List Nat) (env : Env) (S : Store) (c : Nat) (us : List W) (S1 : Store) : tNil ws bs env S ≠ .ex c us S1 := by
  cases ws <;> simp [tNil]
theorem calm_name {i : Nat} (w : W) (bs : List Nat) (env : Env) (S : Store) (c : Nat) (us : List W) (S1 : Store) : tName i w bs env S ≠ .ex c us S1 := by simp [tName]
theorem calm_cons {t : TM} {u : TMs} (h : ∀ w bs env S c us S1, t w bs env S ≠ .ex c us S1) (k : ∀ ws bs env S c us S1, u ws bs env S ≠ .ex c us S1) (ws : List W) (bs : List Nat) (env : Env) (S : Store) (c : Nat) (us : List W) (S1 : Store) : tCons t u ws bs env S ≠ .ex c us S1 := by
  cases ws with
  | nil => simp [tCons]
  | cons w r =>
    unfold tCons
    intro e
    cases ht : t w bs env S with
    | ok e1 S2 => simp only [ht, Out.bind_ok] at e; exact k _ _ _ _ _ _ _ e
    | ex c' us' S2 => exact h _ _ _ _ _ _ _ ht
    | stuck => simp [ht] at e
end Rf

namespace Rf
open PySem L2 PyProof.Rows RZ

/-! ### zip, enumerate -/
/-- what an iterator over a sequence stands for; L: a list -/
def RepQ (L : Bool) (g : Gx) (ρ : List Addr) (F : Hp) (it : Iter) (a : Addr) : Prop := ∀ bs ρ' F' N' S' H', Grow ρ F ρ' F' → Sim g bs ρ' F' N' S' H' →
  (∃ vs ws, (if L then SqL g.K H' a vs else SqT g.K H' a vs) ∧ IsAll g.K ρ' F' vs ws ∧ ∀ i, it.next i S' = some ws[i]?) ∨ ∀ i, it.next i S' = none
section
variable {X : Cx} {tg : Expr} {g : Gx} {B : WX} {bs : List Nat} {ρ : List Addr} {F N H : Hp} {S : Store} {a b e : Expr} {ma mb : M W} {ms : M (List W)} {p pos tpos : Pos} {elts : List Expr} {kk : Nat}
theorem rep_tup {w : W} {v : V} {it : Iter} (s : Sim g bs ρ F N S H) (r : Is g.K ρ F v w) (h : iterT w = some it) : ∃ x, v = .ref x ∧ (∃ vs, SqT g.K H x vs) ∧ RepQ false g ρ F it x := by
  unfold iterT at h
  simp only [Option.map_eq_some_iff] at h
  obtain ⟨ws, hw, rfl⟩ := h
  obtain ⟨x, vs, rfl, q, l⟩ := tup_of r hw
  exact ⟨x, rfl, ⟨vs, Same.sqT s.ex q⟩, fun bs ρ' F' N' S' H' gr s' => .inl ⟨vs, ws, Same.sqT s'.ex (Same.sqT gr.ex q), l.mono gr, fun i => rfl⟩⟩
theorem rep_lst {w : W} {v : V} {it : Iter} (s : Sim g bs ρ F N S H) (r : Is g.K ρ F v w) (h : iterL S w = some it) : ∃ x, v = .ref x ∧ (∃ vs, SqL g.K H x vs) ∧ RepQ true g ρ F it x := by
  unfold iterL at h
  cases w with
  | dat d =>
    cases d <;> try cases h
    cases r with
    | dat r => cases r with
      | @lst x vs ds q r => exact ⟨_, rfl, ⟨_, SqL.of (s.ex _ _ q)⟩, fun bs ρ' F' N' S' H' gr s' => .inl ⟨vs, _, SqL.of (s'.ex _ _ (gr.ex _ _ q)), (r.isAll).mono gr, fun i => rfl⟩⟩
  | lw ws =>
    cases h
    cases r with
    | lw q r => exact ⟨_, rfl, ⟨_, s.ex.seq q⟩, fun bs ρ' F' N' S' H' gr s' => .inl ⟨_, ws, s'.ex.seq (gr.ex.seq q), r.mono gr, fun i => rfl⟩⟩
  | tw ws => cases h
  | kt ws => cases h
  | fn ws => cases h
  | rg x y z => cases h
  | loc n =>
    simp only at h
    split at h
    · rename_i us hS
      cases h
      cases r with
      | loc hn =>
        obtain ⟨vs, e, l⟩ := s.cell n _ _ hS hn
        refine ⟨_, rfl, ⟨vs, SqL.of e⟩, fun bs ρ' F' N' S' H' gr s' => ?_⟩
        have hn' := gr.at hn
        cases hc : S'[n]? with
        | none => exact .inr fun i => by show (match S'[n]? with | some (.lst ws) => some ws[i]? | _ => none : Option (Option W)) = none; rw [hc]
        | some c =>
          cases c with
          | lst ws =>
            obtain ⟨vs, e, l⟩ := s'.cell n _ _ hc hn'
            exact .inl ⟨vs, ws, SqL.of e, l, fun i => by show (match S'[n]? with | some (.lst ws) => some ws[i]? | _ => none : Option (Option W)) = _; rw [hc]⟩
          | dic _ => exact .inr fun i => by show (match S'[n]? with | some (.lst ws) => some ws[i]? | _ => none : Option (Option W)) = none; rw [hc]
          | ins _ _ => exact .inr fun i => by show (match S'[n]? with | some (.lst ws) => some ws[i]? | _ => none : Option (Option W)) = none; rw [hc]
          | fz _ => exact .inr fun i => by show (match S'[n]? with | some (.lst ws) => some ws[i]? | _ => none : Option (Option W)) = none; rw [hc]
    · cases h
theorem walk_zip {L : Bool} {x y : Addr} {i1 i2 : Iter} (r1 : RepQ L g ρ F i1 x) (r2 : RepQ L g ρ F i2 y) : WalkOk g (if L then Itz g.K x y else ItzT g.K x y) ρ F (.zip i1 i2) := by
  intro bs ρ' F' N' S' H' i gr s
  show match (match i1.next i S', i2.next i S' with
    | some (some x), some (some y) => some (some (mkTup [x, y]))
    | some none, some _ => some none
    | some _, some none => some none
    | _, _ => none : Option (Option W)) with
    | some (some w) => _
    | some none => _
    | none => True
  rcases r1 bs ρ' F' N' S' H' gr s with ⟨vs, ws, q1, l1, e1⟩ | e1
  · rcases r2 bs ρ' F' N' S' H' gr s with ⟨us, zs, q2, l2, e2⟩ | e2
    · rw [e1 i, e2 i]
      cases hw : ws[i]? with
      | none =>
        have hl : vs.length ≤ i := by rw [l1.len]; exact List.getElem?_eq_none_iff.mp hw
        cases hz : zs[i]? <;> (cases L <;> exact ⟨vs, us, q1, q2, .inl hl⟩)
      | some w =>
        cases hz : zs[i]? with
        | none =>
          have hl : us.length ≤ i := by rw [l2.len]; exact List.getElem?_eq_none_iff.mp hz
          cases L <;> exact ⟨vs, us, q1, q2, .inr hl⟩
        | some z =>
          obtain ⟨v, hv, rv⟩ := l1.get hw
          obtain ⟨u, hu, ru⟩ := l2.get hz
          refine ⟨by cases L <;> exact ⟨vs, us, v, u, q1, q2, hv, hu⟩, fun xv H2 h => ?_⟩
          obtain ⟨T, v', u', rfl, hT, rfl, h1, h2⟩ : ∃ T v' u', xv = .ref T ∧ H' T = none ∧ H2 = upd H' T (.tup [v', u']) ∧ vs[i]? = some v' ∧ us[i]? = some u' := by
            cases L
            · obtain ⟨T, v', u', e1, e2, e3, e4, e5⟩ := h; exact ⟨T, v', u', e1, e2, e3, e4 vs q1, e5 us q2⟩
            · obtain ⟨T, v', u', e1, e2, e3, e4, e5⟩ := h; exact ⟨T, v', u', e1, e2, e3, e4 vs q1, e5 us q2⟩
          rw [hv] at h1; cases h1
          rw [hu] at h2; cases h2
          obtain ⟨s', g'⟩ := s.frozen (o := .tup [v, u]) hT
          exact ⟨_, g', s', is_mkTup upd_same (.cons (rv.mono g') (.cons (ru.mono g') .nil))⟩
    · rw [e1 i, e2 i]; cases ws[i]? <;> trivial
  · rw [e1 i]; trivial
def zipO (S : Store) (x y : W) : Option Iter := match iterT x, iterT y with
  | some i, some j => some (.zip i j)
  | none, none => match iterL S x, iterL S y with
    | some i, some j => some (.zip i j)
    | _, _ => none
  | _, _ => none
def mZip (ms : M (List W)) : M Iter := fun bs env S => (ms bs env S).bind fun ws S1 => match ws with
  | [x, y] => match zipO S1 x y with
    | some it => .ok it S1
    | none => .stuck
  | _ => .stuck
theorem ri_zip (hK : g.K = X.K) (hg : Gl X "zip") (hm : X.mg "zip" = none) (ha : PA X [a, b] (rdA g B ms)) (hs : starEach [a, b] X.env = (false, eval a X.env) :: starEach [b] X.env := by rfl) (hpl : (backTo pos (starEach [b] X.env)).any (·.1) = false := by rfl) :
    PI X (.Tuple elts kk tpos) (.Call (.Name "zip" p) [a, b] [] pos) (rdI g B (mZip ms)) := (pi_zipA hg hm ha hs hpl).imp fun σ H R ⟨bs, ρ, F, N, env, S, s, e, p⟩ => by
  refine ⟨bs, ρ, F, N, env, S, s, e, (Post.iter (R := RWs g) p).imp fun x H1 ⟨ρ1, F1, wx, S1, g1, s1, r1, p1⟩ => ?_⟩
  rw [← hK]
  split at p1
  · rename_i w u
    obtain ⟨v, z, rfl, rv, rz⟩ := all_two r1
    split at p1
    · rename_i it hit
      unfold zipO at hit
      split at hit
      · rename_i i j hi hj
        cases hit
        obtain ⟨x, rfl, ⟨vs, q1⟩, w1⟩ := rep_tup s1 rv hi
        obtain ⟨y, rfl, ⟨us, q2⟩, w2⟩ := rep_tup s1 rz hj
        exact ⟨x, y, vs, us, rfl, .inr ⟨q1, q2, p1 ρ1 F1 H1 _ (Grow.refl _ _) s1 (walk_zip (L := false) w1 w2)⟩⟩
      · split at hit
        · rename_i i j hi hj
          cases hit
          obtain ⟨x, rfl, ⟨vs, q1⟩, w1⟩ := rep_lst s1 rv hi
          obtain ⟨y, rfl, ⟨us, q2⟩, w2⟩ := rep_lst s1 rz hj
          exact ⟨x, y, vs, us, rfl, .inl ⟨q1, q2, p1 ρ1 F1 H1 _ (Grow.refl _ _) s1 (walk_zip (L := true) w1 w2)⟩⟩
        · cases hit
      · cases hit
    · exact p1.elim
  · exact p1.elim

/-! ### locking what a rule has laid -/
theorem upd_upd2 (H : Hp) (a : Addr) (o o' : HO) : upd (upd H a o) a o' = upd H a o' := by
  funext b
  by_cases h : b = a
  · subst h; rw [upd_same, upd_same]
  · rw [upd_ne h, upd_ne h, upd_ne h]
def tLockR (t : TE) : TE := fun σ H Q => t σ H fun v H1 => ∃ d u, v = .ref d ∧ H1 d = some u ∧ Mut (some u) ∧ ∀ od, Q v (upd H1 d (.frz od u))
theorem pe_lockR {t : TE} (h : PE X e t) : PE X e (tLockR t) := ⟨fun pins s σ H Q I hw => thn (h.run pins s σ H _ I hw) fun v s1 ⟨x, H1, I1, r, d, u, ex, hd, mu, q⟩ => by
  obtain ⟨od, I2⟩ := I1.lock hd mu
  exact ⟨x, _, I2, r, q od⟩⟩
def rLockR (r : List V → Hp → VK → Prop) : List V → Hp → VK → Prop := fun xs H Q => r xs H fun v H1 => ∃ d u, v = .ref d ∧ H1 d = some u ∧ Mut (some u) ∧ ∀ od, Q v (upd H1 d (.frz od u))
/-! ### {} -/
def mDic0 (k : Bool) : M W := fun _ _ S => if k then .ok (.loc S.length) (S ++ [.dic []]) else .ok (.dat (.dict [])) S
theorem re_dic0 {k : Bool} : PE X (.Dict [] [] pos) (rd g B (mDic0 k)) := by
  cases k with
  | true =>
    refine pe_dnewK.imp fun σ H Q ⟨bs, ρ, F, N, env, S, s, e, p⟩ q hq => ?_
    obtain ⟨s', gr⟩ := s.newCell (c := .dic []) (o := .dK []) hq (.inl ⟨[], upd_same, .nil⟩)
    refine p _ _ _ _ gr s' (.loc ?_)
    rw [← s.len]; simp
  | false =>
    refine (pe_lockR pe_dnewK).imp fun σ H Q ⟨bs, ρ, F, N, env, S, s, e, p⟩ q hq => ⟨q, _, rfl, upd_same, True.intro, fun od => ?_⟩
    rw [upd_upd2]
    obtain ⟨s', gr⟩ := s.frozen (o := .frz od (.dK [])) hq
    exact p _ _ _ _ gr s' (.dat (.dicK (kvs := []) upd_same .nil))
end
end Rf

namespace Rf
open PySem L2 PyProof.Rows

/-! ### sorted(d) of a dict whose keys are tuples of ints -/
def keyI (p : List Key × V) : Option (List Int) := p.1.mapM fun k => match k with
  | .inl i => some i
  | .inr _ => none
section
variable {X : Cx}
/-- the keys with the places where they stand -/
abbrev KP := Addr × List Int
def encP (p : KP) : PyData := .tuple (p.2.map .int)
theorem sortable_KP {bs : List KP} (h : ∀ p ∈ bs, p.2 ≠ []) : PySem.W.Sortable (bs.map encP) := .inl fun d hd => by
  obtain ⟨p, hp, rfl⟩ := List.mem_map.mp hd
  cases e : p.2 with
  | nil => exact absurd e (h p hp)
  | cons x r => exact ⟨.int x, r.map .int, by simp [encP, e]⟩
theorem alike_KP {bs : List KP} : PySem.W.AllAlike (bs.map encP) := PySem.W.AllAlike.of fun b b' => by
  show PySem.W.alikeAll (b.2.map .int) (b'.2.map .int) = true
  exact PySem.W.alike_ints _ _
def rSortDT (X : Cx) : List V → Hp → VK → Prop := fun xs H Q => ∃ (d : Addr) (kvs : List (List Key × V)) (ns : List (List Int)), xs = [V.ref d] ∧ Rd H d (.dT kvs) ∧ kvs.map (·.1) = ns.map (fun n => n.map Sum.inl) ∧ (∀ n ∈ ns, n ≠ []) ∧ ns.length ≤ 100000 ∧
  ∀ (bs : List KP) (p : Addr), bs.map (·.2) = ns.mergeSort (fun a b => !PySem.W.dataLt (.tuple (b.map .int)) (.tuple (a.map .int))) → (∀ q ∈ bs, H q.1 = some (.tup (q.2.map V.int))) → H p = none → Q (.ref p) (upd H p (.lst (bs.map fun q => V.ref q.1)))
end
end Rf

namespace Rf
open PySem L2 PyProof.Rows

/-! ### tuples of the heap that come to be known -/
section
variable {X : Cx} {g : Gx} {B : WX} {bs : List Nat} {ρ : List Addr} {F N H : Hp} {S : Store}
/-- the keys as rows of ints, none of them empty -/
def keyRow : PyData → Option (List Int)
  | .tuple ds => match intsD ds with
    | some ns => if ns.isEmpty then none else some ns
    | none => none
  | _ => none
def keyRows : List (PyData × W) → Option (List (List Int))
  | [] => some []
  | p :: ps => match keyRow p.1, keyRows ps with
    | some n, some ns => some (n :: ns)
    | _, _ => none
def rowLe (a b : List Int) : Bool := !PySem.W.dataLt (.tuple (b.map .int)) (.tuple (a.map .int))
/-- sorted(d) -/
def sortDW (k : Bool) (w : W) (S : Store) : Option (W × Store) := match dicOf S w with
  | some ws => match keyRows ws with
    | some ns => if ns.length ≤ 100000 ∧ (isDicC S w || !ws.isEmpty) = true then some (newL k ((ns.mergeSort rowLe).map fun n => .dat (.tuple (n.map .int))) S) else none
    | none => none
  | none => none
theorem keyRow_eq {d : PyData} {ns : List Int} (h : keyRow d = some ns) : d = .tuple (ns.map .int) ∧ ns ≠ [] := by
  unfold keyRow at h
  split at h
  · split at h
    · rename_i ds ns' hi
      split at h
      · cases h
      · rename_i he
        cases h
        exact ⟨by rw [intsD_eq hi], fun z => he (by rw [z]; rfl)⟩
    · cases h
  · cases h
def sortDF (k : Bool) : OpN := fun _ ws S => match ws with
  | [w] => sortDW k w S
  | _ => none
end
end Rf

namespace Rf
open PySem L2 PyProof.Rows

/-! ### xs[::-1] -/
theorem fm_congr {α β : Type} {f g : α → Option β} : ∀ {l : List α}, (∀ a ∈ l, f a = g a) → l.filterMap f = l.filterMap g
  | [], _ => rfl
  | a :: l, h => by rw [List.filterMap_cons, List.filterMap_cons, h a (List.mem_cons_self ..), fm_congr fun b hb => h b (List.mem_cons_of_mem _ hb)]
theorem pick_back (xs : Array Value) : ((List.range xs.size).filterMap fun (m : Nat) => xs[(((xs.size : Int) - 1) + (m : Int) * (-1)).toNat]?).toArray = xs.toList.reverse.toArray := by
  have e : ∀ m, m < xs.size → xs[(((xs.size : Int) - 1) + (m : Int) * (-1)).toNat]? = xs.toList.reverse[m]? := fun m hm => by
    have z : (((xs.size : Int) - 1) + (m : Int) * (-1)).toNat = xs.size - 1 - m := by omega
    rw [z, List.getElem?_reverse (by simpa using hm)]
    simp
  have : (List.range xs.size).filterMap (fun (m : Nat) => xs[(((xs.size : Int) - 1) + (m : Int) * (-1)).toNat]?) = (List.range xs.size).filterMap fun m => xs.toList.reverse[m]? := fm_congr fun m hm => e m (List.mem_range.mp hm)
  rw [this]
  congr 1
  have hl : xs.size = xs.toList.reverse.length := by simp
  rw [hl]
  generalize xs.toList.reverse = l
  induction l with
  | nil => rfl
  | cons a l ih => simp [List.range_succ_eq_map, List.filterMap_cons, List.filterMap_map, Function.comp_def, ih]
section
variable {prog : Program} {w : World} {A : Around} {E : Value → Shared → Prop} {s : Shared}
theorem applied_back {sl : Addr} {t : Tok} {n : Nat} {Q : Int × Int × Nat → Shared → Prop} (hs : s.heap.IsSliceOf sl .none .none (.int (-1) t)) (h : Q ((n : Int) - 1, -1, n) s) : wpAny (model prog w) A (Builtin.Slice.sliceApplied (.ref sl) (pure (n : Int))) Q E s := by
  obtain ⟨os, ho, hc, hd⟩ := id hs
  unfold Builtin.Slice.sliceApplied Builtin.Slice.sliceFields
  refine wpAny_bind (wpAny_bind (wpAny_field ho hd (x := .none) rfl (wpAny_bind (wpAny_field ho hd (x := .none) rfl (wpAny_bind (wpAny_field ho hd (x := .int (-1) t) rfl (wpAny_pure ?_)))))))
  refine wpAny_bind (HT.slicePart_ (.int (-1) t) ?_)
  show wpAny _ _ (if ((-1 : Int) == 0) = true then _ else _) _ _ s
  rw [if_neg (by decide)]
  refine wpAny_bind (slicePart_none (wpAny_bind (slicePart_none (wpAny_bind (wpAny_pure ?_)))))
  show wpAny _ _ (match Builtin.Slice.sliceAdjust none none (-1) (n : Int) with | (lo, hi) => pure (lo, (-1 : Int), Builtin.Slice.slicePlaces lo hi (-1))) _ _ s
  have e1 : Builtin.Slice.sliceAdjust none none (-1) (n : Int) = ((n : Int) - 1, -1) := by
    unfold Builtin.Slice.sliceAdjust; simp
  have e2 : Builtin.Slice.slicePlaces ((n : Int) - 1) (-1) (-1) = n := by
    unfold Builtin.Slice.slicePlaces
    simp
    omega
  rw [e1]
  show wpAny _ _ (pure ((n : Int) - 1, (-1 : Int), Builtin.Slice.slicePlaces ((n : Int) - 1) (-1) (-1))) _ _ s
  rw [e2]
  exact wpAny_pure h
theorem tuple_back {t sl : Addr} {items : Array Value} {k : Tok} {Q : Value → Shared → Prop} (ht : IsTup s.heap t items) (hs : s.heap.IsSliceOf sl .none .none (.int (-1) k))
    (h : Q (.ref s.heap.objs.size) { s with heap := s.heap.push { cls := .type "tuple", data := .seq items.toList.reverse.toArray } }) (hz : items.size ≤ sizeLine) : wpAny (model prog w) A (getItem (.ref t) (.ref sl)) Q E s := by
  have hok : sizeOk (.seq items.toList.reverse.toArray) := by
    show items.toList.reverse.toArray.size ≤ sizeLine
    simpa using hz
  obtain ⟨os, ho, hc, hd⟩ := id hs
  have hT : s.TypeIs (.ref sl) "slice" := ⟨os, ho, hc⟩
  unfold getItem
  refine wpAny_holding (wpAny_bind (wpAny_sequenceKey ht.typeIs (by decide) ?_))
  refine wpAny_bind (wpAny_callSpecial?_slot (name := Str.ofString "__getitem__") ht.typeIs PyProof.Rows.slot_tuple_getitem (wpAny_call_entry PyProof.Rows.slot_tuple_getitem ht.typeIs entry_tuple_getitem ?_ (args_tuple_getitem _ _)))
  show wpAny _ _ (Builtin.Tuple.tupleItemsOf (.ref t) >>= _) _ _ s
  refine wpAny_bind (tupleItemsOf_ ht (wpAny_bind (wpAny_typeOf hT ?_)))
  rw [if_pos (by decide)]
  refine wpAny_bind (applied_back (n := items.size) hs ?_)
  have hno : ¬ ((((items.size : Int) - 1) == 0 && (-1 : Int) == 1 && items.size == items.size) = true) := by simp
  show wpAny _ _ (if ((((items.size : Int) - 1) == 0 && (-1 : Int) == 1 && items.size == items.size) = true) then _ else _) _ _ s
  rw [if_neg hno, pick_back]
  exact wpAny_bind (m := Builtin.Tuple.tupleExact _) (wpAny_newObj_type (wpAny_pure ⟨_, rfl, wpAny_pure h⟩) hok)
end
section
variable {X : Cx} {g : Gx} {B : WX} {e : Expr} {te : TE} {ma : M W} {i : Nat} {p1 p2 p3 pos : Pos}
theorem pe_back (he : PE X e te) : PE X (.Subscript e (.Slice none none (some (.UnaryOp .USub (.Constant (.int 1) i p1) p2)) p3) pos) (fun σ H Q => te σ H fun x H1 => ∃ a xs, x = .ref a ∧
    ((SqL X.K H1 a xs ∧ ∀ p, H1 p = none → Q (.ref p) (upd H1 p (.lst xs.reverse))) ∨ (SqT X.K H1 a xs ∧ ∀ p, H1 p = none → Q (.ref p) (upd H1 p (.tup xs.reverse))))) := by
  refine ⟨fun pins s σ H Q I h => Subscript_ (thn (he.run pins s σ H _ I h) fun v s1 ⟨x, H1, I1, r1, a, xs, ex, q⟩ => ?_)⟩
  subst ex
  cases r1
  have neg1 : PO X (some (.UnaryOp .USub (.Constant (.int 1) i p1) p2)) (tPart (tUn (rU fun j => .int (-j)) (tC (.int 1)))) := po_some (pe_un un_neg pe_int)
  refine wpAny_Slice ?_
  rw [evalPart_none]
  refine wpAny_pure (wpAny_pure ?_)
  refine thn (neg1.run pins s1 σ H1 (fun o H4 => o = some (-1) ∧ H4 = H1) I1 ⟨1, rfl, -1, rfl, rfl, rfl⟩) fun vs s4 ⟨o, H4, I4, ps, eo, e4⟩ => ?_
  subst eo e4
  cases ps with
  | int _ tk =>
    have hsl : ({ s4 with heap := s4.heap.push { cls := .type "slice", data := .fields #[.none, .none, .int (-1) tk] } } : Shared).heap.IsSliceOf s4.heap.objs.size .none .none (.int (-1) tk) := Heap.IsSliceOf.new ..
    have I5 : Inv X pins σ H4 { s4 with heap := s4.heap.push { cls := .type "slice", data := .fields #[.none, .none, .int (-1) tk] } } := I4.kept (t' := s4.toks) fun _ _ z => Heap.get?_push_of_some _ z
    generalize hs5 : ({ s4 with heap := s4.heap.push { cls := .type "slice", data := .fields #[.none, .none, .int (-1) tk] } } : Shared) = s5 at hsl I5
    rcases q with ⟨hx, q⟩ | ⟨hx, q⟩
    · obtain ⟨its, r, ht, hz⟩ := I5.list hx
      have hl := r.length
      refine tail_any (ops := [.ref a, .ref s4.heap.objs.size]) ht.isList.typeIs (PySem.slot_list_getitem.lookup) ?_ (by with_unfolding_all rfl)
      refine wpAny_getItem_list_slice ht.isList hsl (.none) (.none) (.int (-1) tk) (by decide) ?_ (by rw [List.size_toArray]; omega)
      rw [PySem.W.krv_pick]
      exact ⟨.ref _, _, I5.laid (t' := s5.toks) (o := .lst xs.reverse) (fun _ _ z => Heap.get?_push_of_some _ z) (Nat.le_refl _) ⟨by rw [List.length_reverse]; exact hz, _, 0, r.reverse, Heap.get?_push_size _ rfl⟩, rfl, q _ (I5.hok.fresh (Nat.le_refl _))⟩
    · obtain ⟨its, r, ht, hz⟩ := I5.tuple hx
      have hl := r.length
      refine tail_any (ops := [.ref a, .ref s4.heap.objs.size]) ht.typeIs (PyProof.Rows.slot_tuple_getitem.lookup) ?_ (by with_unfolding_all rfl)
      refine tuple_back ht hsl ?_ (by rw [List.size_toArray]; omega)
      exact ⟨.ref _, _, I5.laid (t' := s5.toks) (o := .tup xs.reverse) (fun _ _ z => Heap.get?_push_of_some _ z) (Nat.le_refl _) ⟨by rw [List.length_reverse]; exact hz, _, r.reverse, IsTup.new _ _⟩, rfl, q _ (I5.hok.fresh (Nat.le_refl _))⟩
def mBack (k : Bool) (m : M W) : M W := fun bs env S => (m bs env S).bind fun w S1 => match tupOf w with
  | some ws => .ok (mkTup ws.reverse) S1
  | none => match lstOf S1 w with
    | some ws => .ok (newL k ws.reverse S1).1 (newL k ws.reverse S1).2
    | none => .stuck
theorem re_back (hK : g.K = X.K) {k : Bool} (he : PE X e (rd g B ma)) : PE X (.Subscript e (.Slice none none (some (.UnaryOp .USub (.Constant (.int 1) i p1) p2)) p3) pos) (rd g B (mBack k ma)) := (pe_back he).imp fun σ H Q ⟨bs, ρ, F, N, env, S, s, e, p⟩ => by
  refine ⟨bs, ρ, F, N, env, S, s, e, (Post.bind (R1 := RW g) p).imp fun x H1 ⟨ρ1, F1, wx, S1, g1, s1, r1, p1⟩ => ?_⟩
  split at p1
  · rename_i ws hw
    obtain ⟨a, vs, rfl, q, l⟩ := tup_of r1 hw
    rw [hK] at q
    exact ⟨a, vs, rfl, .inr ⟨Same.sqT s1.ex q, fun q hq => newT_ok s1 hq l.rev p1⟩⟩
  · split at p1
    · rename_i ws hw
      obtain ⟨a, vs, rfl, q, l⟩ := lst_of s1 r1 hw
      rw [hK] at q
      exact ⟨a, vs, rfl, .inl ⟨q, fun q hq => new_ok s1 hq l.rev p1⟩⟩
    · exact p1.elim
end
end Rf

namespace Rf
open PySem PySem.Spec L2 PyProof.Rows

/-! ### tuples of which all is known -/
section
variable {X : Cx} {g : Gx} {B : WX}
def tupleKF : OpN := fun _ ws S => match ws with
  | [w] => match lstOf S w with
    | some xs => (allDat xs).map fun ds => (.kt ds, S)
    | none => none
  | _ => none
def tyKT (x : V) (H : Hp) : Prop := ∃ a o vs, x = .ref a ∧ H a = some (.frz o (.tup vs)) ∧ o.cls = .type "tuple" ∧ o.dict = none
def idxF : OpM := fun _ x ws S => match x, ws with
  | .kt ds, [w] => match viewD S w with
    | some d => if d.plain = true ∧ PyData.plainAll ds = true ∧ SeqAt.shaped (.tuple ds) = true ∧ SeqAt.shaped d = true then (ds.findIdx? fun z => PyData.eqv z d).map fun j => (.int (j : Nat), S) else none
    | none => none
  | _, _ => none
def isKt : W → Bool
  | .kt _ => true
  | _ => false
def mMtK (f : OpM) (mo : M W) (ms : M (List W)) : M W := fun bs env S => (mo bs env S).bind fun w S1 => if isKt w = true then (ms bs env S1).bind fun ws S2 => match f bs w ws S2 with
  | some (r, S3) => .ok r S3
  | none => .stuck
  else .stuck
end
end Rf

namespace Rf
open PySem PySem.Spec L2 PyProof.Rows

/-! ### dict(t), t a tuple of pairs of which all is known -/
def PrOf (K : PySem.W.Frag) (H : Hp) : List V → List (List Key × V) → Prop := Paired fun v kv => ∃ b p, v = .ref p ∧ SqT K H p [.ref b, kv.2] ∧ H b = some (.tup (kv.1.map kV))
section
variable {X : Cx} {g : Gx} {B : WX}
/-- a pair of a key that is a tuple, and a datum -/
def pairKD : PyData → Option (List Key × PyData)
  | .tuple [.tuple ks, v] => if ks.isEmpty = true then none else (keysD ks).map fun k => (k, v)
  | _ => none
def pairsKD : List PyData → Option (List (List Key × PyData))
  | [] => some []
  | d :: ds => match pairKD d, pairsKD ds with
    | some p, some ps => some (p :: ps)
    | _, _ => none
def dictKF : OpN := fun _ ws S => match ws with
  | [.kt ds] => match pairsKD ds with
    | some kvs => if (kvs.map (·.1)).Nodup then some (.dat (.dict (kvs.map fun p => (.tuple (p.1.map kD), p.2))), S) else none
    | none => none
  | _ => none

/-! ### repr -/
def reprD : PyData → Option Str
  | .none => some "None"
  | .bool b => some (if b then "True" else "False")
  | .int i => if i.natAbs.log2 < 1920 then some (toString i) else none
  | .str x => if (reprText x).length ≤ 100000 then some (reprText x) else none
  | .list ds => if PyData.plain (.list ds) = true ∧ PyData.showable (.list ds) = true ∧ PyData.hasDict (.list ds) = false ∧ PyData.depth (.list ds) ≤ 64 ∧ (PyData.shown (.list ds)).length ≤ 100000 then some (PyData.shown (.list ds)) else none
  | .tuple ds => if PyData.plain (.tuple ds) = true ∧ PyData.showable (.tuple ds) = true ∧ PyData.hasDict (.tuple ds) = false ∧ PyData.depth (.tuple ds) ≤ 64 ∧ (PyData.shown (.tuple ds)).length ≤ 100000 then some (PyData.shown (.tuple ds)) else none
  | _ => none
def reprF : OpN := fun _ ws S => match ws with
  | [w] => match viewD S w with
    | some d => (reprD d).map fun t => (.str t, S)
    | none => none
  | _ => none
end
end Rf

namespace Rf
open PySem PySem.Spec L2 PyProof.Rows

/-! ### the end: the law's def, called at the script -/
theorem room_top (k : Nat) (h : Room k callerA) : RoomG k callerA := ⟨h, rfl⟩
section
variable {P : Program} {w : World} {K : PySem.W.Frag} {mg mb : Str → Option Value} {k : Nat} {fa a : Addr} {fd : FuncData} {x : Str} {sp : Sp} {top : Shared} {vs : List Value} {ns : List Int}
abbrev Held (top : Shared) : Result → Shared → Prop := fun r t => r = .ok (.ret (.bool true)) ∧ OldK top.heap t.heap ∧ t.os = top.os ∧ AllBare t.gens
end
end Rf

namespace Rf
open PySem L2 PyProof.Rows

/-! ### texts: index, join -/
def sindF : OpM := fun _ x ws S => match x, ws with
  | .dat (.str a), [.dat (.str b)] => match Builtin.Str.occurrences a b 0 a.length 1 with
    | i :: _ => some (.int (i : Nat), S)
    | [] => none
  | _, _ => none
def strsW : List W → Option (List Str)
  | [] => some []
  | .dat (.str b) :: ws => (strsW ws).map (b :: ·)
  | _ :: _ => none
theorem strs_is {K : PySem.W.Frag} {ρ : List Addr} {F : Hp} : ∀ {ws : List W} {vs : List V} {xs : List Str}, IsAll K ρ F vs ws → strsW ws = some xs → vs = xs.map V.str
  | [], _, _, h, e => by cases h; simp [strsW] at e; subst e; rfl
  | w :: ws, _, _, .cons a b, e => by
    unfold strsW at e
    split at e
    · rename_i h; cases h
    · rename_i b' ws' h
      cases h
      simp only [Option.map_eq_some_iff] at e
      obtain ⟨ys, e, rfl⟩ := e
      rw [strs_is b e]
      cases a with
      | dat r => cases r; rfl
    · cases e
def joinF : OpM := fun _ x ws S => match x, ws with
  | .dat (.str a), [w] => match (seqOf S w).bind strsW with
    | some ys => if (ys.map (·.length)).sum + ys.length * a.length ≤ 16777216 then some (.str (Txt.join a ys), S) else none
    | none => none
  | _, _ => none
/-- xs.insert(i, y) -/
def insF : OpM := fun bs x ws S => match x, ws with
  | .loc n, [.dat (.int i), w] => match S[n]? with
    | some (.lst us) => if us.length < 100000 ∧ mayW bs n w = true ∧ 0 ≤ i ∧ i < 100000 then some (.non, S.set n (.lst (us.take i.toNat ++ [w] ++ us.drop i.toNat))) else none
    | _ => none
  | _, _ => none
/-- max(xs), min(xs) of a list of ints -/
def maxLF : Store → W → Option W := fun S w => match (lstOf S w).bind intsW with
  | some ns => (ns.max?).map .int
  | none => none
def minLF : Store → W → Option W := fun S w => match (lstOf S w).bind intsW with
  | some ns => (ns.min?).map .int
  | none => none
section
variable {X : Cx} {g : Gx} {bs : List Nat} {ρ : List Addr} {F N H : Hp} {S : Store}
theorem mt_sind : MtR X "str.index" (rdMt g sindF) := by
  intro pins s σ H x xs v us Q I rx rxs ⟨bs, ρ, F, N, S, wx, ws, sim, r1, l, p⟩
  unfold sindF at p
  split at p
  · rename_i a b
    cases ho : Builtin.Str.occurrences a b 0 a.length 1 with
    | nil => rw [ho] at p; exact p.elim
    | cons i rest =>
      rw [ho] at p
      obtain ⟨y, rfl, ry⟩ := all_one l
      rw [is_str r1] at rx; rw [is_str ry] at rxs
      exact mt_sindex pins s σ H _ _ v us Q I rx rxs ⟨a, b, i, rest, rfl, rfl, ho, p ρ F H _ (Grow.refl _ _) sim (.dat (.int _))⟩
  · exact p.elim
theorem mt_joinR (hK : g.K = X.K) : MtR X "str.join" (rdMt g joinF) := by
  intro pins s σ H x xs v us Q I rx rxs ⟨bs, ρ, F, N, S, wx, ws, sim, r1, l, p⟩
  unfold joinF at p
  split at p
  · rename_i a w
    cases hq : (seqOf S w).bind strsW with
    | none => rw [hq] at p; exact p.elim
    | some ys =>
      simp only [hq] at p
      split at p
      · rename_i hz
        obtain ⟨zs, h1, h2⟩ := Option.bind_eq_some_iff.mp hq
        obtain ⟨y, rfl, ry⟩ := all_one l
        obtain ⟨b, vs, rfl, q, l2⟩ := seq_of sim ry h1
        rw [strs_is l2 h2, hK] at q
        rw [is_str r1] at rx
        exact mt_join pins s σ H _ _ v us Q I rx rxs ⟨a, b, ys, rfl, rfl, q, hz, p ρ F H _ (Grow.refl _ _) sim (.dat (.str _))⟩
      · exact p.elim
  · exact p.elim
end
/-! ### enumerate of a list -/
section
variable {X : Cx} {tg : Expr} {g : Gx} {B : WX} {bs : List Nat} {ρ : List Addr} {F N H : Hp} {S : Store} {a b e : Expr} {ms : M (List W)} {p pos tpos : Pos} {elts : List Expr} {kk : Nat}
def mEnm (ms : M (List W)) : M Iter := fun bs env S => (ms bs env S).bind fun ws S1 => match ws with
  | [x] => match iterL S1 x with
    | some it => .ok (.enm it) S1
    | none => .stuck
  | _ => .stuck
end
end Rf

namespace Rf
open PySem L2 PyProof.Rows

/-! ### a dict that is a cell is locked for good -/
section
variable {X : Cx} {g : Gx} {B : WX} {bs : List Nat} {ρ : List Addr} {F N H : Hp} {S : Store} {σ : L2.St}

/-! ### a locked dict, its entries one by one -/
inductive FzD (H : Hp) (d : Addr) (o : Obj) : List (PyData × V) → Prop
  | k {kvs : List (Key × V)} : H d = some (.frz o (.dK kvs)) → FzD H d o (kvs.map fun p => (kD p.1, p.2))
  | t {kvs : List (List Key × V)} : H d = some (.frz o (.dT kvs)) → FzD H d o (kvs.map fun p => (.tuple (p.1.map kD), p.2))
/-- a key as it stands in the heap -/
def KeyV (H : Hp) (kd : PyData) (x : V) : Prop := (∃ k : Key, kd = kD k ∧ x = kV k) ∨ ∃ (ks : List Key) (q : Addr), kd = .tuple (ks.map kD) ∧ x = .ref q ∧ H q = some (.tup (ks.map kV))
/-- its pairs, each a new tuple -/
def ItZ (d : Addr) (o : Obj) (vs : List (PyData × V)) : It :=
  ⟨fun i H => FzD H d o vs ∧ i < vs.length, fun i H x H' => ∃ T kd kx v, vs[i]? = some (kd, v) ∧ KeyV H kd kx ∧ x = .ref T ∧ H T = none ∧ H' = upd H T (.tup [kx, v]), fun i H => FzD H d o vs ∧ vs.length ≤ i⟩
/-! ### walks of a dict -/
def lockW (S : Store) (w : W) : Store := match w with
  | .loc n => match S[n]? with
    | some (.dic ws) => S.set n (.fz ws)
    | _ => S
  | _ => S
def mPairs (m : M W) : M Iter := fun bs env S => (m bs env S).bind fun w S1 => match dicOf S1 w with
  | some ws => .ok (.items (ws.map fun p => mkTup [.dat p.1, p.2])) (lockW S1 w)
  | none => .stuck
/-- for k in d -/
def mKeysD (m : M W) : M Iter := fun bs env S => (m bs env S).bind fun w S1 => match dicOf S1 w with
  | some ws => .ok (.items (ws.map fun p => .dat p.1)) (lockW S1 w)
  | none => .stuck
/-- d.values(), no key a tuple -/
def mValsD (m : M W) : M Iter := fun bs env S => (m bs env S).bind fun w S1 => match dicOf S1 w with
  | some ws => if dicRdy S1 w ws (.one (.inl 0)) = true ∧ ws.isEmpty = false then .ok (.items (ws.map fun p => p.2)) (lockW S1 w) else .stuck
  | none => .stuck
end
end Rf

namespace Rf
open PySem L2 PyProof.Rows

/-! ### a key in a dict; a copy of a dict -/
def inDF (neg : Bool) : Op2 := fun _ x y S => match x, dicOf S y with
  | .dat d, some ws => match dkey d with
    | some k => if dicRdy S y ws k = true then some (.bl ((lookW ws k).isSome != neg), S) else none
    | none => none
  | _, _ => none
/-- values that are all data -/
def allDatKV : List (PyData × W) → Option (List (PyData × PyData))
  | [] => some []
  | (k, .dat d) :: ws => (allDatKV ws).map ((k, d) :: ·)
  | _ :: _ => none
def newD (k : Bool) (ws : List (PyData × W)) (S : Store) : Option (W × Store) := if k then some (.loc S.length, S ++ [.dic ws]) else (allDatKV ws).map fun kvs => (.dat (.dict kvs), S)
/-- dict(d), no key a tuple -/
def copyF (k : Bool) : OpN := fun _ ws S => match ws with
  | [w] => match dicOf S w with
    | some us => if dicRdy S w us (.one (.inl 0)) = true then newD k us S else none
    | none => none
  | _ => none
section
variable {X : Cx} {g : Gx} {B : WX} {bs : List Nat} {ρ : List Addr} {F N H : Hp} {S : Store} {σ : L2.St}
theorem in_dic {neg : Bool} {pins : List (Addr × Obj)} {sh : Shared} {x y : V} {v u : Value} {Q : VK} (hu : X.A.units + 100 < cLine) (I : Inv X pins σ H sh) (rx : RelV x v) (ry : RelV y u) (told : rd2 g (inDF neg) x y H Q) :
    ∃ (a : Addr) (o : Option V) (H' : Hp), y = .ref a ∧ Inv X pins σ H' sh ∧ DGet H' a x o ∧ Q (.bl (o.isSome != neg)) H' := by
  obtain ⟨bs, ρ, F, N, S, wx, wy, s, r1, r2, p⟩ := told
  unfold inDF at p
  split at p
  · rename_i d ws hd
    split at p
    · rename_i k hk
      split at p
      · rename_i ok
        have e := dkey_eq hk
        subst e
        obtain ⟨H', I', s', a, vs, rfl, dh, q⟩ := dic_ready I s r2 hd ok
        have rk : Rp g.K F x k.d := by
          cases r1 with
          | dat r => exact r
        have z := isKV_val q k
        refine ⟨a, _, H', rfl, I', dic_get dh s'.ex rk rfl (dkey_d hk), ?_⟩
        cases hl : lookW ws k with
        | none => rw [hl] at z p; rw [z]; exact p ρ F H' _ (Grow.refl _ _) s' (.dat (.bl _))
        | some w => rw [hl] at z p; obtain ⟨v, h1, h2⟩ := z; rw [h1]; exact p ρ F H' _ (Grow.refl _ _) s' (.dat (.bl _))
      · exact p.elim
    · exact p.elim
  · exact p.elim
theorem ro_inD (hu : X.A.units + 100 < cLine) : OpR X (compareOp .In) (rd2 g (inDF false)) := by
  intro pins sh σ H x y v u Q I rx ry told
  obtain ⟨a, o, H', rfl, I', dg, q⟩ := in_dic hu I rx ry told
  cases ry
  exact d_in (by omega) I' dg rx fun s3 I3 => ⟨.bl o.isSome, H', I3, rfl, by simpa using q⟩
theorem ro_notInD (hu : X.A.units + 100 < cLine) : OpR X (compareOp .NotIn) (rd2 g (inDF true)) := by
  intro pins sh σ H x y v u Q I rx ry told
  obtain ⟨a, o, H', rfl, I', dg, q⟩ := in_dic hu I rx ry told
  cases ry
  exact d_notIn (by omega) I' dg rx fun s3 I3 => ⟨.bl (!o.isSome), H', I3, rfl, by simpa using q⟩
/-- a sign in a text -/
def inSF (neg : Bool) : Op2 := fun _ x y S => match x, y with
  | .dat (.str c), .dat (.str z) => match c.cps.toList with
    | [c0] => some (.bl (decide (c0 ∈ z.cps.toList) != neg), S)
    | _ => none
  | _, _ => none
theorem sign_of {c : Str} {c0 : Nat} (h : c.cps.toList = [c0]) : c = ⟨#[c0]⟩ := by
  cases c with
  | mk a =>
    cases a with
    | mk l => simp at h; subst h; rfl
theorem ro_inS : OpR X (compareOp .In) (rd2 g (inSF false)) := by
  intro pins sh σ H x y v u Q I rx ry ⟨bs, ρ, F, N, S, wx, wy, s, r1, r2, p⟩
  unfold inSF at p
  split at p
  · rename_i c z
    split at p
    · rename_i c0 hc
      have e := sign_of hc
      subst e
      rw [is_str r1] at rx; rw [is_str r2] at ry
      exact op_in_sign pins sh σ H _ _ v u Q I rx ry ⟨c0, z, rfl, rfl, by simpa using p ρ F H (.bl _) (Grow.refl _ _) s (.dat (.bl _))⟩
    · exact p.elim
  · exact p.elim
theorem ro_notInS : OpR X (compareOp .NotIn) (rd2 g (inSF true)) := by
  intro pins sh σ H x y v u Q I rx ry ⟨bs, ρ, F, N, S, wx, wy, s, r1, r2, p⟩
  unfold inSF at p
  split at p
  · rename_i c z
    split at p
    · rename_i c0 hc
      have e := sign_of hc
      subst e
      rw [is_str r1] at rx; rw [is_str r2] at ry
      exact op_notIn_sign pins sh σ H _ _ v u Q I rx ry ⟨c0, z, rfl, rfl, by simpa using p ρ F H (.bl _) (Grow.refl _ _) s (.dat (.bl _))⟩
    · exact p.elim
  · exact p.elim
/-- in a list or tuple, a text, a dict -/
def inAF (neg : Bool) : Op2 := fun bs x y S => match inF neg bs x y S with
  | some r => some r
  | none => match inSF neg bs x y S with
    | some r => some r
    | none => inDF neg bs x y S
theorem op_orElse {op : Value → Value → Sem Value} {f f' : Op2} (h : OpR X op (rd2 g f)) (h' : OpR X op (rd2 g f')) : OpR X op (rd2 g fun bs x y S => match f bs x y S with
    | some r => some r
    | none => f' bs x y S) := by
  intro pins sh σ H x y v u Q I rx ry ⟨bs, ρ, F, N, S, wx, wy, s, r1, r2, p⟩
  simp only at p
  cases hf : f bs wx wy S with
  | some r => rw [hf] at p; exact h pins sh σ H x y v u Q I rx ry ⟨bs, ρ, F, N, S, wx, wy, s, r1, r2, by rw [hf]; exact p⟩
  | none => rw [hf] at p; exact h' pins sh σ H x y v u Q I rx ry ⟨bs, ρ, F, N, S, wx, wy, s, r1, r2, p⟩
theorem ro_inA (hK : g.K = X.K) (hu : X.A.units + 100 < cLine) : OpR X (compareOp .In) (rd2 g (inAF false)) := op_orElse (ro_in hK hu) (op_orElse ro_inS (ro_inD hu))
theorem ro_notInA (hK : g.K = X.K) (hu : X.A.units + 100 < cLine) : OpR X (compareOp .NotIn) (rd2 g (inAF true)) := op_orElse (ro_notIn hK hu) (op_orElse ro_notInS (ro_notInD hu))
end
end Rf

namespace Rf
open PySem L2 PyProof.Rows

/-! ### dict comprehensions, no key a tuple -/
def dcG (it : Iter) (t : TM) (c : M Bool) (ek ev : M W) : Nat → Nat → List (PyData × W) → M (List (PyData × W))
  | 0, _, _ => fun _ _ _ => .stuck
  | f + 1, i, acc => fun bs env S => match it.next i S with
    | none => .stuck
    | some none => .ok acc S
    | some (some w) => (t w bs env S).bindC fun env1 S1 => (c bs env1 S1).bindC fun b S2 =>
      if b = true then (ek bs env1 S2).bindC fun y S3 => (ev bs env1 S3).bindC fun z S4 => match y with
        | .dat d => match keyD d with
          | some k => if acc.length < 100000 then dcG it t c ek ev f (i + 1) (putW acc (.one k) z) bs env S4 else .stuck
          | none => .stuck
        | _ => .stuck
      else dcG it t c ek ev f (i + 1) acc bs env S2
def finD (k : Bool) (ws : List (PyData × W)) (S : Store) : Out W := match newD k ws S with
  | some (w, S') => .ok w S'
  | none => .stuck
def mDComp (k : Bool) (mi : M Iter) (vs : List Nat) (t : TM) (c : M Bool) (ek ev : M W) : M W := fun bs env S => (mi bs env S).bind fun it S1 =>
  (dcG it t c ek ev it.fuel 0 [] bs (wipeE env vs) S1).bind (finD k)
section
variable {X : Cx} {g : Gx} {B : WX} {bs : List Nat} {ρ : List Addr} {F N H : Hp} {S : Store} {σ : L2.St} {D : Addr}
end
end Rf

namespace Rf
open PySem L2 PyProof.Rows

/-! ### displays of dicts, no key a tuple -/
inductive IsPs (K : PySem.W.Frag) (ρ : List Addr) (F : Hp) : List (V × V) → List (W × W) → Prop
  | nil : IsPs K ρ F [] []
  | cons {x y : V} {a b : W} {xs : List (V × V)} {l : List (W × W)} : Is K ρ F x a → Is K ρ F y b → IsPs K ρ F xs l → IsPs K ρ F ((x, y) :: xs) ((a, b) :: l)
def mPs : List (M W × M W) → M (List (W × W))
  | [] => fun _ _ S => .ok [] S
  | p :: r => fun bs env S => (p.1 bs env S).bind fun x S1 => (p.2 bs env S1).bind fun y S2 => (mPs r bs env S2).bind fun l S3 => .ok ((x, y) :: l) S3
def keyedW : List (W × W) → Option (List (Key × W))
  | [] => some []
  | (.dat d, w) :: r => match keyD d, keyedW r with
    | some k, some l => some ((k, w) :: l)
    | _, _ => none
  | _ :: _ => none
def mergeW (acc : List (PyData × W)) (l : List (Key × W)) : List (PyData × W) := l.foldl (fun acc p => putW acc (.one p.1) p.2) acc
def finP (k : Bool) (l : List (W × W)) (S : Store) : Out W := match keyedW l with
  | some kws => if l.length ≤ 15 then finD k (mergeW [] kws) S else .stuck
  | none => .stuck
def mDisp (k : Bool) (ps : List (M W × M W)) : M W := fun bs env S => (mPs ps bs env S).bind (finP k)
section
variable {X : Cx} {g : Gx} {B : WX} {bs : List Nat} {ρ : List Addr} {F N H : Hp} {S : Store} {σ : L2.St} {D : Addr}
end
end Rf

namespace Rf
open PySem L2 PyProof.Rows

/-! ### range with a step -/
def stepW (i c : Int) (n : Nat) : List W := (List.range n).map fun (k : Nat) => W.int (i + (k : Int) * c)
instance (i j c : Int) (n : Nat) : Decidable (RgC i j c n) := by unfold RgC; infer_instance
section
variable {X : Cx} {tg : Expr} {g : Gx} {B : WX} {bs : List Nat} {ρ : List Addr} {F N H : Hp} {S : Store} {a b c e : Expr} {ms : M (List W)} {pos : Pos}
theorem walk_step {lo d : Int} {n : Nat} : WalkOk g (Itc lo d n) ρ F (.items (stepW lo d n)) := by
  intro bs ρ' F' N' S' H' i gr s
  show match (some (stepW lo d n)[i]? : Option (Option W)) with
    | some (some w) => _
    | some none => _
    | none => True
  unfold stepW
  rw [List.getElem?_map]
  by_cases h : i < n
  · rw [List.getElem?_range h]
    refine ⟨h, fun x H2 ⟨e, q⟩ => ?_⟩
    subst e q
    exact ⟨F', Grow.refl _ _, s, .dat (.int _)⟩
  · rw [List.getElem?_eq_none (by simpa using h)]
    show n ≤ i
    omega
def mRng3 (ms : M (List W)) : M Iter := fun bs env S => (ms bs env S).bind fun ws S1 => match ws with
  | [.dat (.int i), .dat (.int j), .dat (.int d)] => if RgC i j d (Builtin.Range.rangeSize i j d).toNat then .ok (.items (stepW i d (Builtin.Range.rangeSize i j d).toNat)) S1 else .stuck
  | _ => .stuck
theorem all_three {K : PySem.W.Frag} {vs : List V} {w u z : W} (h : IsAll K ρ F vs [w, u, z]) : ∃ v x y, vs = [v, x, y] ∧ Is K ρ F v w ∧ Is K ρ F x u ∧ Is K ρ F y z := by
  cases h with
  | cons a h => cases h with
    | cons b h => cases h with
      | cons c h => cases h; exact ⟨_, _, _, rfl, a, b, c⟩
theorem ri_range3 {p : Pos} (hg : Gl X "range") (hm : X.mg "range" = none) (ha : PA X [a, b, c] (rdA g B ms)) (hs : starEach [a, b, c] X.env = (false, eval a X.env) :: starEach [b, c] X.env := by rfl) (hpl : (backTo pos (starEach [b, c] X.env)).any (·.1) = false := by rfl) :
    PI X tg (.Call (.Name "range" p) [a, b, c] [] pos) (rdI g B (mRng3 ms)) :=
  (pi_range3 hg hm ha hs hpl).imp fun σ H R ⟨bs, ρ, F, N, env, S, s, e, p⟩ => by
    refine ⟨bs, ρ, F, N, env, S, s, e, (Post.iter (R := RWs g) p).imp fun x H1 ⟨ρ1, F1, wx, S1, g1, s1, r1, p1⟩ => ?_⟩
    split at p1
    · rename_i i j d
      split at p1
      · rename_i ok
        obtain ⟨v, u, w, rfl, r2, r3, r4⟩ := all_three r1
        rw [is_int r2, is_int r3, is_int r4]
        exact ⟨i, j, d, _, rfl, ok, p1 ρ1 F1 H1 _ (Grow.refl _ _) s1 walk_step⟩
      · exact p1.elim
    · exact p1.elim
/-- xs.index(x) of texts -/
def lidxF : OpM := fun _ x ws S => match (lstOf S x).bind strsW, ws with
  | some ys, [.dat (.str z)] => (ys.findIdx? fun y => y == z).map fun j => (.int (j : Nat), S)
  | _, _ => none
end
end Rf

namespace Rf
open PySem PySem.Spec L2 PyProof.Rows

/-! ### classes: fields, methods, instances -/
section
variable {X : Cx} {k : Nat} {f C : Addr} {fd : FuncData} {ps : List Str} {sp : Sp} {E : L2.St → XK} {x m : Str} {p pos apos : Pos} {e o : Expr} {es : List Expr} {ta : TE} {t : TA}
def tMethG (C : Addr) (m : Str) (sp : Sp) (E : L2.St → XK) (ta : TE) (t : TA) : TE := fun σ H Q => ta σ H fun x H1 => ∃ a dx fs, x = .ref a ∧ H1 a = some (.ins C dx fs) ∧ fs.lookup m = none ∧ t σ H1 fun vs H2 => sp (x :: vs) H2 Q (E σ)
def tMakeG (C : Addr) (sp : Sp) (E : L2.St → XK) (t : TA) : TE := fun σ H Q => t σ H fun vs H1 => ∀ x dx, H1 x = none → H1 dx = none → dx ≠ x → sp (.ref x :: vs) (upd (upd H1 dx (.own x)) x (.ins C dx [])) (fun v H2 => v = .non ∧ Q (.ref x) H2) (E σ)
end
/-! ### readings -/
section
variable {K : PySem.W.Frag} {ρ : List Addr} {F : Hp}
def putFW (f : Str) (v : W) : List (Str × W) → List (Str × W)
  | [] => [(f, v)]
  | (k, x) :: r => if k = f then (k, v) :: r else (k, x) :: putFW f v r
end
section
variable {X : Cx} {g : Gx} {B : WX} {bs : List Nat} {a b c e o : Expr} {es : List Expr} {ma mb mo mv : M W} {ms : M (List W)} {pos pos' p apos : Pos} {f m x : Str} {ff : FnT} {cs : List Nat}
/-- o.f of an instance of one of the classes cs -/
def mFld (cs : List Nat) (f : Str) (m : M W) : M W := fun bs env S => (m bs env S).bind fun w S1 => match w with
  | .loc n => match S1[n]? with
    | some (.ins c fs) => if c ∈ cs then match fs.lookup f with
        | some v => .ok v.weak S1
        | none => .stuck
      else .stuck
    | _ => .stuck
  | _ => .stuck
/-- what a store into a field does -/
def setFld (cs : List Nat) (f : Str) : List Nat → W → W → Store → Option Store := fun bs x y S => match x with
  | .loc n => match S[n]? with
    | some (.ins c fs) => if c ∈ cs ∧ fs.length < 900 ∧ mayW bs n y = true then some (S.set n (.ins c (putFW f y fs))) else none
    | _ => none
  | _ => none
/-- o.f = e -/
def sFld (cs : List Nat) (f : Str) (mo mv : M W) : MS := fun bs env S => (mv bs env S).so env fun y S1 => (mo bs env S1).so env fun x S2 => match setFld cs f bs x y S2 with
  | some S3 => .nx env S3
  | none => .stuck
/-- o.m(..), o of the class c -/
def methB (c : Nat) (m : Str) (f : FnT) (ms : M (List W)) (bs : List Nat) (env : Env) (w : W) (S1 : Store) : Out W := match w with
  | .loc n => match S1[n]? with
    | some (.ins c' fs) => if c' = c ∧ fs.lookup m = none then (ms bs env S1).bind fun ws S2 => f bs (.loc n :: ws) S2 else .stuck
    | _ => .stuck
  | _ => .stuck
def mMeth (c : Nat) (m : Str) (f : FnT) (mo : M W) (ms : M (List W)) : M W := fun bs env S => (mo bs env S).bind (methB c m f ms bs env)
variable {c : Nat} {k : Nat} {fa : Addr} {fd : FuncData} {ps : List Str}
/-- C(..) -/
def mMake (c : Nat) (f : FnT) (ms : M (List W)) : M W := fun bs env S => (ms bs env S).bind fun ws S1 => (f bs (.loc S1.length :: ws) (S1 ++ [.ins c []])).bind fun r S2 => match r with
  | .dat .none => .ok (.loc S1.length) S2
  | _ => .stuck
end
/-! ### defs whose cells stay: nothing is popped -/
def fnN (n p : Nat) (m : MS) : FnT := fun bs ws S => if ws.length = p then (m bs (startE n ws) S).out else .stuck
section
variable {g : Gx} {P : Program} {w : World} {K : PySem.W.Frag} {mg : Str → Option Value} {base : Heap}
/-- a def that keeps a promise keeps every weaker one -/
theorem FnG.weaken {k : Nat} {f : Addr} {fd : FuncData} {ps : List Str} {sp sp' : Sp} (h : FnG P w K mg base k f fd ps sp) (i : ∀ vs H Q E, sp' vs H Q E → sp vs H Q E) : FnG P w K mg base k f fd ps sp' :=
  ⟨fun vs H Q E z => h.cnt vs H Q E (i _ _ _ _ z), fun A st s H as us vs Q E r e b v z => h.go A st s H as us vs Q E r e b v (i _ _ _ _ z)⟩
/-- a def of which nothing is known: none may call it -/
def fnStuck : FnT := fun _ _ _ => .stuck
end
end Rf

namespace Rf
open PySem PySem.Spec L2 PyProof.Rows

/-! ### texts sign by sign -/
def signsW (z : Str) : List W := z.cps.toList.map fun c => .str ⟨#[c]⟩
section
variable {X : Cx} {tg : Expr} {g : Gx} {B : WX} {bs : List Nat} {ρ : List Addr} {F N H : Hp} {S : Store} {a b e : Expr} {ma : M W} {ms : M (List W)} {p p' pos tpos apos cpos : Pos}
theorem it_str : ItR X tg (fun x H R => ∃ z, x = .str z ∧ R (Its z) H) := by
  intro pins s σ H x v R I rx q
  obtain ⟨z, rfl, q⟩ := q
  obtain ⟨t, rfl⟩ := rx
  cases ha : z.cps.all (· < 128)
  · exact wpAny_pyIter_wide ha (pi_one (tk := s.toks) I _ (turn_str _ z t "str_iterator" (.inr rfl)) ⟨_, Heap.get?_push_size _ rfl, rfl, rfl⟩ q)
  · exact wpAny_pyIter_ascii ha (pi_one (tk := s.toks) I _ (turn_str _ z t "str_ascii_iterator" (.inl rfl)) ⟨_, Heap.get?_push_size _ rfl, rfl, rfl⟩ q)
theorem walk_str {z : Str} : WalkOk g (Its z) ρ F (.items (signsW z)) := by
  intro bs ρ' F' N' S' H' i gr s
  show match (some (signsW z)[i]? : Option (Option W)) with
    | some (some w) => _
    | some none => _
    | none => True
  have e : (signsW z)[i]? = (z.cps[i]?).map fun c => W.str ⟨#[c]⟩ := by unfold signsW; rw [List.getElem?_map, Array.getElem?_toList]
  rw [e]
  cases hc : z.cps[i]? with
  | some c =>
    refine ⟨(Array.getElem?_eq_some_iff.mp hc).1, fun x H2 ⟨e1, c', h1, h2⟩ => ?_⟩
    subst e1 h2
    rw [hc] at h1; cases h1
    exact ⟨F', Grow.refl _ _, s, .dat (.str _)⟩
  | none => exact Array.getElem?_eq_none_iff.mp hc
def iterS (S : Store) (w : W) : Option Iter := match iterA S w with
  | some it => some it
  | none => match w with
    | .dat (.str z) => some (.items (signsW z))
    | _ => none
def mItS (m : M W) : M Iter := fun bs env S => (m bs env S).bind fun w S1 => match iterS S1 w with
  | some it => .ok it S1
  | none => .stuck
theorem iterA_ok {x : V} {w : W} {it : Iter} {R : It → Hp → Prop} (s1 : Sim g bs ρ F N S H) (r1 : Is g.K ρ F x w) (h : iterA S w = some it) (p : ∀ J, WalkOk g J ρ F it → R J H) :
    (∃ a, x = .ref a ∧ (∃ xs, SqT g.K H a xs) ∧ R (Itt g.K a) H) ∨ ∃ a, x = .ref a ∧ (∃ xs, SqL g.K H a xs) ∧ R (Itl g.K a) H := by
  unfold iterA at h
  cases hw : tupOf w with
  | some ws =>
    have e1 : iterT w = some (.items ws) := by unfold iterT; rw [hw]; rfl
    rw [e1] at h
    cases h
    obtain ⟨a, vs, rfl, q, l⟩ := tup_of r1 hw
    exact .inl ⟨a, rfl, ⟨vs, Same.sqT s1.ex q⟩, p _ (walk_tup q l)⟩
  | none =>
    have e1 : iterT w = none := by unfold iterT; rw [hw]; rfl
    rw [e1] at h
    right
    unfold iterL at h
    cases w with
    | dat d =>
      cases d <;> try cases h
      cases r1 with
      | dat r => cases r with
        | lst q r => exact ⟨_, rfl, ⟨_, SqL.of (s1.ex _ _ q)⟩, p _ (walk_lst (SqL.of q) r.isAll)⟩
    | lw ws => cases h; cases r1 with
      | lw q r => exact ⟨_, rfl, ⟨_, s1.ex.seq q⟩, p _ (walk_lst q r)⟩
    | tw ws => cases h
    | kt ws => cases h
    | fn ws => cases h
    | rg x y z => cases h
    | loc n =>
      cases hc : S[n]? with
      | none => simp only [hc] at h; cases h
      | some c =>
        cases c with
        | lst ws =>
          simp only [hc] at h
          cases h
          cases r1 with
          | loc hn =>
            obtain ⟨vs, e, l⟩ := s1.cell n _ _ hc hn
            exact ⟨_, rfl, ⟨vs, SqL.of e⟩, p _ (walk_cell hn)⟩
        | dic _ => simp only [hc] at h; cases h
        | ins _ _ => simp only [hc] at h; cases h
        | fz _ => simp only [hc] at h; cases h
/-- a tuple, a list or a text -/
theorem ri_all (hK : g.K = X.K) (h : PE X a (rd g B ma)) : PI X tg a (rdI g B (mItS ma)) := (pi_it ((it_tup.or it_list).or it_str) h).imp fun σ H R ⟨bs, ρ, F, N, env, S, s, e, p⟩ => by
  refine ⟨bs, ρ, F, N, env, S, s, e, (Post.iter (R := RW g) p).imp fun x H1 ⟨ρ1, F1, wx, S1, g1, s1, r1, p1⟩ => ?_⟩
  rw [← hK]
  unfold iterS at p1
  cases hi : iterA S1 wx with
  | some it =>
    rw [hi] at p1
    exact .inl (iterA_ok s1 r1 hi fun J w => p1 ρ1 F1 H1 J (Grow.refl _ _) s1 w)
  | none =>
    rw [hi] at p1
    right
    cases wx with
    | dat d =>
      cases d with
      | str z =>
        obtain rfl := is_str r1
        exact ⟨z, rfl, p1 ρ1 F1 H1 _ (Grow.refl _ _) s1 walk_str⟩
      | _ => exact p1.elim
    | loc n => exact p1.elim
    | tw ws => exact p1.elim
    | lw ws => exact p1.elim
    | kt ws => exact p1.elim
    | fn ws => exact p1.elim
    | rg x y z => exact p1.elim
/-! ### what the module's top holds -/
def mConW (w : W) : M W := fun _ _ S => .ok w S
/-- a module's name holds a value that is told -/
def GlobW (K : PySem.W.Frag) (mg : Str → Option Value) (x : Str) (w : W) : Prop := ∃ v u, mg x = some u ∧ RelV v u ∧ ∀ ρ F, Is K ρ F v w
/-- t.index(z), t a tuple of texts of the module's own -/
def mConIx (ys : List Str) (ms : M (List W)) : M W := fun bs env S => (ms bs env S).bind fun ws S1 => match ws with
  | [.dat (.str z)] => match ys.findIdx? (fun y => y == z) with
    | some j => .ok (.int (j : Nat)) S1
    | none => .stuck
  | _ => .stuck
def OwnT (K : PySem.W.Frag) (mg : Str → Option Value) (x : Str) (ys : List Str) : Prop := ∃ (a : Addr) (o : Obj) (its : Array Value) (n : Nat), mg x = some (.ref a) ∧ K.lookup a = some o ∧ o.cls = .type "tuple" ∧ o.dict = none ∧ o.data = .seq its n ∧ its.size ≤ sizeLine ∧ Vals (ys.map V.str) its.toList
end
end Rf

namespace Rf
open PySem PySem.Spec L2 PyProof.Rows

/-! ### x op= e -/
section
variable {X : Cx} {g : Gx} {B : WX} {bs : List Nat} {a b c e o : Expr} {ma mb mo mv : M W} {pos pos' tpos : Pos} {f : Str} {cs : List Nat} {op2 : Op2}
def addIF : Op2 := intF fun i j => some (i + j)
/-- o.f op= e -/
def fldOf (cs : List Nat) (f : Str) (S : Store) : W → Option W
  | .loc n => match S[n]? with
    | some (.ins c fs) => if c ∈ cs then fs.lookup f else none
    | _ => none
  | _ => none
def fldA (cs : List Nat) (f : Str) (op : Op2) (mv : M W) (bs : List Nat) (env : Env) (x : W) (S1 : Store) : SO := match fldOf cs f S1 x with
  | some u => (mv bs env S1).so env fun y S2 => match op bs u y S2 with
    | some (z, S3) => match setFld cs f bs x z S3 with
      | some S4 => .nx env S4
      | none => .stuck
    | none => .stuck
  | none => .stuck
def sFldA (cs : List Nat) (f : Str) (op : Op2) (mo mv : M W) : MS := fun bs env S => (mo bs env S).so env (fldA cs f op mv bs env)
end
end Rf

namespace Rf
open PySem PySem.Spec L2 PyProof.Rows

/-! ### max(..) of a list or a tuple of whole numbers -/
def maxTF : Store → W → Option W := fun S w => match (seqOf S w).bind intsW with
  | some ns => (ns.max?).map .int
  | none => none
end Rf

namespace Rf
open PySem PySem.Spec L2 PyProof.Rows

/-! ### list(range(..)), tuple(range(..)) -/
def rgOk (i j : Int) : Bool := decide (-1000000 ≤ i) && decide (i ≤ 1000000) && decide (-1000000 ≤ j) && decide (j ≤ 1000000)
def rgLF (k : Bool) : Op2 := fun _ x y S => match x, y with
  | .dat (.int i), .dat (.int j) => if rgOk i j = true then some (newL k (rangeW i j) S) else none
  | _, _ => none
def rgTF : Op2 := fun _ x y S => match x, y with
  | .dat (.int i), .dat (.int j) => if rgOk i j = true then some (mkTup (rangeW i j), S) else none
  | _, _ => none
section
variable {X : Cx} {g : Gx} {B : WX} {a b : Expr} {ma mb : M W} {pos p q pos' : Pos}
end
end Rf

namespace Rf
open PySem PySem.Spec L2 PyProof.Rows

/-! ### raise X("..") of an own error that keeps nothing -/
def sRaise (c : Nat) : MS := fun _ env S => .ex c [] env S
section
variable {X : Cx} {g : Gx} {B : WX}
theorem rs_raiseT {c : Nat} {x m : Str} {j : Nat} {p p2 pos pos' : Pos} {bmB : List Value} {Bn newId initId : String} (hc : X.calm = true) (tk : Takes X B) (F : ExcBaseFacts Bn newId initId bmB) (q : PySem.W.excIn X.K (g.cls c) bmB newId = true) (gC : X.mg x = some (.ref (g.cls c)))
    (kC : PySem.W.keepIn X.K (.ref (g.cls c)) = true) (r : Raises X (.ref (g.cls c))) (hg : Gl X x) (hdb : (x == ("__debug__" : Str)) = false := by decide) : PS X (.Raise (some (.Call (.Name x p) [.Constant (.str m) j p2] [] pos)) none pos') (rdS g B (sRaise c)) :=
  (ps_raise hc tk (pmk_own F q gC kC r hg hdb)).imp fun D σ H ⟨bs, ρ, Fr, N, env, S, s, e, pp⟩ => pp ρ Fr H σ none (Grow.refl _ _) s e rfl
end
end Rf

namespace PySem
namespace RfX
open PySem.W PyProof.Rows PySem.HandSPX Builtin Builtin.ObjectAttr

/-! ### self.f = v on a fresh exception of any base: the three things that are asked of the class's line of classes -/
structure MroOk (l : List Value) : Prop where
  ne : l.isEmpty = false
  obj : l.contains (.type "object") = true
  pass : ∀ self : Value, refuseLoop self "__setattr__" l = pure ()
theorem MroOk.ref {l : List Value} (c : Addr) (h : MroOk l) : MroOk (.ref c :: l) :=
  ⟨rfl, (by rw [List.contains_cons, h.obj]; simp), fun self => by rw [refuseLoop_ref]; exact h.pass self⟩
section
variable {p : Program} {wd : World} {Ar : Around} {Rs : Result → Shared → Prop} {hp : Heap} {ge : Array GenState} {dr : Drawn} {tt : Nat} {o2 : OsState} {K : W.Frag} {f : Str} {tok : Tok} {val : Value} {at_ C : Addr} {fs : Array Value} {cl : ClassData}
theorem fresh_store (In : K.In hp) (own : hp.get? at_ = some { cls := .ref C, data := .fields fs }) (hcl : W.clsIn K C = some cl) (ok : MroOk cl.mro) (dict : cl.hasDict = true) (free : W.findIn K (.ref C) f = some none)
    (next : ∀ h2 t2 dx, (∀ b o, b ≠ at_ → hp.get? b = some o → h2.get? b = some o) → hp.objs.size ≤ dx → dx ≠ at_ → h2.get? at_ = some { cls := .ref C, dict := some dx, data := .fields fs } → h2.Ns1 dx (fun y => if y = f then some val else none) → Rs (.ok (.ret .none)) ⟨h2, ge, dr, t2, o2⟩) :
    codeAny (model p wd) Ar (.call (.builtin "object.__setattr__") ⟨[.ref at_, .str f tok, val], []⟩) Rs ⟨hp, ge, dr, tt, o2⟩ := by
  have inst : W.InstAt hp at_ { cls := .ref C, data := .fields fs } C none := ⟨own, rfl, rfl, trivial⟩
  have so := F.store_object
  have apart : at_ ≠ hp.objs.size := Nat.ne_of_lt (Heap.lt_size own)
  have isObj : W.Looks (model p wd) hp (isInstance (.ref at_) (.type "object")) true := inst.type.andThen (W.looks_mroIn In (by unfold W.mroIn; rw [hcl, Option.bind_some, if_neg (by rw [ok.ne]; decide), ok.obj]))
  refine codeAny_call_builtin so.slot.plain so.entry (@W.check_slot (model p wd) _ _ ⟨hp, ge, dr, tt, o2⟩ "object.__setattr__" "object" "__setattr__" (.ref at_) [.str f tok, val] [] _ so.kind so.split isObj (so.args (.ref at_) (.str f tok) val) ?_)
  have line : W.Looks (model p wd) hp (mroOf (.ref C)) cl.mro := (W.looks_clsIn In hcl).andThen .now
  have taker : W.Looks (model p wd) hp (storeTaker? none) none := .now
  have cdat : W.Looks (model p wd) hp (classData C) cl := W.looks_clsIn In hcl
  rw [W.osa_eq, refuse_eq]
  refine wpAny_bind (wpAny_bind (inst.type.at (wpAny_bind (line.at ?_))))
  rw [ok.pass]
  refine wpAny_pure (wpAny_bind (inst.type.at (wpAny_bind ((W.looks_findIn In free).at (wpAny_bind (taker.at ?_))))))
  show wpAny _ _ (storeInOwnDict (.ref at_) (.ref C) (.str f tok) f val false) _ _ _
  obtain ⟨c1, c2, c3, c4, c5, c6, c7, c8, c9, c10, c11⟩ := cl
  dsimp only at dict
  subst dict
  unfold storeInOwnDict ownDictForStores
  repeat (first | with_reducible refine store_in_new ?_ ?_ | with_reducible refine wpAny_loadPart_at own ?_ | with_reducible refine cdat.at ?_ | wp_step)
  · exact ⟨_, #[], _, (Heap.get?_update_ne _ _ _ _ apart.symm).trans (Heap.get?_push_at rfl rfl), rfl, fun e he => absurd he (by simp), fun _ => rfl⟩
  · intro h2 t2 n2 same
    have own2 : (hp.push { cls := .type "dict", data := .dict #[] }).get? at_ = some { cls := .ref C, data := .fields fs } := Heap.get?_push_of_some _ own
    exact next h2 t2 hp.objs.size (fun b o hb ho => (same.2 b (Nat.ne_of_lt (Heap.lt_size ho))).trans ((Heap.get?_update_ne _ _ _ _ hb).trans (Heap.get?_push_of_some _ ho))) (Nat.le_refl _) apart.symm ((same.2 at_ apart).trans (Heap.get?_update_self _ own2 rfl)) n2
end
end RfX
end PySem
namespace Rf
open PySem PySem.Spec L2 PyProof.Rows
/-! ### raise X(e), X an own error that keeps one value -/
def sRaise1 (c : Nat) (ms : M (List W)) : MS := fun bs env S => (ms bs env S).so env fun ws S1 => match ws with
  | [w] => .ex c [w] env S1
  | _ => .stuck
theorem rs_raise1 {X : Cx} {g : Gx} {B : WX} {c : Nat} {ms : M (List W)} {st : Stmt} (h : PS X st fun _ σ H => rdA g B ms σ H fun vs H1 => ∃ v, vs = [v] ∧ ∀ d, H1 d = none → B (.ref (g.cls c)) (some d) σ (upd H1 d (.xd [(g.fld c, v)]))) : PS X st (rdS g B (sRaise1 c ms)) := h.imp fun D σ H ⟨bs, ρ, F, N, env, S, s, e, p⟩ => by
  refine ⟨bs, ρ, F, N, env, S, s, e, (PostS.out (R := RWs g) e p).imp fun x H1 ⟨ρ1, F1, wx, S1, g1, s1, r1, p1⟩ => ?_⟩
  split at p1
  · rename_i w
    obtain ⟨v, rfl, r2⟩ := all_one r1
    refine ⟨v, rfl, fun d hd => ?_⟩
    obtain ⟨s2, g2⟩ := s1.frozen (o := .xd [(g.fld c, v)]) hd
    exact p1 _ _ _ σ (some d) g2 s2 (e.mono (g1.trans g2)) ⟨d, v, rfl, upd_same, r2.mono g2⟩
  · exact p1.elim
end Rf

namespace PySem
namespace RfX
open PySem.F Builtin.ObjectAttr Builtin
/-! ### the built-in lines of classes that own errors stand on -/
abbrev valueLine : List Value := [.type "ValueError", .type "Exception", .type "BaseException", .type "object"]
abbrev indexLine : List Value := [.type "IndexError", .type "LookupError", .type "Exception", .type "BaseException", .type "object"]
abbrev overLine : List Value := [.type "OverflowError", .type "ArithmeticError", .type "Exception", .type "BaseException", .type "object"]
abbrev arithLine : List Value := [.type "ArithmeticError", .type "Exception", .type "BaseException", .type "object"]
theorem mro_index : MroOk indexLine := ⟨rfl, by decide +kernel, fun self => by kernel_rfl⟩
end RfX
end PySem

namespace Rf
open PySem PySem.Spec L2 PyProof.Rows

/-! ### list(..) of a list, a tuple, a dict (its keys: numbers and texts) -/
def listDF (k : Bool) : OpN := fun bs ws S => match listF k bs ws S with
  | some r => some r
  | none => match ws with
    | [w] => match dicOf S w with
      | some us => if dicRdy S w us (.one (.inl 0)) = true then some (newL k (us.map fun p => .dat p.1) S) else none
      | none => none
    | _ => none
end Rf

namespace Rf
open PySem PySem.Spec L2 PyProof.Rows

/-! ### try with clauses, some of which name the exception -/
abbrev Clause := Value × Option Nat × (Addr → Value → Option Addr → TS)
/-- the name of a clause goes behind its suite -/
def backOf (i : Option Nat) (D : Ends) : Ends := match i with
  | none => D
  | some i => { nx := fun τ J => D.nx (τ.set i none) J, rt := D.rt, bk := fun τ J => D.bk (τ.set i none) J, ct := fun τ J => D.ct (τ.set i none) J }
def putOf (i : Option Nat) (ea : Addr) (τ : L2.St) : L2.St := match i with
  | none => τ
  | some i => τ.set i (some (.ref ea))
def wMix (K : PySem.W.Frag) (out : WX) (D : Ends) : List Clause → WX
  | [] => out
  | (c, i, ts) :: r => fun cls d τ J => ∃ b, PySem.W.exmOne K cls c = some b ∧ (b = true → ∀ ea, J ea = none → ts ea cls d (backOf i D) (putOf i ea τ) J) ∧ (b = false → wMix K out D r cls d τ J)
abbrev SuiteOk (X : Cx) (suite : List Stmt) (ts : Addr → Value → Option Addr → TS) : Prop :=
  ∀ (ea : Addr) (eo : Obj) (cls : Value) (d : Option Addr) (pq : List (Addr × Obj)), Zc cls d eo → (∃ us, eo.data = .fields us) → PSs (X.suite ea ((ea, eo) :: pq)) suite (ts ea cls d)
inductive Clauses (X : Cx) : List ExceptHandler → List Clause → Prop
  | nil : Clauses X [] []
  | bare {x : Str} {c : Value} {ts : Addr → Value → Option Addr → TS} {st : Stmt} {more : List Stmt} {np hp : Pos} {hds : List ExceptHandler} {l : List Clause} (hc : Names X x c) (ok : SuiteOk X (st :: more) ts) (r : Clauses X hds l) :
      Clauses X (.ExceptHandler (some (.Name x np)) none (st :: more) hp :: hds) ((c, none, ts) :: l)
  | named {x n : Str} {i : Nat} {c : Value} {ts : Addr → Value → Option Addr → TS} {st : Stmt} {more : List Stmt} {np hp : Pos} {hds : List ExceptHandler} {l : List Clause} (hc : Names X x c) (hi : X.N[i]? = some n) (hl : X.env.kindOf n = some .local)
      (ok : SuiteOk X (st :: more) ts) (r : Clauses X hds l) : Clauses X (.ExceptHandler (some (.Name x np)) (some n) (st :: more) hp :: hds) ((c, some i, ts) :: l)
section
variable {X : Cx} {body : List Stmt} {hd : ExceptHandler} {hds : List ExceptHandler} {l : List Clause} {pos : Pos} {tb : WX → TS} {out : WX}
theorem ps_try_mix (hst : X.stack = X.env :: X.outer) (hfm : X.env.frame = some X.env.locals) (nd : X.N.Nodup) (tk : Takes X out)
    (hb : ∀ (W : WX) (pq : List (Addr × Obj)) (xe : Value → Shared → Prop), Takes (X.tr pq xe) W → PassesOwn (model X.prog X.w) X.A X.env xe → PSs (X.tr pq xe) body (tb W))
    (hh : Clauses X (hd :: hds) l) : PS X (.Try body (hd :: hds) [] [] pos) (fun D τ J => tb (wMix X.K out D l) D τ J) := by
  refine ⟨fun pins s τ J D inv h => ?_⟩
  have fine := inv.ok
  have frames : X.A.frames = some (X.env :: X.outer) := by rw [fine.frames, hst]
  refine wpAny_Try_except ?_
  refine wpAny_mono ((hb (wMix X.K out D l) (X.pn ++ pins) (fun e t1 => wpAny (model X.prog X.w) X.A (noteFrame e X.env) (fun _ t2 => wpAny (model X.prog X.w) X.A (setFlight e none)
    (fun _ t3 => wpAny (model X.prog X.w) X.A (handleBy e X.env (hd :: hds)) (SP X pins D) X.xe t3) X.xe t2) X.xe t1) (fun u t4 air => ?_) PassesOwn.looking).run [] s τ J D (inv.toTry _) h) (fun fl t5 ran => ?_) (fun e t6 z => z)
  · -- an exception of the body
    obtain ⟨ea, G, sI, pins2, τ1, J1, cls, d, rfl, inv2, nb, up, sky, na, os, ag, w⟩ := air
    have invI : Inv X pins τ1 J1 sI := inv2.ofTry fine
    have sky2 : Sky G (X.env :: X.outer) ea (Zc cls d) X.env.locals t4.heap := by rw [← hst]; exact sky
    show wpAny (model X.prog X.w) X.A (noteFrame (.ref ea) X.env) _ _ _
    refine Sky.land Zc.steady frames hfm sky2 fun k3 fly up3 => ?_
    have inv3 : Inv X pins τ1 J1 { t4 with heap := k3 } := invI.landed nb fly.1 (up.trans up3) os ag
    obtain ⟨eo, us3, at3, z3, da3⟩ := fly.there
    have apart : ∀ {k : Heap} {o : Obj} {us : Array Value}, k.FunFrames G (X.env :: X.outer) → k.get? ea = some o → o.data = .fields us → ea ∉ frs (X.env :: X.outer) := by
      intro k o us ff e dd hm
      obtain ⟨_, o', e', no⟩ := ff.mem hm
      rw [e] at e'; cases e'
      exact no _ dd
    have offF := apart fly.2.2.1 at3 da3
    have offL : ea ≠ X.env.locals := by
      intro z
      exact offF (List.mem_filterMap.mpr ⟨X.env, List.mem_cons_self, by rw [hfm, z]⟩)
    have offO : ea ∉ X.fs := by
      intro hm
      obtain ⟨e, he, q⟩ := List.mem_filterMap.mp hm
      exact offF (List.mem_filterMap.mpr ⟨e, List.mem_cons_of_mem _ he, q⟩)
    have invS := inv3.suite at3 da3 na offL offO
    have LT : PySem.W.Looks (model X.prog X.w) k3 (typeOf (.ref ea)) cls := by
      intro A Q E t k q
      exact wpAny_typeOf_ref (k _ _ at3) (by rw [z3.1]; exact q)
    have test : ∀ {x : Str} {c : Value} {np : Pos} {Q E : Value → Shared → Prop}, Names X x c → Q c { t4 with heap := k3 } → wpAny (model X.prog X.w) (X.A.mark (some (.ref ea))) (eval (.Name x np) X.env) Q E { t4 with heap := k3 } := by
      intro x c np Q E nm q
      obtain ⟨hg, hdb, hm | ⟨hm, hv, hn⟩⟩ := nm
      · exact ld_glob (X := X.suite ea ((ea, eo) :: (X.pn ++ pins))) invS hg hm q hdb
      · exact ld_blt (X := X.suite ea ((ea, eo) :: (X.pn ++ pins))) invS hg hm hv q hn hdb
    have go : ∀ {hds' : List ExceptHandler} {l' : List Clause}, Clauses X hds' l' → wMix X.K out D l' cls d τ1 J1 → wpAny (model X.prog X.w) X.A (handleBy (.ref ea) X.env hds') (SP X pins D) X.xe { t4 with heap := k3 } := by
      intro hds' l' cl
      induction cl with
      | nil =>
        intro w
        refine wpAny_handleBy_nil ?_
        obtain ⟨_, _, _, o9, us9, T9, oT9, ts9, e9, _, d9, f9, _⟩ := id fly
        unfold PySem.passOn
        refine wpAny_bind (wpAny_field e9 d9 f9 ?_)
        rw [if_neg (show ¬ ((Value.ref T9 == Value.none) = true) from by simp)]
        have onward : wpAny (model X.prog X.w) X.A (setFlight (.ref ea) X.env.frame) (fun _ t7 => wpAny (model X.prog X.w) X.A (throw (.ref ea) : Sem Flow) (SP X pins D) X.xe t7) X.xe { t4 with heap := k3 } := by
          rw [hfm]
          exact HandSPX.setFlight_upZ fly fun k4 held up4 => wpAny_throw (tk _ _ ⟨ea, G, sI, pins, τ1, J1, cls, d, rfl, invI, nb, (up.trans up3).trans up4, .inr (.inr (by rw [hst]; exact held)), na, os, ag, w⟩)
        first | exact wpAny_bind (wpAny_pure (wpAny_bind onward)) | exact wpAny_bind onward
      | @bare x c ts st more np hp hds2 l2 hc ok r ih =>
        intro ⟨b, b1, yes, no⟩
        refine wpAny_handleBy_cons (codeAny_handlers_test ?_) (by intro q; cases q)
        refine test hc ((PySem.W.exm_one (M := model X.prog X.w) inv3.kIn LT b1).here ?_)
        cases b with
        | false => exact ih (no rfl)
        | true =>
          refine codeAny_handlers_suite (HandSPX.lands_againZ fly fun k4 fly4 up4 => ?_)
          have inv4 : Inv X pins τ1 J1 { t4 with heap := k4 } := invI.landed nb fly4.1 ((up.trans up3).trans up4) os ag
          obtain ⟨eo4, us4, at4, z4, da4⟩ := fly4.there
          refine wpAny_mono ((ok ea eo4 cls d (X.pn ++ pins) z4 ⟨_, da4⟩).run [] _ _ J1 _ (inv4.suite at4 da4 na offL offO) (yes rfl ea na)) (fun fl t8 ran => ?_) (fun _ _ z => z.elim)
          cases fl with
          | ret u => obtain ⟨v, τ6, J6, i6, r6, q⟩ := ran; exact ⟨v, τ6, J6, i6.unsuite fine, r6, q⟩
          | next => obtain ⟨τ6, J6, i6, q⟩ := ran; exact ⟨τ6, J6, i6.unsuite fine, q⟩
          | brk => obtain ⟨τ6, J6, i6, q⟩ := ran; exact ⟨τ6, J6, i6.unsuite fine, q⟩
          | cont => obtain ⟨τ6, J6, i6, q⟩ := ran; exact ⟨τ6, J6, i6.unsuite fine, q⟩
      | @named x n i c ts st more np hp hds2 l2 hc hi hl ok r ih =>
        intro ⟨b, b1, yes, no⟩
        refine wpAny_handleBy_cons (codeAny_handlers_test ?_) (by intro q; cases q)
        refine test hc ((PySem.W.exm_one (M := model X.prog X.w) inv3.kIn LT b1).here ?_)
        cases b with
        | false => exact ih (no rfl)
        | true =>
          refine codeAny_handlers_suite_as (HandSPX.lands_againZ fly fun k4 fly4 up4 => ?_)
          have inv4 : Inv X pins τ1 J1 { t4 with heap := k4 } := invI.landed nb fly4.1 ((up.trans up3).trans up4) os ag
          obtain ⟨eo4, us4, at4, z4, da4⟩ := fly4.there
          refine store_ok (X := X.suite ea ((ea, eo4) :: (X.pn ++ pins))) (v := .ref ea) (inv4.suite at4 da4 na offL offO) nd hi (.inl hl) rfl (fun t9 inv9 => ?_) (.inr hl)
          refine wpAny_mono ((ok ea eo4 cls d (X.pn ++ pins) z4 ⟨_, da4⟩).run [] t9 _ J1 _ inv9 (yes rfl ea na)) (fun fl t8 ran => ?_) (fun _ _ z => z.elim)
          have gone : ∀ {τ6 : L2.St} {J6 : Hp} {Q : Shared → Prop}, Inv (X.suite ea ((ea, eo4) :: (X.pn ++ pins))) [] τ6 J6 t8 → (∀ t, Inv X pins (τ6.set i none) J6 t → Q t) →
              wpAny (model X.prog X.w) X.A (do bindName X.env n .none; unbindBehindTheSuite X.env n hp) (fun _ t => Q t) X.xe t8 := by
            intro τ6 J6 Q i6 q
            exact gone_ok (i6.unsuite fine) nd hi hl q
          cases fl with
          | ret u => obtain ⟨v, τ6, J6, i6, r6, q⟩ := ran; exact gone i6 fun t i7 => ⟨v, _, J6, i7, r6, q⟩
          | next => obtain ⟨τ6, J6, i6, q⟩ := ran; exact gone i6 fun t i7 => ⟨_, J6, i7, q⟩
          | brk => obtain ⟨τ6, J6, i6, q⟩ := ran; exact gone i6 fun t i7 => ⟨_, J6, i7, q⟩
          | cont => obtain ⟨τ6, J6, i6, q⟩ := ran; exact gone i6 fun t i7 => ⟨_, J6, i7, q⟩
    exact go hh w
  · cases fl with
    | ret u => obtain ⟨v, τ6, J6, i6, r6, q⟩ := ran; exact ⟨v, τ6, J6, i6.ofTry fine, r6, q⟩
    | next => obtain ⟨τ6, J6, i6, q⟩ := ran; exact wpAny_execs_nil ⟨τ6, J6, i6.ofTry fine, q⟩
    | brk => obtain ⟨τ6, J6, i6, q⟩ := ran; exact ⟨τ6, J6, i6.ofTry fine, q⟩
    | cont => obtain ⟨τ6, J6, i6, q⟩ := ran; exact ⟨τ6, J6, i6.ofTry fine, q⟩
end
end Rf

namespace Rf
open PySem PySem.Spec L2 PyProof.Rows

/-! ### try: its reading -/
structure Hd where
  c : Nat
  i : Option Nat
  m : List W → MS
def clrO (i : Option Nat) (env : Env) : Env := match i with
  | none => env
  | some i => env.set i none
def SO.unAs (i : Option Nat) : SO → SO
  | .nx e S => .nx (clrO i e) S
  | .rt w S => .rt w S
  | .bk e S => .bk (clrO i e) S
  | .ct e S => .ct (clrO i e) S
  | _ => .stuck
def sSuite (h : Hd) (ws : List W) : MS := fun bs env S => (h.m ws bs (clrO h.i env) S).unAs h.i
def sTry (b : MS) (errs : List Nat) (cat : Nat → Nat → Bool) (hs : List Hd) : MS := fun bs env S => match b bs env S with
  | .ex c ws e S1 => if c ∈ errs then (match hs.find? fun h => cat c h.c with
      | some h => sSuite h ws bs e S1
      | none => .ex c ws e S1) else .stuck
  | o => o
/-- what the exception keeps -/
def Kept (g : Gx) (k : Nat) (ws : List W) (d : Option Addr) : List Addr → Hp → Prop := fun ρ F => match ws with
  | [] => True
  | w :: _ => ∃ a x, d = some a ∧ F a = some (.xd [(g.fld k, x)]) ∧ Is g.K ρ F x w
theorem kept_stays (g : Gx) (k : Nat) (ws : List W) (d : Option Addr) : Stays (Kept g k ws d) := fun ρ F ρ' F' gr h => by
  cases ws with
  | nil => trivial
  | cons w ws => obtain ⟨a, x, h1, h2, h3⟩ := h; exact ⟨a, x, h1, gr.ex _ _ h2, h3.mono gr⟩
abbrev gK (g : Gx) (k : Nat) (ws : List W) (d : Option Addr) : Gx := g.pin (Kept g k ws d) (kept_stays g k ws d)
/-- where a clause has named the exception -/
def slotOf (i : Option Nat) (ea : Addr) : L2.St → Prop := fun τ => match i with
  | none => True
  | some i => i < τ.length → τ[i]? = some (some (.ref ea))
theorem slot_put (i : Option Nat) (ea : Addr) (τ : L2.St) : slotOf i ea (putOf i ea τ) := by
  cases i with
  | none => trivial
  | some i => intro h; exact List.getElem?_set_self (by simpa [putOf] using h)
/-- readings under a condition of the slots -/
abbrev rdGC {α β : Type} (C : L2.St → Prop) (g : Gx) (B : WX) (R : List Addr → Hp → β → α → Prop) (m : M α) : L2.St → Hp → (β → Hp → Prop) → Prop := fun τ J Q => C τ ∧ rdG g B R m τ J Q
abbrev rdC (C : L2.St → Prop) (g : Gx) (B : WX) (m : M W) : TE := rdGC C g B (RW g) m
abbrev rdAC (C : L2.St → Prop) (g : Gx) (B : WX) (m : M (List W)) : TA := rdGC C g B (RWs g) m
abbrev rdSC (C : L2.St → Prop) (g : Gx) (B : WX) (m : MS) : TS := fun D τ J => C τ ∧ rdS g B m D τ J
section
variable {g : Gx} {bs : List Nat} {ρ ρ1 : List Addr} {F F1 N H : Hp} {S : Store} {σ : L2.St} {env : Env} {P : List Addr → Hp → Prop} {hP : Stays P}
theorem Sim.pin (s : Sim g bs ρ F N S H) : Sim (g.pin P hP) bs ρ F N S H := ⟨s.len, s.nd, s.ex, s.fr, s.cell, s.hid, s.nf, s.nl, s.bot, s.tab, s.nt⟩
theorem Sim.unpin (s : Sim (g.pin P hP) bs ρ F N S H) : Sim g bs ρ F N S H := ⟨s.len, s.nd, s.ex, s.fr, s.cell, s.hid, s.nf, s.nl, s.bot, s.tab, s.nt⟩
theorem EnvR.pin (e : EnvR g ρ F σ env) (h : P ρ F) : EnvR (g.pin P hP) ρ F σ env := ⟨e.len, e.at_, e.more, h⟩
theorem EnvR.unpin (e : EnvR (g.pin P hP) ρ F σ env) : EnvR g ρ F σ env := ⟨e.len, e.at_, e.more.1⟩
/-- a thing of the heap that is no cell comes to be known -/
theorem Sim.know {a : Addr} {u : HO} (s : Sim g bs ρ F N S H) (h : H a = some u) (no : ¬ Mu (some u)) (n1 : ∀ c d l, u ≠ .ins c d l) (n2 : ∀ o v, u ≠ .frz o v) (n0 : ∀ ps, u ≠ .tbl ps) : ∃ F', Grow ρ F ρ F' ∧ Sim g bs ρ F' N S H ∧ F' a = some u := by
  cases hF : F a with
  | some o =>
    have e := s.ex a o hF
    rw [h] at e; cases e
    exact ⟨F, Grow.refl _ _, s, hF⟩
  | none =>
    have gr : Grow ρ F ρ (upd F a u) := ⟨⟨[], by simp⟩, same_new hF⟩
    have nr : a ∉ ρ := fun ha => by
      obtain ⟨n, hn, e⟩ := List.mem_iff_getElem.mp ha
      have hl : n < S.length := by rw [← s.len]; exact hn
      have c := s.cell n S[n] a (by simp [hl]) (by rw [List.getElem?_eq_getElem hn, e])
      cases hc : S[n] with
      | lst ws => rw [hc] at c; obtain ⟨_, q, _⟩ := c; rw [h] at q; cases q; exact no trivial
      | dic ws => rw [hc] at c; rcases c with ⟨_, q, _⟩ | ⟨_, q, _⟩ <;> (rw [h] at q; cases q; exact no trivial)
      | ins k fs => rw [hc] at c; obtain ⟨_, _, q, _⟩ := c; rw [h] at q; cases q; exact n1 _ _ _ rfl
      | fz ws => rw [hc] at c; rcases c with ⟨_, _, q, _⟩ | ⟨_, _, q, _⟩ <;> (rw [h] at q; cases q; exact n2 _ _ rfl)
    refine ⟨_, gr, ⟨s.len, s.nd, fun b v e => ?_, fun n c b e1 e2 e3 => ?_, fun n c b e1 e2 => (s.cell n c b e1 e2).mono gr rfl, s.hid, fun b v e => ⟨?_, (s.nf b v e).2⟩, s.nl, s.bot, s.tab, nt_upd s.nt n0⟩, upd_same⟩
    · by_cases z : b = a
      · subst z; rw [upd_same] at e; cases e; exact h
      · rw [upd_ne z] at e; exact s.ex b v e
    · rw [upd_ne (ne_mem (List.mem_of_getElem? e2) nr)]; exact s.fr n c b e1 e2 e3
    · have z : b ≠ a := fun z => by
        subst z
        have e' := s.hid b _ e
        rw [h] at e'; cases e'
        exact no (s.nl b _ e)
      rw [upd_ne z]; exact (s.nf b v e).1
theorem EnvR.clrO (e : EnvR g ρ F σ env) (i : Option Nat) (ea : Addr) : EnvR g ρ F (putOf i ea σ) (Rf.clrO i env) := by
  cases i with
  | none => exact e
  | some i =>
    refine ⟨by simp [putOf, Rf.clrO, e.len], fun j x hj => ?_, e.more⟩
    by_cases z : i = j
    · subst z
      have hj' : (env.set i none)[i]? = some (some x) := hj
      have hl := (List.getElem?_eq_some_iff.mp hj').1
      simp only [List.length_set] at hl
      rw [List.getElem?_set_self hl] at hj'
      cases hj'
    · have hj' : (env.set i none)[j]? = some (some x) := hj
      rw [List.getElem?_set_ne z] at hj'
      show ∃ v, (σ.set i (some (.ref ea)))[j]? = some (some v) ∧ _
      rw [List.getElem?_set_ne z]
      exact e.at_ j x hj'
/-- the suite's outcome, its name gone -/
theorem post_unAs {B : WX} {D : Ends} {i : Option Nat} {o : SO} (h : PostS g B bs ρ F N D (o.unAs i)) : PostS (g.pin P hP) (fun _ _ _ _ => False) bs ρ F N (backOf i D) o := by
  cases o with
  | nx e S1 =>
    intro ρ' F' H' σ' gr s e'
    cases i with
    | none => exact h ρ' F' H' σ' gr s.unpin e'.unpin
    | some i => exact h ρ' F' H' (σ'.set i none) gr s.unpin (e'.unpin.clr i)
  | bk e S1 =>
    intro ρ' F' H' σ' gr s e'
    cases i with
    | none => exact h ρ' F' H' σ' gr s.unpin e'.unpin
    | some i => exact h ρ' F' H' (σ'.set i none) gr s.unpin (e'.unpin.clr i)
  | ct e S1 =>
    intro ρ' F' H' σ' gr s e'
    cases i with
    | none => exact h ρ' F' H' σ' gr s.unpin e'.unpin
    | some i => exact h ρ' F' H' (σ'.set i none) gr s.unpin (e'.unpin.clr i)
  | rt w S1 =>
    intro ρ' F' H' v gr s r
    cases i with
    | none => exact h ρ' F' H' v gr s.unpin r
    | some i => exact h ρ' F' H' v gr s.unpin r
  | ex c ws e S1 => exact h.elim
  | stuck => exact h.elim
end
section
variable {X : Cx} {g : Gx} {B : WX} {body : List Stmt} {hd : ExceptHandler} {hds : List ExceptHandler} {pos : Pos} {errs : List Nat} {cat : Nat → Nat → Bool}
theorem pss_ex {ι : Type} {st : List Stmt} {t : ι → TS} (h : ∀ i, PSs X st (t i)) : PSs X st (fun D σ H => ∃ i, t i D σ H) := ⟨fun pins s σ H D I ⟨i, q⟩ => (h i).run pins s σ H D I q⟩
theorem pss_and {st : List Stmt} {p : Prop} {t : TS} (h : p → PSs X st t) : PSs X st (fun D σ H => p ∧ t D σ H) := ⟨fun pins s σ H D I q => (h q.1).run pins s σ H D I q.2⟩
def tsOf (g : Gx) (errs : List Nat) (cat : Nat → Nat → Bool) (h : Hd) : Addr → Value → Option Addr → TS := fun ea cls d D τ J => ∃ k : Nat, ∃ ws : List W, (cat k h.c = true ∧ k ∈ errs ∧ cls = .ref (g.cls k)) ∧ rdSC (slotOf h.i ea) (gK g k ws d) (fun _ _ _ _ => False) (h.m ws) D τ J
def clOf (g : Gx) (errs : List Nat) (cat : Nat → Nat → Bool) (h : Hd) : Clause := (.ref (g.cls h.c), h.i, tsOf g errs cat h)
abbrev SuiteR (X : Cx) (g : Gx) (errs : List Nat) (cat : Nat → Nat → Bool) (c : Nat) (i : Option Nat) (m : List W → MS) (suite : List Stmt) : Prop :=
  ∀ (k : Nat) (ws : List W) (d : Option Addr) (ea : Addr) (eo : Obj) (pq : List (Addr × Obj)), cat k c = true → k ∈ errs → Zc (.ref (g.cls k)) d eo → (∃ us, eo.data = .fields us) → PSs (X.suite ea ((ea, eo) :: pq)) suite (rdSC (slotOf i ea) (gK g k ws d) (fun _ _ _ _ => False) (m ws))
theorem suite_ok {h : Hd} {suite : List Stmt} (ok : SuiteR X g errs cat h.c h.i h.m suite) : SuiteOk X suite (tsOf g errs cat h) := fun ea eo cls d pq hz hd =>
  pss_ex fun k => pss_ex fun ws => pss_and fun ⟨h1, h2, h3⟩ => by subst h3; exact ok k ws d ea eo pq h1 h2 hz hd
inductive HdsR (X : Cx) (g : Gx) (errs : List Nat) (cat : Nat → Nat → Bool) : List ExceptHandler → List Hd → Prop
  | nil : HdsR X g errs cat [] []
  | bare {x : Str} {c : Nat} {m : List W → MS} {st : Stmt} {more : List Stmt} {np hp : Pos} {hds : List ExceptHandler} {l : List Hd} (hc : Names X x (.ref (g.cls c))) (hx : ∀ k ∈ errs, PySem.W.exmOne X.K (.ref (g.cls k)) (.ref (g.cls c)) = some (cat k c))
      (ok : SuiteR X g errs cat c none m (st :: more)) (r : HdsR X g errs cat hds l) : HdsR X g errs cat (.ExceptHandler (some (.Name x np)) none (st :: more) hp :: hds) (⟨c, none, m⟩ :: l)
  | named {x n : Str} {i : Nat} {c : Nat} {m : List W → MS} {st : Stmt} {more : List Stmt} {np hp : Pos} {hds : List ExceptHandler} {l : List Hd} (hi : X.N[i]? = some n) (hl : X.env.kindOf n = some .local) (hc : Names X x (.ref (g.cls c)))
      (hx : ∀ k ∈ errs, PySem.W.exmOne X.K (.ref (g.cls k)) (.ref (g.cls c)) = some (cat k c)) (ok : SuiteR X g errs cat c (some i) m (st :: more)) (r : HdsR X g errs cat hds l) : HdsR X g errs cat (.ExceptHandler (some (.Name x np)) (some n) (st :: more) hp :: hds) (⟨c, some i, m⟩ :: l)
theorem hds_cl {l : List Hd} (h : HdsR X g errs cat hds l) : Clauses X hds (l.map (clOf g errs cat)) := by
  induction h with
  | nil => exact .nil
  | bare hc hx ok r ih => exact .bare hc (suite_ok (h := ⟨_, none, _⟩) ok) ih
  | named hi hl hc hx ok r ih => exact .named hc hi hl (suite_ok (h := ⟨_, some _, _⟩) ok) ih
theorem hds_x {l : List Hd} (h : HdsR X g errs cat hds l) : ∀ x ∈ l, ∀ k ∈ errs, PySem.W.exmOne X.K (.ref (g.cls k)) (.ref (g.cls x.c)) = some (cat k x.c) := by
  induction h with
  | nil => intro x hx; cases hx
  | bare hc hx ok r ih =>
    intro x hm
    rcases List.mem_cons.mp hm with z | z
    · subst z; exact hx
    · exact ih x z
  | named hi hl hc hx ok r ih =>
    intro x hm
    rcases List.mem_cons.mp hm with z | z
    · subst z; exact hx
    · exact ih x z
theorem mix_of {bs : List Nat} {ρ ρ' : List Addr} {F F' N H' : Hp} {D : Ends} {σ' : L2.St} {c : Nat} {ws : List W} {e1 : Env} {S1 : Store} {d : Option Addr} (hK : g.K = X.K) (hc : c ∈ errs) (gr : Grow ρ F ρ' F') (s : Sim g bs ρ' F' N S1 H') (e : EnvR g ρ' F' σ' e1) (r : ExR g c ρ' F' H' d ws) :
    ∀ (l : List Hd), (∀ x ∈ l, ∀ k ∈ errs, PySem.W.exmOne X.K (.ref (g.cls k)) (.ref (g.cls x.c)) = some (cat k x.c)) → PostS g B bs ρ F N D (match l.find? fun h => cat c h.c with
      | some h => sSuite h ws bs e1 S1
      | none => .ex c ws e1 S1) → wMix X.K B D (l.map (clOf g errs cat)) (.ref (g.cls c)) d σ' H'
  | [], _, p => p ρ' F' H' σ' d gr s e r
  | h :: l, hx, p => by
    refine ⟨cat c h.c, hx h (List.mem_cons_self ..) c hc, fun hb ea na => ?_, fun hb => ?_⟩
    · rw [List.find?_cons, hb] at p
      have p' : PostS g B bs ρ F N D (sSuite h ws bs e1 S1) := p
      obtain ⟨F2, g2, s2, k2⟩ : ∃ F2, Grow ρ' F' ρ' F2 ∧ Sim g bs ρ' F2 N S1 H' ∧ Kept g c ws d ρ' F2 := by
        cases ws with
        | nil => exact ⟨F', Grow.refl _ _, s, trivial⟩
        | cons w ws =>
          obtain ⟨a, v, h1, h2, h3⟩ := r
          obtain ⟨F2, g2, s2, e2⟩ := s.know h2 (fun z => z) (fun _ _ _ z => nomatch z) (fun _ _ z => nomatch z) (fun _ z => nomatch z)
          exact ⟨F2, g2, s2, a, v, h1, e2, h3.mono g2⟩
      refine ⟨c, ws, ⟨hb, hc, rfl⟩, slot_put _ _ _, bs, ρ', F2, N, clrO h.i e1, S1, s2.pin, EnvR.pin ((e.mono g2).clrO h.i ea) k2, ?_⟩
      exact post_unAs (PostS.grow (gr.trans g2) p')
    · rw [List.find?_cons, hb] at p
      exact mix_of hK hc gr s e r l (fun x hm => hx x (List.mem_cons_of_mem _ hm)) p
theorem rs_tryC {C : L2.St → Prop} {b : MS} {l : List Hd} (hst : X.stack = X.env :: X.outer) (hfm : X.env.frame = some X.env.locals) (nd : X.N.Nodup) (hK : g.K = X.K) (tk : Takes X B)
    (hb : ∀ (W : WX) (pq : List (Addr × Obj)) (xe : Value → Shared → Prop), Takes (X.tr pq xe) W → PassesOwn (model X.prog X.w) X.A X.env xe → PSs (X.tr pq xe) body (rdSC C g W b))
    (hh : HdsR X g errs cat (hd :: hds) l) : PS X (.Try body (hd :: hds) [] [] pos) (rdSC C g B (sTry b errs cat l)) :=
  (ps_try_mix hst hfm nd tk hb (hds_cl hh)).imp fun D σ H ⟨cσ, bs, ρ, F, N, env, S, s, e, p⟩ => by
  refine ⟨cσ, bs, ρ, F, N, env, S, s, e, ?_⟩
  unfold sTry at p
  cases ho : b bs env S with
  | nx e1 S1 => rw [ho] at p; exact p
  | rt w S1 => rw [ho] at p; exact p
  | bk e1 S1 => rw [ho] at p; exact p
  | ct e1 S1 => rw [ho] at p; exact p
  | stuck => rw [ho] at p; exact p
  | ex c ws e1 S1 =>
    rw [ho] at p
    by_cases hc : c ∈ errs
    · have p' : PostS g B bs ρ F N D (if c ∈ errs then (match l.find? fun h => cat c h.c with
        | some h => sSuite h ws bs e1 S1
        | none => .ex c ws e1 S1) else .stuck) := p
      rw [if_pos hc] at p'
      exact fun ρ' F' H' σ' d gr s' e' r => mix_of hK hc gr s' e' r l (hds_x hh) p'
    · have p' : PostS g B bs ρ F N D (if c ∈ errs then (match l.find? fun h => cat c h.c with
        | some h => sSuite h ws bs e1 S1
        | none => .ex c ws e1 S1) else .stuck) := p
      rw [if_neg hc] at p'
      exact p'.elim
end
/-! ### in a suite: the exception's field -/
section
variable {X : Cx} {g : Gx} {B : WX} {C : L2.St → Prop} {a b e : Expr} {es : List Expr} {ma mb : M W} {ms : M (List W)} {pos : Pos} {f : Op2} {st : List Stmt} {m : MS}
def mKept (ws : List W) : M W := fun _ _ S => match ws with
  | w :: _ => .ok w S
  | [] => .stuck
theorem rk_of (h : PE X e (rd g B ma)) : PE X e (rdC C g B ma) := h.imp fun σ H Q q => q.2
theorem rka_of (h : PA X es (rdA g B ms)) : PA X es (rdAC C g B ms) := h.imp fun σ H Q q => q.2
theorem rks_of (h : PSs X st (rdS g B m)) : PSs X st (rdSC C g B m) := h.imp fun D σ H q => q.2
theorem rka_cons (ha : PE X e (rdC C g B ma)) (hr : PA X es (rdAC C g B ms)) (hs : starEach (e :: es) X.env = (false, eval e X.env) :: starEach es X.env := by rfl) : PA X (e :: es) (rdAC C g B (mCons ma ms)) :=
  (pa_cons ha hr hs).imp fun σ H Q ⟨c, bs, ρ, F, N, env, S, s, e, p⟩ => by
    refine ⟨c, bs, ρ, F, N, env, S, s, e, (Post.bind p).imp fun x H1 ⟨ρ1, F1, wx, S1, g1, s1, r1, p1⟩ => ?_⟩
    refine ⟨c, bs, ρ1, F1, N, env, S1, s1, e.mono g1, (Post.bind p1).imp fun y H2 ⟨ρ2, F2, wy, S2, g2, s2, r2, p2⟩ => ?_⟩
    exact p2 ρ2 F2 H2 _ (Grow.refl _ _) s2 (.cons (r1.mono g2) r2)
theorem rk_tup {x1} (h : PA X es (rdAC C g B ms)) : PE X (.Tuple es x1 pos) (rdC C g B (mTup ms)) := (pe_tup h).imp fun σ H Q ⟨c, bs, ρ, F, N, env, S, s, e, p⟩ => by
  refine ⟨c, bs, ρ, F, N, env, S, s, e, (Post.bind p).imp fun x H1 ⟨ρ1, F1, wx, S1, g1, s1, r1, p1⟩ => ?_⟩
  split at p1
  · rename_i hl
    refine ⟨line5 (by rw [r1.len]; exact hl), fun q hq => newT_ok s1 hq r1 p1⟩
  · exact p1.elim
theorem rks_ret {p : Pos} (h : PE X e (rdC C g B ma)) : PSs X [.Return (some e) p] (rdSC C g B (sRet ma)) := (pss_one (ps_ret h)).imp fun D σ H ⟨c, bs, ρ, F, N, env, S, s, e, p⟩ => by
  refine ⟨c, bs, ρ, F, N, env, S, s, e, (PostS.out (R := RW g) e p).imp fun x H1 ⟨ρ1, F1, wx, S1, g1, s1, r1, p1⟩ => ?_⟩
  exact p1 ρ1 F1 H1 x (Grow.refl _ _) s1 r1
end
end Rf

namespace Rf
open PySem PySem.Spec L2 PyProof.Rows LamX

/-! ### a lambda without parameters, handed to a def that calls it -/
abbrev Lam := List Nat → Store → Out W
def mThunk (lam : Lam) : M W := fun bs _ S => lam bs S
def mLam (F : Lam → Lam) (m : M W) : M W := fun bs env S => F (fun bs' S' => m bs' env S') bs S
/-- a def of n names that gets a lambda -/
def fnL (n : Nat) (m : Lam → MS) : Lam → Lam := fun lam bs S => popR S.length (m lam (S.length :: bs) (List.replicate n none) S).out
def LamP (g : Gx) (σ : L2.St) (env : Env) (co : Addr) (q : Str) : List Addr → Hp → Prop := fun ρ F => EnvR g ρ F σ env ∧ F co = some (CodeO co q)
theorem lam_stays (g : Gx) (σ : L2.St) (env : Env) (co : Addr) (q : Str) : Stays (LamP g σ env co q) := fun ρ F ρ' F' gr h => ⟨h.1.mono gr, gr.ex _ _ h.2⟩
abbrev gL (g : Gx) (σ : L2.St) (env : Env) (co : Addr) (q : Str) : Gx := g.pin (LamP g σ env co q) (lam_stays g σ env co q)
abbrev slot0 (fv : Addr) : L2.St → Prop := fun τ => τ[0]? = some (some (.ref fv))
/-- what is handed may be called -/
def ActOk (X : Cx) (g : Gx) (fv : Addr) (a : Str) (lam : Lam) : Prop :=
  ∀ (W' : WX) (pq : List (Addr × Obj)) (xe : Value → Shared → Prop) (p1 p2 : Pos), Takes (X.tr pq xe) W' → PE (X.tr pq xe) (.Call (.Name a p1) [] [] p2) (rdC (slot0 fv) g W' (mThunk lam))
section
variable {g : Gx} {bs : List Nat} {ρ : List Addr} {F N H H' : Hp} {S : Store} {P : List Addr → Hp → Prop} {hP : Stays P}
theorem Sim.ext (s : Sim g bs ρ F N S H) (k : ExtN H H') (t : Tabs g.T H') : Sim g bs ρ F N S H' :=
  ⟨s.len, s.nd, fun a o e => k a o (s.ex a o e) fun ps z => s.nt a ps (by rw [e, z]), s.fr, fun n c a e1 e2 => by
    have x := s.cell n c a e1 e2
    obtain ⟨o, e⟩ := x.some
    exact x.mono (Grow.refl ρ F) (by rw [e, k a o e (CellOk.nt x o e).1]), fun a o e => k a o (s.hid a o e) (s.nl a o e).nt.1, s.nf, s.nl, s.bot, t, s.nt⟩
theorem PostS.pin {B : WX} {D : Ends} {o : SO} (h : PostS g B bs ρ F N D o) : PostS (g.pin P hP) B bs ρ F N D o := by
  cases o with
  | nx e S1 => exact fun ρ' F' H' σ' gr s e' => h ρ' F' H' σ' gr s.unpin e'.unpin
  | rt w S1 => exact fun ρ' F' H' v gr s r => h ρ' F' H' v gr s.unpin r
  | bk e S1 => exact fun ρ' F' H' σ' gr s e' => h ρ' F' H' σ' gr s.unpin e'.unpin
  | ct e S1 => exact fun ρ' F' H' σ' gr s e' => h ρ' F' H' σ' gr s.unpin e'.unpin
  | ex c ws e S1 => exact fun ρ' F' H' σ' d gr s e' r => h ρ' F' H' σ' d gr s.unpin e'.unpin r
  | stuck => exact h
end
section
variable {X : Cx} {g : Gx} {pins : List (Addr × Obj)} {σ : L2.St} {H : Hp} {s : Shared} {env : Env}
theorem act_ok {E0 : XK} {Ng : List Str} {qg a : Str} {sg : Scope} {ga fv co : Addr} {cdg pm ctv : Value} {params : Arguments} {body : Expr} {scope : Scope} {k : Nat} {m : M W}
    (inv : Inv X pins σ H s) (L : LamS X.env.scope scope) (lies : s.heap.get? fv = some (PySem.W.kla_obj "<lambda>" (X.env.qual ++ "<lambda>") params body scope (cloFrom X.env.cells scope.names []) pm co ctv)) (free : H fv = none) (off : fv ∉ frs X.stack)
    (hbind : bindArgs (PySem.W.kla_fn "<lambda>" (X.env.qual ++ "<lambda>") params body scope (cloFrom X.env.cells scope.names []) pm (.ref co) ctv) ⟨[], []⟩ = pure []) (hr : RoomG (k + 1) (X.A.deeper (envOfC qg sg s.heap.objs.size ga cdg)))
    (hbody : ∀ (A : Around) (outer : List PySem.Env) (s : Shared) (H : Hp) (E : XK), RoomG k (A.deeper (lamEnv X scope s.heap.objs.size fv co)) → PE (lamCx X A outer s H E scope fv co) body (rd g (fun c d _ H => E c d H) m))
    (hN : Ng[0]? = some a) (hv : Vis sg a) (hd : (a == ("__debug__" : Str)) = false) (hcd : (a == ("__classdict__" : Str)) = false) :
    ActOk (cxOf (L2.CX X.prog X.w) X.prog X.w X.K X.mg X.base Ng qg sg ga cdg X.A X.stack s H E0) (gL g σ env co (X.env.qual ++ "<lambda>")) fv a (fun bs' S' => m bs' env S') := by
  intro W' pq xe p1 p2 tk
  refine ⟨fun pinsZ sZ σZ HZ Q invZ ⟨hs, bs, ρ, F, N, envZ, S, sim, er, p⟩ => ?_⟩
  have known := er.more.2
  refine wpAny_Call_Name_kw (thn ((pe_var (pos := p1) (i := 0) hN hv hd hcd).run pinsZ sZ σZ HZ (fun v H1 => v = .ref fv ∧ H1 = HZ) invZ ⟨.ref fv, hs, rfl, rfl⟩) fun u s1 told => ?_)
  obtain ⟨v, H1, inv1, r1, ev, eH⟩ := told
  subst ev
  rw [eH] at inv1
  obtain rfl : u = Value.ref fv := r1
  have there : s1.heap.get? fv = some (PySem.W.kla_obj "<lambda>" (X.env.qual ++ "<lambda>") params body scope (cloFrom X.env.cells scope.names []) pm co ctv) := inv1.base.keep fv _ lies free off fun z => nomatch (show fv ∈ ([] : List Addr) from z)
  refine PySem.W.callWith_F0 ⟨_, _, _, _, there⟩ ?_
  have since : Un (frs X.stack) [] H HZ s.heap s1.heap := inv1.base
  obtain ⟨⟨oc, us, t, hoc, hdc, hvc⟩, _, _⟩ := inv1.hok co _ (sim.ex _ _ known.2)
  have told : rd g (fun c d _ H => WE W' σZ c d H) m σ HZ Q := by
    refine ⟨bs, ρ, F, N, env, S, sim.unpin, known.1, ?_⟩
    have p' : Post (gL g σ env co (X.env.qual ++ "<lambda>")) W' (RW _) bs ρ F N σZ Q (m bs env S) := p
    cases hm : m bs env S with
    | ok w S1 => rw [hm] at p'; exact fun ρ' F' H' v gr s r => p' ρ' F' H' v gr s.pin r
    | ex c ws S1 => rw [hm] at p'; exact fun ρ' F' H' d gr s r => p' ρ' F' H' d gr s.pin r
    | stuck => rw [hm] at p'; exact p'
  have ran : codeAny (model X.prog X.w) (X.A.deeper (envOfC qg sg s.heap.objs.size ga cdg)) (.call (.ref fv) ⟨[], []⟩) (CR (L2.CX X.prog X.w) (envOfC qg sg s.heap.objs.size ga cdg :: X.stack) X.prog X.w HZ s1 Q (WE W' σZ)) s1 := by
    refine PySem.W.kla_callFunE hr.rm.depth there rfl L.co L.gen rfl ⟨co, oc, us, t, rfl, hoc, hdc, hvc⟩ ?_
    rw [hbind]
    refine wpAny_pure (wpAny_newFunctionEnv (fun y hy => (L.own y hy).2) (fun y hy => absurd hy (by simp)) (fun h₁ hns hsb => ⟨inv1.nolimit.fresh _ hsb, ?_⟩) L.kind)
    show codeAny _ _ (.expr body (lamEnv X scope s1.heap.objs.size fv co)) _ _
    have kp : ∀ b o, s1.heap.get? b = some o → h₁.get? b = some o := by
      intro b o e
      exact hsb.extBut b o (Nat.ne_of_lt (Heap.lt_size e)) (Heap.get?_push_of_some _ e)
    have J := lam_start2 (E := WE W' σZ) (f := fv) (c' := co) (tk := s1.toks + ([] : List (Str × Value)).length) inv L inv1.env0 hr.rm.hd since hns kp
    refine PySem.W.kla_codeExpr (wpAny_mono ((hbody _ _ s1 HZ (WE W' σZ) (hr.deeper _)).run [] _ _ HZ Q J told) (fun v s' done => ?_) fun e s' z => z)
    obtain ⟨w', H', J', rv, q⟩ := done
    exact ⟨w', H', J'.os, J'.bare, J'.base, J'.hok, rv, q⟩
  refine wpAny_call (codeAny_mono ran fun r s' done => ?_)
  cases r with
  | error e => exact passAt tk σZ pinsZ HZ s1 e s' inv1 done
  | ok fl =>
    cases fl with
    | ret u => exact inv1.after done
    | next => exact done.elim
    | brk => exact done.elim
    | cont => exact done.elim
theorem re_lam {B : WX} {x a : Str} {ga co P : Addr} {k n : Nat} {fd : FuncData} {st : Stmt} {Ng : List Str} {params : Arguments} {body : Expr} {scope : Scope} {mc : Lam → MS} {m : M W} {p lpos pos : Pos} (tk : Takes X B)
    (hK : g.K = X.K) (hg : Gl X x) (hm : X.mg x = some (.ref ga)) (Fu : Fun X.K x x st ga fd) (Sg : FnScope Ng [a] (defScope st)) (hb : Binds X.K fd [a] []) (hn : Ng.length = n)
    (cal : ∀ (P : List Addr → Hp → Prop) (hP : Stays P) (cdv : Value) (A : Around) (outer : List PySem.Env) (s : Shared) (H : Hp) (E : XK) (fv : Addr) (lam : Lam), RoomG k (A.deeper (envOfC x (defScope st) s.heap.objs.size ga cdv)) →
      ActOk (cxOf (L2.CX X.prog X.w) X.prog X.w X.K X.mg X.base Ng x (defScope st) ga cdv A outer s H E) (g.pin P hP) fv a lam →
      PSs (cxOf (L2.CX X.prog X.w) X.prog X.w X.K X.mg X.base Ng x (defScope st) ga cdv A outer s H E) (defBody st) (rdSC (slot0 fv) (g.pin P hP) (fun c d _ H => E c d H) (mc lam)))
    (TB : TabB X.base X.mg co P) (hcode : X.env.code = .ref co) (hmT : (P, X.env.qual ++ "<lambda>") ∈ g.T) (hu : ∀ p ∈ g.T, p.1 = P → p.2 = X.env.qual ++ "<lambda>") (hr : RoomG (k + 1) X.A) (L : LamS X.env.scope scope) (hdef : defaultsOf params X.env = ([], []))
    (hbind : ∀ (q : Str) (cl : List (Str × Addr)) (pm cv ctv : Value), bindArgs (PySem.W.kla_fn "<lambda>" q params body scope cl pm cv ctv) ⟨[], []⟩ = pure [])
    (hbody : ∀ (A : Around) (outer : List PySem.Env) (s : Shared) (H : Hp) (E : XK) (f c' : Addr), RoomG (k - 1) (A.deeper (lamEnv X scope s.heap.objs.size f c')) → PE (lamCx X A outer s H E scope f c') body (rd g (fun c d _ H => E c d H) m)) (hk : 0 < k)
    (hva : Vis (defScope st) a := by first | exact Or.inl rfl | exact Or.inr (Or.inl rfl)) (hNg : Ng[0]? = some a := by rfl)
    (hdb : (x == ("__debug__" : Str)) = false := by decide) (hd : (a == ("__debug__" : Str)) = false := by decide) (hcd : (a == ("__classdict__" : Str)) = false := by decide) :
    PE X (.Call (.Name x p) [.Lambda params body scope lpos] [] pos) (rd g B (mLam (fnL n mc) m)) := by
  obtain ⟨oc, od, kV, doc, pm0, an, cdv, ct, osl, hfd, lk, hcg⟩ := Fu.ex
  subst hfd
  refine ⟨fun pins s σ H Q inv ⟨bs, ρ, F, N, env, S, sim, er, pst⟩ => ?_⟩
  refine wpAny_Call_Name_kw (ld_glob inv hg hm ?_ hdb)
  refine PySem.W.callWith_K (h₀ := X.base) inv.ok.mod.kin Fu.kp ?_ (by rfl) (by rfl)
  show wpAny _ _ (spliced ((false, eval (.Lambda params body scope lpos) X.env) :: backTo pos (starEach [] X.env))) _ _ s
  refine Calls.spliced_cons (lam_make2 inv TB hcode hmT hu sim.tab hdef (L.has inv.ok) fun fv co2 pm ctv H1 s1 inv1 eN T1 lies free off hco => ?_)
  refine Calls.spliced_nil ⟨inv1.kIn, ?_⟩
  have sim1 := sim.ext eN T1
  obtain ⟨F2, g2, sim2, at2⟩ := sim1.know hco (by unfold CodeO; exact id) (by unfold CodeO; exact fun _ _ _ z => nomatch z) (by unfold CodeO; exact fun _ _ z => nomatch z) (by unfold CodeO; exact fun _ z => nomatch z)
  have kn : LamP g σ env co2 (X.env.qual ++ "<lambda>") ρ F2 := ⟨er.mono g2, at2⟩
  have ran : codeAny (model X.prog X.w) X.A (.call (.ref ga) ⟨[.ref fv], []⟩) (CR (L2.CX X.prog X.w) X.stack X.prog X.w H1 s1 Q (WE B σ)) s1 := by
    refine run_ofS (CX := L2.CX X.prog X.w) (N := Ng) (ps := [a]) (us := [.ref fv]) (vs := [.ref fv]) lk hcg Sg hr.rm inv1.env0 (hb s1 [.ref fv] inv1.kIn rfl) (.cons rfl .nil) rfl fun _ => ?_
    obtain ⟨j, rfl⟩ : ∃ j, k = j + 1 := ⟨k - 1, by omega⟩
    have hr1 := hr.deeper (envOfC x (defScope st) s1.heap.objs.size ga cdv)
    have act := act_ok (E0 := WE B σ) (Ng := Ng) (qg := x) (sg := defScope st) (ga := ga) (cdg := cdv) (k := j) (m := m) (env := env) (g := g) inv1 L lies free off (hbind _ _ _ _ _) hr1 (fun A outer s H E r => hbody A outer s H E fv co2 r) hNg hva hd hcd
    refine ⟨_, cal _ _ cdv X.A X.stack s1 H1 (WE B σ) fv _ hr1 act, ?_⟩
    refine ⟨?_, S.length :: bs, ρ, F2, N, List.replicate n none, S, sim2.pin.pushB, ⟨by simp [L2.start, ← hn]; have := (List.getElem?_eq_some_iff.mp hNg).1; omega, fun i w h => ?_, (er.mono g2).more, kn⟩, ?_⟩
    · show (L2.start Ng [V.ref fv])[0]? = _
      rfl
    · rw [List.getElem?_replicate] at h
      split at h <;> cases h
    · refine PostS.pin (PostS.grow g2 ?_)
      exact post_pop sim.len (fun c hc => (sim.bot c hc).1) (post_at pst)
  refine wpAny_call (codeAny_mono ran fun r s2 done => ?_)
  cases r with
  | error e => exact passAt tk σ pins H1 s1 e s2 inv1 done
  | ok fl =>
    cases fl with
    | ret u => exact inv1.after done
    | next => exact done.elim
    | brk => exact done.elim
    | cont => exact done.elim
end
end Rf

namespace Rf
open PySem PySem.Spec L2 PyProof.Rows LamX

/-! ### the end, where lambdas are made: the tables of the defs' code objects lie there, empty -/
section
variable {P : Program} {w : World} {K : PySem.W.Frag} {mg mb : Str → Option Value} {k : Nat} {fa a : Addr} {fd : FuncData} {x : Str} {sp : Sp} {top : Shared} {vs : List Value} {ns : List Int} {cs : List (Addr × Addr)}
abbrev tabO : Obj := { cls := .none, data := .fields #[] }
structure TabsThere (K : PySem.W.Frag) (h : Heap) (cs : List (Addr × Addr)) : Prop where
  empty : ∀ p ∈ cs, h.get? p.2 = some tabO
  own : ∀ p ∈ cs, K.lookup p.2 = none
  head : ∀ p ∈ cs, PySem.W.CodeHd h p.1 p.2
theorem end_coreT (tt : TabsThere K top.heap cs) (H : Hp) (laid : ∀ p ∈ cs, H p.2 = some (.tbl #[])) (only : ∀ b, H b = none ∨ b ∈ cs.map (·.2) ∨ ∃ o xs, H b = some (.frz o (.lst xs))) (sq : SqL K H a (ns.map V.int)) (ok : HOk P w H top.heap)
    (one : ∀ b, H b ≠ none → b = a ∨ b ∈ cs.map (·.2)) (apart : a ∉ cs.map (·.2) → H a ≠ none → K.lookup a = none)
    (KX : K.In top.heap) (hns : top.heap.Ns mainGlobals mg) (hb : top.heap.Ns builtinsNs mb) (boot : ∀ x : Str, x ≠ "__name__" → mb x = bootBuiltins x) (lim : top.heap.NoLimit) (gens : top.gens = #[])
    (bmain : ∃ (bm : Addr) (ob : Obj), mg "__builtins__" = some (.ref bm) ∧ bm ≠ builtinsNs ∧ top.heap.get? bm = some ob ∧ ob.cls = .type "module" ∧ ob.dict = some builtinsNs ∧ ob.data = .plain)
    (lies : top.heap.get? a = some { cls := .type "list", data := .seq vs.toArray }) (room : Room k callerA)
    (F : ∀ base : Heap, K.In base → base.Ns mainGlobals mg → (∀ p ∈ cs, TabB base mg p.1 p.2) → FnG P w K mg base k fa fd [x] sp) (bind : ∀ (s : Shared) (u : Value), BindsTo s fd ⟨[u], []⟩ [(x, u)])
    (promise : sp [.ref a] H (fun v _ => v = .bl true) fun _ _ _ => False) :
    codeAny (model P w) callerA (.call (.ref fa) ⟨[.ref a], []⟩) (Held top) top := by
  have isTab : ∀ {b : Addr}, b ∈ cs.map (·.2) → top.heap.get? b = some tabO := by
    intro b hm
    obtain ⟨p, hp, rfl⟩ := List.mem_map.mp hm
    exact tt.empty p hp
  have noTab : a ∉ cs.map (·.2) := fun z => by
    have q := isTab z
    rw [lies] at q
    exact nomatch (show Data.seq vs.toArray _ = Data.fields #[] from congrArg Obj.data (Option.some.inj q))
  have seen : ∀ {b : Addr} {o : Obj}, top.heap.get? b = some o → H b = none → (hidT top.heap H).get? b = some o := fun e z => hidT_get e z
  have apartO : ∀ {b : Addr} {o : Obj}, top.heap.get? b = some o → (∀ us n, o.data ≠ .seq us n) → o.data ≠ .fields #[] → H b = none := by
    intro b o e n1 n2
    cases z : H b with
    | none => rfl
    | some u =>
      rcases one b (by rw [z]; simp) with rfl | hm
      · rw [lies] at e; cases e; exact (n1 _ _ rfl).elim
      · rw [isTab hm] at e; cases e; exact (n2 rfl).elim
  have apartD : ∀ {b : Addr} {o : Obj} {es : Array DictEntry} {ep : Nat}, top.heap.get? b = some o → o.data = .dict es ep → H b = none := fun e d => apartO e (fun _ _ z => by rw [d] at z; cases z) fun z => by rw [d] at z; cases z
  have names : ∀ {b : Addr} {m : Str → Option Value}, top.heap.Ns b m → (hidT top.heap H).Ns b m := fun q =>
    let ⟨o, es, ep, e, d, r⟩ := q
    ⟨o, es, ep, seen e (apartD e d), d, r⟩
  have KB : K.In (hidT top.heap H) := by
    intro b o e
    refine seen (KX b o e) ?_
    cases z : H b with
    | none => rfl
    | some u =>
      rcases one b (by rw [z]; simp) with rfl | hm
      · rw [apart noTab (by rw [z]; simp)] at e; cases e
      · obtain ⟨p, hp, rfl⟩ := List.mem_map.mp hm
        rw [tt.own p hp] at e; cases e
  obtain ⟨mc, l1, l2⟩ := lim
  have modul : Mod K mg (hidT top.heap H) := ⟨KB, names hns, ⟨mb, names hb, boot⟩, ⟨mc, names l1, l2⟩⟩
  have tables : ∀ p ∈ cs, TabB (hidT top.heap H) mg p.1 p.2 := by
    intro p hp
    have ep := tt.empty p hp
    refine ⟨?_, ?_, fun z => ?_⟩
    · obtain ⟨o, us, file, tf, flags, tg, inF, text, t9, e1, r1, r2, r3, r⟩ := tt.head p hp
      exact ⟨o, us, file, tf, flags, tg, inF, text, t9, seen e1 (apartO e1 (fun _ _ z => by rw [r2] at z; cases z) fun z => by rw [r2] at z; cases z; simp at r3), r1, r2, r3, r⟩
    · obtain ⟨bm, ob, b1, b2, b3, b4, b5, b6⟩ := bmain
      refine ⟨bm, ob, b1, b2, fun q => ?_, fun q => ?_, seen b3 (apartO b3 (fun _ _ z => by rw [b6] at z; cases z) fun z => by rw [b6] at z; cases z), b4, b5, b6⟩
      · obtain ⟨o, es, e9, e, d, _⟩ := hns
        rw [q, e] at b3; cases b3; rw [d] at b6; cases b6
      · rw [q, ep] at b3; cases b3; cases b6
    · obtain ⟨o, es, e9, e, d, _⟩ := hns
      rw [z, ep] at e; cases e; cases d
  have noFrame : ∀ b, b ∈ ([] : List Addr) → False := fun b q => nomatch q
  have e0 : Env0 P w K mg (hidT top.heap H) callerA [] top H := ⟨rfl, modul, fun b o e => of_hidT e, Nat.le_of_eq (hidT_size _ _), trivial, fun b q => (noFrame b q).elim, ok, .of_eq gens⟩
  have ran := (F _ KB (names hns) tables).go callerA [] top H ⟨[.ref a], []⟩ [.ref a] [.ref a] _ _ (room_top k room) e0 (bind top (.ref a)) (.cons rfl .nil) promise
  refine codeAny_mono ran fun r t done => ?_
  cases r with
  | error e =>
    obtain ⟨_, _, _, _, _, _, _, _, _, _, _, _, _, z⟩ := done
  | ok fl =>
    cases fl with
    | next => exact done.elim
    | brk => exact done.elim
    | cont => exact done.elim
    | ret u =>
      obtain ⟨v, H', os, bare, kept, ok', rel, rfl⟩ := done
      obtain rfl : u = Value.bool true := rel
      have same : ∀ b o, b ∉ cs.map (·.2) → top.heap.get? b = some o → t.heap.get? b = some o := by
        intro b o nb e
        rcases only b with z | z | ⟨ob, xs, z⟩
        · exact kept.keep b o e z (fun q => noFrame b q) (by simp)
        · exact absurd z nb
        · obtain ⟨e1, _⟩ := ok b _ z
          obtain ⟨e2, _⟩ := ok' b _ (kept.frzs b ob _ z)
          rw [e] at e1; cases e1
          exact e2
      have grown : ∀ p ∈ cs, ∃ more : Array Value, t.heap.get? p.2 = some { cls := .none, data := .fields more } := by
        intro p hp
        obtain ⟨more, z⟩ := kept.tbls p.2 #[] (laid p hp)
        exact ⟨_, ok' p.2 _ z⟩
      refine ⟨rfl, ⟨fun b o e => ?_, fun b o e => ?_⟩, os, bare⟩
      · by_cases hm : b ∈ cs.map (·.2)
        · obtain ⟨p, hp, rfl⟩ := List.mem_map.mp hm
          obtain ⟨more, g⟩ := grown p hp
          rw [tt.empty p hp] at e
          cases e
          exact .inr (.inl ⟨((tt.head p hp).tab (tt.empty p hp)).isCodeTable, rfl, #[], more, rfl, by rw [Array.empty_append]; exact g⟩)
        · exact .inl (same b o hm e)
      · by_cases hm : b ∈ cs.map (·.2)
        · obtain ⟨p, hp, rfl⟩ := List.mem_map.mp hm
          obtain ⟨more, g⟩ := grown p hp
          exact ⟨_, g⟩
        · exact ⟨o, same b o hm e⟩
theorem law_endT (tt : TabsThere K top.heap cs) (KX : K.In top.heap) (hns : top.heap.Ns mainGlobals mg) (hb : top.heap.Ns builtinsNs mb) (boot : ∀ x : Str, x ≠ "__name__" → mb x = bootBuiltins x) (lim : top.heap.NoLimit) (gens : top.gens = #[])
    (bmain : ∃ (bm : Addr) (ob : Obj), mg "__builtins__" = some (.ref bm) ∧ bm ≠ builtinsNs ∧ top.heap.get? bm = some ob ∧ ob.cls = .type "module" ∧ ob.dict = some builtinsNs ∧ ob.data = .plain)
    (lies : top.heap.get? a = some { cls := .type "list", data := .seq vs.toArray }) (nums : IntsAre vs ns) (many : ns.length ≤ sizeLine) (room : Room k callerA)
    (F : ∀ base : Heap, K.In base → base.Ns mainGlobals mg → (∀ p ∈ cs, TabB base mg p.1 p.2) → FnG P w K mg base k fa fd [x] sp) (bind : ∀ (s : Shared) (u : Value), BindsTo s fd ⟨[u], []⟩ [(x, u)])
    (promise : ∀ H : Hp, (∀ p ∈ cs, H p.2 = some (.tbl #[])) → SqL K H a (ns.map V.int) → sp [.ref a] H (fun v _ => v = .bl true) fun _ _ _ => False) :
    codeAny (model P w) callerA (.call (.ref fa) ⟨[.ref a], []⟩) (Held top) top := by
  have rv := vals_ints nums
  have lv := nums.length
  have isTab : ∀ {b : Addr}, b ∈ cs.map (·.2) → top.heap.get? b = some tabO := by
    intro b hm
    obtain ⟨p, hp, rfl⟩ := List.mem_map.mp hm
    exact tt.empty p hp
  have noTab : a ∉ cs.map (·.2) := fun z => by
    have q := isTab z
    rw [lies] at q
    exact nomatch (show Data.seq vs.toArray _ = Data.fields #[] from congrArg Obj.data (Option.some.inj q))
  have memT : ∀ p ∈ cs, p.2 ∈ cs.map (·.2) := fun p hp => List.mem_map.mpr ⟨p, hp, rfl⟩
  cases own : K.lookup a with
  | some o =>
    have e := KX a o own
    rw [lies] at e
    cases e
    let H : Hp := fun b => if b ∈ cs.map (·.2) then some (.tbl #[]) else none
    have atT : ∀ {b}, b ∈ cs.map (·.2) → H b = some (.tbl #[]) := fun z => if_pos z
    have off : ∀ {b}, b ∉ cs.map (·.2) → H b = none := fun z => if_neg z
    have laid : ∀ p ∈ cs, H p.2 = some (.tbl #[]) := fun p hp => atT (memT p hp)
    have sq : SqL K H a (ns.map V.int) := .inr ⟨_, vs.toArray, _, own, rfl, rfl, rfl, by rw [List.size_toArray, lv]; exact many, by simpa using rv⟩
    refine end_coreT tt H laid (fun b => ?_) sq (fun b u z => ?_) (fun b z => ?_) (fun _ z => absurd (off noTab) z) KX hns hb boot lim gens bmain lies room F bind (promise _ laid sq)
    · by_cases q : b ∈ cs.map (·.2)
      · exact .inr (.inl q)
      · exact .inl (off q)
    · by_cases q : b ∈ cs.map (·.2)
      · rw [atT q] at z; cases z; exact isTab q
      · rw [off q] at z; cases z
    · by_cases q : b ∈ cs.map (·.2)
      · exact .inr q
      · exact absurd (off q) z
  | none =>
    let H : Hp := fun b => if b = a then some (.frz { cls := .type "list", data := .seq vs.toArray } (.lst (ns.map V.int))) else if b ∈ cs.map (·.2) then some (.tbl #[]) else none
    have at_ : H a = some (.frz { cls := .type "list", data := .seq vs.toArray } (.lst (ns.map V.int))) := if_pos rfl
    have atT : ∀ {b}, b ∈ cs.map (·.2) → H b = some (.tbl #[]) := fun {b} z => (if_neg (show ¬ b = a from fun q => noTab (q ▸ z))).trans (if_pos z)
    have off : ∀ {b}, b ≠ a → b ∉ cs.map (·.2) → H b = none := fun z1 z2 => (if_neg z1).trans (if_neg z2)
    have laid : ∀ p ∈ cs, H p.2 = some (.tbl #[]) := fun p hp => atT (memT p hp)
    have sq : SqL K H a (ns.map V.int) := .inl (.inr ⟨_, at_⟩)
    refine end_coreT tt H laid (fun b => ?_) sq (fun b u z => ?_) (fun b z => ?_) (fun _ _ => own) KX hns hb boot lim gens bmain lies room F bind (promise _ laid sq)
    · by_cases z : b = a
      · subst z; exact .inr (.inr ⟨_, _, at_⟩)
      · by_cases q : b ∈ cs.map (·.2)
        · exact .inr (.inl q)
        · exact .inl (off z q)
    · by_cases q : b = a
      · subst q
        rw [at_] at z
        cases z
        exact ⟨lies, by rw [List.length_map]; exact many, vs, _, rv, lies⟩
      · by_cases q2 : b ∈ cs.map (·.2)
        · rw [atT q2] at z; cases z; exact isTab q2
        · rw [off q q2] at z; cases z
    · by_cases q : b = a
      · exact .inl q
      · by_cases q2 : b ∈ cs.map (·.2)
        · exact .inr q2
        · exact absurd (off q q2) z
end
/-- what is known of the law's def where the top has run -/
def LawThere (l : PySem.W.OpenLaw) (w : World) (K : PySem.W.Frag) (k n : Nat) (x : Str) (mg : Str → Option Value) (fa : Addr) (h : Heap) : Prop :=
  ∃ (fd : FuncData) (cs : List (Addr × Addr)) (sp : Sp), TabsThere K h cs ∧ (∀ (s : Shared) (u : Value), BindsTo s fd ⟨[u], []⟩ [(x, u)]) ∧
    (∀ (H : Hp) (a : Addr) (ns : List Int), ns.length ≤ n → (∀ z ∈ ns, Builtin.Int.intBits z ≤ 1048576) → (∀ p ∈ cs, H p.2 = some (.tbl #[])) → SqL K H a (ns.map V.int) → sp [.ref a] H (fun v _ => v = .bl true) fun _ _ _ => False) ∧
    ∀ base : Heap, K.In base → base.Ns mainGlobals mg → (∀ p ∈ cs, TabB base mg p.1 p.2) → FnG l.prog w K mg base k fa fd [x] sp
theorem walk_endT {l : PySem.W.OpenLaw} {n k : Nat} {q : Program} {loose : List Str} {XP : (Str → Option Value) → Heap → Prop} {YP : World → Heap → Prop} {d : DefRec} {K : Params → PySem.W.Frag} {x : Str}
    (hn : l.most = some n) (few : n ≤ sizeLine) (plain : d.params.defaults = []) (room : Room k callerA) (known : ∀ (w : World) (h : Heap), YP w h → (K w.params).In h)
    (F : ∀ (w : World) (mean : ExcName → Option Value) (mg mb : Str → Option Value) (fa : Addr) (h : Heap), Top q (PySem.W.looseW q loose) mean mg mb h → (K w.params).In h → h.Ns mainGlobals mg → mg d.name = some (.ref fa) → LawThere l w (K w.params) k n x mg fa h) :
    PySem.W.WalkO q loose XP YP l.row.toRowW d [] (fun f vs => PySem.call f vs) :=
  Att.attach_callB hn plain fun w s0 s1 mg mb fa o pm cd doc a vs ns G Y _ _ _ main lies nums len bits gens =>
    let KX := known w _ Y
    let ⟨fd, cs, sp, tt, bind, promise, FF⟩ := F w _ mg mb fa _ G.T KX G.T.g main
    law_endT tt KX G.T.g G.T.b G.T.builtins G.T.nolimit gens G.T.bmain lies nums (Nat.le_trans len few) room FF bind fun H laid sq => promise H a ns len bits laid sq
/-- a def's table, by its name -/
def has1 (q : Program) (x : Str) : Bool := ((recsOf q).find? fun e => e.name == x).isSome
theorem tab_there {q : Program} {loose : List Str} {mean : ExcName → Option Value} {mg mb : Str → Option Value} {h : Heap} {K : PySem.W.Frag} {x : Str} {c P : Addr} (T : Top q loose mean mg mb h) (X : K.In h) (hr : has1 q x = true) (ht : PySem.W.tabIn K x = some (c, P)) :
    PySem.W.CodeHd h c P ∧ h.get? P = some tabO := by
  unfold has1 at hr
  cases e : (recsOf q).find? fun e => e.name == x with
  | none => rw [e] at hr; cases hr
  | some d => exact PySem.W.tab_of T X e ht
end Rf

namespace Rf
open PySem PySem.Spec L2 PyProof.Rows LamX

section
variable {X : Cx} {g : Gx} {B : WX} {C : L2.St → Prop} {e : Expr} {ma : M W} {ms : M (List W)} {pos : Pos} {st : Stmt} {rest : List Stmt} {m n : MS}
theorem rs_raise1f {c : Nat} {fl : Str} (hf : g.fld c = fl) (h : PS X st fun _ σ H => rdA g B ms σ H fun vs H1 => ∃ v, vs = [v] ∧ ∀ d, H1 d = none → B (.ref (g.cls c)) (some d) σ (upd H1 d (.xd [(fl, v)]))) : PS X st (rdS g B (sRaise1 c ms)) := by
  subst hf; exact rs_raise1 h
end
theorem uniq_of {l : List (Addr × Str)} (h : (l.map (·.1)).Nodup) {P : Addr} {q : Str} (hm : (P, q) ∈ l) : ∀ p ∈ l, p.1 = P → p.2 = q := by
  induction l with
  | nil => intro p hp; cases hp
  | cons y l ih =>
    rw [List.map_cons, List.nodup_cons] at h
    intro p hp e
    rcases List.mem_cons.mp hm with z | z <;> rcases List.mem_cons.mp hp with z2 | z2
    · rw [z2, ← z]
    · exfalso; refine h.1 (List.mem_map.mpr ⟨p, z2, ?_⟩); rw [e, ← z]
    · exfalso; refine h.1 (List.mem_map.mpr ⟨_, z, ?_⟩); rw [← z2]; exact e.symm
    · exact ih h.2 z p z2 e
/-! ### the law's promise -/
def spLawT (K : PySem.W.Frag) (n : Nat) (T : List (Addr × Str)) : Sp := fun vs H Q E => ∃ (a : Addr) (ns : List Int), vs = [.ref a] ∧ ns.length ≤ n ∧ (∀ z ∈ ns, Builtin.Int.intBits z ≤ 1048576) ∧ SqL K H a (ns.map V.int) ∧ (∀ p ∈ T, H p.1 = some (.tbl #[])) ∧ ∀ H', Q (.bl true) H'
theorem promiseT {n : Nat} {f : FnT} (right : ∀ ns : List Int, ns.length ≤ n → (∀ z ∈ ns, Builtin.Int.intBits z ≤ 1048576) → ∃ S, f [] [.lw (ns.map fun n => .dat (.int n))] [] = .ok (.bl true) S) (g : Gx) (hm : ∀ ρ F, g.more ρ F)
    (vs : List V) (H : Hp) (Q : VK) (E : XK) (h : spLawT g.K n g.T vs H Q E) : spF g f vs H Q E := by
  obtain ⟨a, ns, rfl, hl, hb, sq, tb, q⟩ := h
  obtain ⟨S, e⟩ := right ns hl hb
  let F0 : Hp := fun b => match H b with
    | some (.tbl _) => none
    | o => o
  have f0 : ∀ {b o}, F0 b = some o → H b = some o ∧ ∀ ps, o ≠ .tbl ps := by
    intro b o e
    have e' : (match H b with
      | some (.tbl _) => none
      | o => o) = some o := e
    split at e'
    · cases e'
    · rename_i n; exact ⟨e', fun ps z => n ps (by rw [e', z])⟩
  have sq0 : SqL g.K F0 a (ns.map V.int) := by
    have back : ∀ {b o}, H b = some o → (∀ ps, o ≠ .tbl ps) → F0 b = some o := by
      intro b o e no
      show (match H b with
        | some (.tbl _) => none
        | o => o) = some o
      rw [e]
      cases o <;> first | rfl | exact (no _ rfl).elim
    rcases sq with (h | ⟨o, h⟩) | h
    · exact .inl (.inl (back h fun _ z => nomatch z))
    · exact .inl (.inr ⟨o, back h fun _ z => nomatch z⟩)
    · exact .inr h
  have told : ∀ l : List Int, IsAll g.K [] F0 (l.map V.int) (l.map fun n => .dat (.int n)) := fun l => by
    induction l with
    | nil => exact .nil
    | cons n l ih => exact .cons (.dat (.int n)) ih
  have sim : Sim g [] [] F0 (fun _ => none) [] H := ⟨rfl, List.nodup_nil, fun b o e => (f0 e).1, fun n c a z => (by simp at z), fun n c a z => (by simp at z), fun a u z => (nomatch (show (none : Option HO) = some u from z)), fun a u z => (nomatch (show (none : Option HO) = some u from z)), fun a u z => (nomatch (show (none : Option HO) = some u from z)), fun b z => (nomatch z),
    fun p hp => TabS.nil (tb p hp), fun a ps e => (f0 e).2 ps rfl⟩
  refine ⟨[], [], F0, fun _ => none, [], _, sim, .cons (.lw sq0 (told ns)) .nil, hm _ _, ?_⟩
  rw [e]
  intro ρ' F' H' v gr sim' r
  cases r with
  | dat r => cases r; exact q H'
end Rf
namespace Rf
open PySem PySem.Spec L2 PyProof.Rows
end Rf
namespace Rf
open PySem PySem.Spec L2 PyProof.Rows
theorem tabs_nil {K : PySem.W.Frag} {h : Heap} : TabsThere K h [] := ⟨fun _ z => (nomatch z), fun _ z => (nomatch z), fun _ z => (nomatch z)⟩
theorem tabs_cons {K : PySem.W.Frag} {h : Heap} {c P : Addr} {cs : List (Addr × Addr)} (h1 : PySem.W.CodeHd h c P ∧ h.get? P = some tabO) (h2 : K.lookup P = none) (r : TabsThere K h cs) : TabsThere K h ((c, P) :: cs) :=
  ⟨fun p hp => by
    rcases List.mem_cons.mp hp with z | z
    · subst z; exact h1.2
    · exact r.empty p z, fun p hp => by
    rcases List.mem_cons.mp hp with z | z
    · subst z; exact h2
    · exact r.own p z, fun p hp => by
    rcases List.mem_cons.mp hp with z | z
    · subst z; exact h1.1
    · exact r.head p z⟩
theorem has_of {q : Program} {xs : List Str} (h : xs.all (has1 q) = true) {x : Str} (hx : x ∈ xs) : has1 q x = true := List.all_eq_true.mp h x hx
end Rf
namespace Rf
open PySem L2 PyProof.Rows
end Rf
namespace Rf
open PySem L2 PyProof.Rows
theorem exm_mk {K : PySem.W.Frag} {S C : Addr} {b : Bool} (h1 : PySem.W.subIn K (.ref C) (.type "BaseException") = some true) (h2 : PySem.W.isClsIn K C = true) (h3 : PySem.W.typeIn K (.ref C) = some (.type "type")) (h4 : PySem.W.subIn K (.ref S) (.ref C) = some b) : PySem.W.exmOne K (.ref S) (.ref C) = some b := by
  have e1 : (PySem.W.subIn K (.ref C) (.type "BaseException") == some true) = true := by rw [h1]; rfl
  have e2 : ((PySem.W.clsIn K C).isSome && PySem.W.typeIn K (.ref C) == some (.type "type")) = true := by
    have q : (PySem.W.clsIn K C).isSome = true := h2
    rw [q, h3]; rfl
  unfold PySem.W.exmOne PySem.W.kitCls
  rw [if_pos e1]; dsimp only; rw [if_pos e2]; exact h4
theorem tab_in {K : PySem.W.Frag} {x : Str} {f c P : Addr} {oc : Value} {od : Option Addr} {fd : FuncData} {sl : Array (Option Value)} {o2 : Value} {d2 : Option Addr} {vs : Array Value} {s2 : Array (Option Value)}
    (hm : PySem.W.nsIn K mainGlobals x = some (some (.ref f))) (hf : K.lookup f = some ⟨oc, od, .func fd, sl⟩) (hc : fd.code = .ref c) (hl : K.lookup c = some ⟨o2, d2, .fields vs, s2⟩) (hv : vs[11]? = some (.ref P)) : PySem.W.tabIn K x = some (c, P) := by
  unfold PySem.W.tabIn
  simp only [hm, hf, hc, hl, hv]
end Rf

namespace Rf
open PySem PySem.Spec L2 PyProof.Rows

/-! ### a dict is not equal to what is no dict -/
abbrev dicO (dd : Option Addr) (es : Array DictEntry) (ep : Nat) (sl : Array (Option Value)) : Obj := { cls := .type "dict", dict := dd, data := .dict es ep, slots := sl }
abbrev kindO (T : String) (dd : Option Addr) (da : Data) (sl : Array (Option Value)) : Obj := { cls := .type T, dict := dd, data := da, slots := sl }
section
variable {d b : Addr} {da2 : Data} {es : Array DictEntry} {ep n2 : Nat} {dd dd2 : Option Addr} {sl sl2 : Array (Option Value)} {its : Array Value}
end
section
variable {A : Around} {s : Shared} {d : Addr} {dd : Option Addr} {es : Array DictEntry} {ep : Nat} {sl : Array (Option Value)}
end
end Rf
namespace Rf
open PySem PySem.Spec L2 PyProof.Rows
def isTupD : PyData → Bool
  | .tuple ds => PyData.plainAll ds
  | _ => false
/-- a dict beside a tuple -/
def eqDT : Op2 := fun _ x y S => match dicOf S x, viewD S y with
  | some _, some d => if isTupD d = true then some (.bl false, S) else none
  | _, _ => match viewD S x, dicOf S y with
    | some d, some _ => if isTupD d = true then some (.bl false, S) else none
    | _, _ => none
end Rf
namespace Rf
open PySem PySem.Spec L2 PyProof.Rows
/-- ==, also of a dict and a tuple -/
def eqAF : Op2 := fun bs x y S => match eqF false bs x y S with
  | some r => some r
  | none => eqDT bs x y S
end Rf

namespace Rf
open PySem PySem.Spec L2 PyProof.Rows
open Sem (wp)
open AutoSeq1 (wpAny_loadPart')

/-! ### list.extend(tuple) -/
def rExtT (K : PySem.W.Frag) : V → List V → Hp → VK → Prop := fun x vs H Q => ∃ l b xs zs, x = .ref l ∧ vs = [.ref b] ∧ H l = some (.lst xs) ∧ SqT K H b zs ∧ xs.length + zs.length ≤ sizeLine ∧ Q .non (upd H l (.lst (xs ++ zs)))
/-- xs.extend(ys), ys a list, a cell or a tuple -/
def extTF : OpM := fun bs x ws S => match x, ws with
  | .loc n, [y] => match S[n]?, tupOf y with
    | some (.lst us), some zs => if us.length + zs.length ≤ 100000 ∧ zs.all (mayW bs n) = true then some (.non, S.set n (.lst (us ++ zs))) else none
    | _, _ => none
  | _, _ => none
def extAF : OpM := fun bs x ws S => match extF bs x ws S with
  | some r => some r
  | none => extTF bs x ws S
section
variable {X : Cx} {g : Gx}
end
/-! ### enumerate of a tuple -/
/-- the tuple at a, each item in a new pair -/
def IteT (K : PySem.W.Frag) (a : Addr) : It :=
  ⟨fun i H => ∃ (xs : List V) (x : V), SqT K H a xs ∧ xs[i]? = some x, fun i H v H' => ∃ T x, v = .ref T ∧ H T = none ∧ H' = upd H T (.tup [.int (i : Nat), x]) ∧ ∀ xs, SqT K H a xs → xs[i]? = some x, fun i H => ∃ xs : List V, SqT K H a xs ∧ xs.length ≤ i⟩
/-- enumerate of a list or of a tuple -/
def iEnumA (K : PySem.W.Frag) (ta : TA) : TI := fun σ H R => ta σ H fun vs H1 => ∃ a, vs = [.ref a] ∧ ((∃ xs, SqL K H1 a xs ∧ R (Ite K a) H1) ∨ ∃ xs, SqT K H1 a xs ∧ R (IteT K a) H1)
section
variable {X : Cx} {g : Gx} {B : WX} {bs : List Nat} {ρ : List Addr} {F N H : Hp} {S : Store} {a : Expr} {ms : M (List W)} {p pos tpos : Pos} {elts : List Expr} {kk : Nat}
/-- enumerate(xs), xs a tuple, a list or a cell -/
def mEnmA (ms : M (List W)) : M Iter := fun bs env S => (ms bs env S).bind fun ws S1 => match ws with
  | [x] => match iterA S1 x with
    | some it => .ok (.enm it) S1
    | none => .stuck
  | _ => .stuck
end
end Rf

namespace Rf
open PySem PySem.Spec L2 PyProof.Rows

/-! ### sorted of a list of whole numbers -/
def sortInts (ns : List Int) : List Int := ns.mergeSort fun a b => decide (a ≤ b)
theorem sortInts_perm (ns : List Int) : (sortInts ns).Perm ns := List.mergeSort_perm ..
theorem sortInts_up (ns : List Int) : (sortInts ns).Pairwise (· ≤ ·) :=
  (List.pairwise_mergeSort (le := fun a b : Int => decide (a ≤ b)) (fun a b c h1 h2 => decide_eq_true (Int.le_trans (of_decide_eq_true h1) (of_decide_eq_true h2))) (fun a b => by
    rcases Int.le_total a b with h | h <;> simp [h]) ns).imp fun h => of_decide_eq_true h
theorem sortInts_eq {ns ms : List Int} (h : ms.Perm ns) (hp : ms.Pairwise (· ≤ ·)) : ms = sortInts ns :=
  List.Perm.eq_of_pairwise (fun a b _ _ h1 h2 => Int.le_antisymm h1 h2) hp (sortInts_up ns) (h.trans (sortInts_perm ns).symm)
section
variable {X : Cx} {g : Gx}
def sortIF (k : Bool) : OpN := fun _ ws S => match ws with
  | [w] => match (lstOf S w).bind intsW with
    | some ns => some (newL k ((sortInts ns).map fun i => .dat (.int i)) S)
    | none => none
  | _ => none
theorem isAll_ints {K : PySem.W.Frag} {ρ : List Addr} {F : Hp} : ∀ ns : List Int, IsAll K ρ F (ns.map V.int) (ns.map fun i => W.dat (.int i))
  | [] => .nil
  | n :: ns => .cons (.dat (.int n)) (isAll_ints ns)
/-- sorted of a dict with tuples as keys, or of a list of whole numbers -/
def sortAF (k : Bool) : OpN := fun bs ws S => match sortDF k bs ws S with
  | some r => some r
  | none => sortIF k bs ws S
end
end Rf

namespace Rf
open PySem PySem.Spec L2 PyProof.Rows

/-! ### a dict beside an empty one -/
section
variable {prog : Program} {w : World} {A : Around} {E : Value → Shared → Prop} {s : Shared} {a b : Addr} {dd dd2 : Option Addr} {es : Array DictEntry} {ep ep2 : Nat} {sl sl2 : Array (Option Value)}
end
def eqDE : Op2 := fun _ x y S => match dicOf S x, dicOf S y with
  | some us, some [] => some (.bl us.isEmpty, S)
  | _, _ => none
/-- ==, also of a dict and an empty one -/
def eqEF : Op2 := fun bs x y S => match eqF false bs x y S with
  | some r => some r
  | none => eqDE bs x y S

/-! ### dict(x), x a list of pairs -/
section
variable {X : Cx} {g : Gx} {B : WX}
def dictLF : OpN := fun _ ws S => match ws with
  | [w] => match (lstOf S w).bind allDat with
    | some ds => match pairsKD ds with
      | some kvs => if (kvs.map (·.1)).Nodup then some (.dat (.dict (kvs.map fun p => (.tuple (p.1.map kD), p.2))), S) else none
      | none => none
    | none => none
  | _ => none
/-- dict(x), x a dict or a list of pairs -/
def copyAF : OpN := fun bs ws S => match copyF false bs ws S with
  | some r => some r
  | none => dictLF bs ws S
/-- len(d) of a dict -/
def lenDF : OpN := fun _ ws S => match ws with
  | [w] => (dicOf S w).map fun us => (.int us.length, S)
  | _ => none
/-- len, also of a dict -/
def lenAF : OpN := fun bs ws S => match un lenW bs ws S with
  | some r => some r
  | none => lenDF bs ws S
end
end Rf

namespace Rf
open PySem PySem.W PySem.Calls PySem.Spec L2 PyProof.Rows

/-! ### d.values(), also of an empty dict of any kind -/
section
variable {X : Cx} {g : Gx} {B : WX} {bs : List Nat} {ρ : List Addr} {F N H : Hp} {S : Store} {σ : L2.St}
def ItE (d : Addr) (o : Obj) : It := ⟨fun _ _ => False, fun _ _ _ _ => False, fun _ H => FzD H d o []⟩
def iValsA (td : TE) : TI := fun σ H R => td σ H fun x H1 => ∃ d o, x = .ref d ∧ ((∃ kvs, H1 d = some (.frz o (.dK kvs)) ∧ R (Itd d o kvs) H1) ∨ (FzD H1 d o [] ∧ R (ItE d o) H1))
/-- d.values(), no key a tuple, or none at all -/
def mValsA (m : M W) : M Iter := fun bs env S => (m bs env S).bind fun w S1 => match dicOf S1 w with
  | some ws => if ws.isEmpty = true then .ok (.items []) (lockW S1 w) else if dicRdy S1 w ws (.one (.inl 0)) = true then .ok (.items (ws.map fun p => p.2)) (lockW S1 w) else .stuck
  | none => .stuck
/-- list(..), also of an empty dict -/
def listEF (k : Bool) : OpN := fun bs ws S => match listDF k bs ws S with
  | some r => some r
  | none => match ws with
    | [w] => match dicOf S w with
      | some [] => some (newL k [] S)
      | _ => none
    | _ => none
/-- the keys of a dict, all whole numbers -/
def intKeys : List (PyData × W) → Option (List Int)
  | [] => some []
  | p :: ps => match p.1, intKeys ps with
    | .int i, some ns => some (i :: ns)
    | _, _ => none
/-- sorted(d): rows as keys, or fewer than 64 whole numbers -/
def sortKW (k : Bool) (w : W) (S : Store) : Option (W × Store) := match dicOf S w with
  | some [] => some (newL k [] S)
  | some ws => match intKeys ws with
    | some ns => if ns.length < 64 then some (newL k ((sortInts ns).map fun i => .dat (.int i)) S) else none
    | none => none
  | none => none
def sortKF (k : Bool) : OpN := fun _ ws S => match ws with
  | [w] => sortKW k w S
  | _ => none
/-- sorted of a dict or of a list of whole numbers -/
def sortEF (k : Bool) : OpN := fun bs ws S => match sortAF k bs ws S with
  | some r => some r
  | none => sortKF k bs ws S
end
/-- !=, also of a dict and an empty one -/
def neDE : Op2 := fun _ x y S => match dicOf S x, dicOf S y with
  | some us, some [] => some (.bl (!us.isEmpty), S)
  | _, _ => none
/-- !=, also of a dict and an empty one -/
def neEF : Op2 := fun bs x y S => match eqF true bs x y S with
  | some r => some r
  | none => neDE bs x y S
end Rf

namespace Rf
open PySem PySem.W PySem.Calls PySem.Spec L2 PyProof.Rows

/-! ### list(d.items()), d a dict that stands free, its keys whole numbers -/
section
variable {X : Cx} {g : Gx} {B : WX} {bs : List Nat} {ρ : List Addr} {F N H H' : Hp} {S : Store} {σ : L2.St}
/-- a dict that stands free, not empty, its keys whole numbers -/
def freeD (S : Store) : W → Option (List (PyData × W))
  | .loc n => match S[n]? with
    | some (.dic ws) => match intKeys ws with
      | some (_ :: _) => some ws
      | _ => none
    | _ => none
  | _ => none
def mItemsL (k : Bool) (m : M W) : M W := fun bs env S => (m bs env S).bind fun w S1 => match freeD S1 w with
  | some ws => .ok (newL k (ws.map fun p => mkTup [.dat p.1, p.2]) S1).1 (newL k (ws.map fun p => mkTup [.dat p.1, p.2]) S1).2
  | none => .stuck

/-! ### dict(x), x a list of pairs whose first is a whole number -/
def pairID : PyData → Option (Int × PyData)
  | .tuple [.int i, v] => some (i, v)
  | _ => none
def pairsID : List PyData → Option (List (Int × PyData))
  | [] => some []
  | d :: ds => match pairID d, pairsID ds with
    | some p, some ps => some (p :: ps)
    | _, _ => none
def dictPF : OpN := fun _ ws S => match ws with
  | [w] => match (lstOf S w).bind allDat with
    | some ds => match pairsID ds with
      | some ps => if (ps.map (·.1)).Nodup then some (.loc S.length, S ++ [.dic (ps.map fun p => (.int p.1, .dat p.2))]) else none
      | none => none
    | none => none
  | _ => none

/-! ### d.pop(k, x), k a whole number -/
def popDF : OpM := fun bs x ws S => match x, ws with
  | .loc n, [.dat (.int i), y] => match S[n]? with
    | some (.dic us) => if (us.all fun p => (dkey p.1).any fun k' => kindK k' == kindK (.one (.inl i))) = true then
        match lookW us (.one (.inl i)) with
        | some w => some (w, S.set n (.dic (dropW us (.one (.inl i)))))
        | none => some (y, S)
      else none
    | _ => none
  | _, _ => none
end
/-! ### k in d, d empty, of whatever kind -/
section
variable {X : Cx} {g : Gx} {bs : List Nat} {ρ : List Addr} {F N H : Hp} {S : Store} {σ : L2.St}
def inED (neg : Bool) : Op2 := fun _ x y S => match x, dicOf S y with
  | .dat (.int _), some [] => some (.bl neg, S)
  | _, _ => none
/-- in, not in, also of an empty dict that was gone through -/
def inBF (neg : Bool) : Op2 := fun bs x y S => match inAF neg bs x y S with
  | some r => some r
  | none => inED neg bs x y S
end
/-! ### d[k] as one of several targets -/
end Rf

namespace Rf
open PySem PySem.W PySem.Calls PySem.Spec L2 PyProof.Rows

/-! ### set(list of whole numbers) -/
abbrev emptyS (w : World) : Obj := { cls := .type "set", data := .set #[] 0 (.fresh 0 0 (!w.params.followText "set-order")) }
section
variable {P : Program} {w : World} {A : Around} {E : Value → Shared → Prop} {s : Shared}
theorem set_ints {l : Addr} {its : Array Value} (ns : List Int) {Q : Value → Shared → Prop} (hA : A.handled = none) (hl : s.heap.IsList l its) (hi : IntsAre its.toList ns) (few : ns.length + 1 < scanBound)
    (fin : ∀ (h : Heap) (tk c : Nat), SetR w h s.heap.objs.size (fun j => decide (j ∈ ns)) c → c ≤ ns.length → (∀ b o, s.heap.get? b = some o → h.get? b = some o) → Q (.ref s.heap.objs.size) { s with heap := h, toks := tk }) :
    wpAny (model P w) A (call (.type "set") [.ref l]) Q E s := by
  have z0 : its.size = ns.length := by rw [← IntsAre.length hi, Array.length_toList]
  obtain ⟨c0, t0, mro⟩ := F.called_set.mro
  have made := F.called_set.made; have sub := F.called_set.sub
  refine wpAny_call (codeAny_of_tree ?_); show wpAny _ _ (callAny (.type "set") _) _ _ _
  refine wpAny_pure ⟨Code.quiet_builtin _ (by decide +kernel), codeAny_builtin F.entry_type_call ?_⟩; rw [Around.under_plain (weight_type_call_type "set" [.ref l] []) rfl]
  have nty := F.called_set.notType; have can := F.called_set.canCreate; have tcall := F.typeCall_set_1 (.ref l)
  repeat (any_goals (first | assumption | wp_step))
  refine codeAny_mono (code_set_led1 (.ref l) (E := E) (Q₁ := fun v t => v = .ref s.heap.objs.size ∧ t = { s with heap := s.heap.push (emptyS w) }) ⟨rfl, rfl⟩) fun r s1 hr => ?_
  cases r with
  | error e => exact hr
  | ok fl =>
    cases fl with
    | brk => exact hr.elim
    | cont => exact hr.elim
    | next => exact hr.elim
    | ret v =>
      obtain ⟨rfl, rfl⟩ := hr
      have at0 : (s.heap.push (emptyS w)).get? s.heap.objs.size = some (emptyS w) := Heap.get?_push_size _ rfl
      have tyS : Shared.TypeIs { s with heap := s.heap.push (emptyS w) } (.ref s.heap.objs.size) "set" := ⟨_, at0, rfl⟩
      have ini := F.called_set.init.lookup; have inb := F.called_set.init.bind (.ref s.heap.objs.size)
      repeat (any_goals (first | assumption | wp_step))
      refine codeAny_mono (codeAny_call_builtin (R := wants (fun v t => v = .none ∧ ∃ h tk c, t = { s with heap := h, toks := tk } ∧ SetR w h s.heap.objs.size (fun j => decide (j ∈ ns)) c ∧ c ≤ ns.length ∧ (∀ b o, s.heap.get? b = some o → h.get? b = some o)) E) F.called_set.init.plain F.entry_set_init (check_set_init_1 tyS ?_)) fun r2 s2 hr2 => ?_
      · obtain ⟨⟨kl, dl, al, sl⟩, gl, el, nl, fl⟩ := hl
        simp only at el fl
        subst el fl
        have gl2 : (s.heap.push (emptyS w)).get? l = some { cls := .type "list", dict := dl, data := .seq its nl, slots := sl } := Heap.get?_push_of_some _ gl
        have sb1 := F.sub_list_set; have sb2 := F.sub_list_frozenset
        have nd : (Value.type "list" == Value.type "dict") = false := by decide
        have isl : (s.heap.push (emptyS w)).IsList l its := ⟨_, gl2, rfl, nl, rfl⟩
        unfold Builtin.«set.__init__» noKeywords Builtin.Frozenset.updateFrom
        generalize ePI : pyIter = PI
        wp_walk
        subst ePI
        refine wpAny_pyIter_list isl (wpAny_bind (wpAny_runValue ?_))
        have ltl : l < s.heap.objs.size := Heap.lt_size gl
        have szp : (s.heap.push (emptyS w)).objs.size = s.heap.objs.size + 1 := Heap.size_push ..
        have n1 : l ≠ (s.heap.push (emptyS w)).objs.size := by rw [szp]; exact Nat.ne_of_lt (Nat.lt_succ_of_lt ltl)
        have n2 : s.heap.objs.size ∉ [(s.heap.push (emptyS w)).objs.size, l] := by
          rw [szp]; intro hm
          rcases List.mem_cons.mp hm with e | e
          · exact absurd e (Nat.ne_of_lt (Nat.lt_succ_self _))
          · exact absurd (List.mem_singleton.mp e) (Nat.ne_of_gt ltl)
        have vals : ∀ (i : Nat) (v : Value), its[i]? = some v → ∃ k t, ns[i]? = some k ∧ v = .int k t := fun i v hv => by
          have lt : i < ns.length := by rw [← z0]; exact (Array.getElem?_eq_some_iff.mp hv).1
          obtain ⟨t, e⟩ := IntsAre.int_at hi i v (by rw [Array.getElem?_toList]; exact hv)
          exact ⟨ns[i], t, List.getElem?_eq_getElem lt, by rw [e]; simp [lt]⟩
        refine set_update_ints (Walks.list (by simp [hA]) _ l n1 its).toS s.heap.objs.size n2 ns z0 few vals (its.size - 0) 0 _ (by omega) (Nat.zero_le _) ⟨⟨_, Heap.get?_push_size _ rfl, rfl, rfl⟩, isl.push _⟩ ?mkSet ?mkEnd
        case mkSet => exact ⟨0, Nat.le_refl 0, setR_new_at (Heap.get?_push_of_some _ at0)⟩
        case mkEnd =>
          rintro ⟨h2, g2, d2, t2, o2⟩ c mv hc hS
          obtain rfl : g2 = s.gens := mv.gens
          obtain rfl : d2 = s.drawn := mv.drawn
          obtain rfl : o2 = s.os := mv.os
          show wpAny _ _ _ _ _ _
          refine wpAny_pure ?_; show wpAny _ _ (ret Value.none) _ _ _
          refine wpAny_pure ⟨rfl, h2, t2, c, rfl, hS, by omega, fun b o e => ?_⟩
          have ltb : b < s.heap.objs.size := Heap.lt_size e
          exact mv.heap b o (fun hm => by
            rw [szp] at hm
            rcases List.mem_cons.mp hm with e | e
            · exact absurd e (Nat.ne_of_lt ltb)
            · exact absurd (List.mem_singleton.mp e) (Nat.ne_of_lt (Nat.lt_succ_of_lt ltb))) (Heap.get?_push_of_some _ (Heap.get?_push_of_some _ e))
      · cases r2 with
        | error e => exact hr2
        | ok fl =>
          cases fl with
          | brk => exact hr2.elim
          | cont => exact hr2.elim
          | next => exact hr2.elim
          | ret v =>
            obtain ⟨rfl, h2, tk, c, rfl, a1, a2, a3⟩ := hr2
            repeat (any_goals (first | assumption | wp_step))
            exact fin _ _ _ a1 a2 a3
end
end Rf

namespace Rf
open PySem PySem.W PySem.Calls PySem.Spec L2 PyProof.Rows

/-! ### sorted(set(..)), len(set(..)) -/
section
variable {X : Cx}
def rSetI (X : Cx) : List V → Hp → VK → Prop := fun xs H Q => ∃ (l : Addr) (ns : List Int), xs = [V.ref l] ∧ SqL X.K H l (ns.map V.int) ∧ ns.length < 60 ∧ ∀ (a : Addr) (c : Nat), H a = none → c ≤ ns.length → Q (.ref a) (upd H a (SetO X.w a (fun j => decide (j ∈ ns)) c))
theorem cr_setI (hc : X.calm = true) : CallR X (.type "set") (rSetI X) := by
  intro pins s σ H xs us Q I r h
  obtain ⟨l, ns, rfl, hl, few, q⟩ := h
  obtain ⟨u, rfl, rx⟩ := r.one
  cases rx
  obtain ⟨its, rv, pl, hz⟩ := I.list hl
  refine set_ints ns (I.ok.hd hc) pl.isList (ints_of_vals rv) (Nat.lt_of_le_of_lt (show ns.length + 1 ≤ 60 by omega) (by decide)) fun h tk c a1 a2 a3 => ?_
  exact ⟨.ref s.heap.objs.size, upd H s.heap.objs.size (SetO X.w s.heap.objs.size (fun j => decide (j ∈ ns)) c), I.laid (t' := tk) a3 (Nat.le_refl _) (setO_new a1), rfl, q _ _ (I.hok.fresh (Nat.le_refl _)) a2⟩
theorem perm_map {α β : Type} {f : α → β} {l : List β} {m : List α} (h : l.Perm (m.map f)) : ∃ m' : List α, m'.Perm m ∧ l = m'.map f := by
  generalize e : m.map f = k at h
  induction h generalizing m with
  | nil => exact ⟨[], by rw [List.map_eq_nil_iff.mp e], rfl⟩
  | cons x _ ih =>
    obtain ⟨a, m1, rfl, e1, e2⟩ := List.map_eq_cons_iff.mp e
    obtain ⟨m', p1, p2⟩ := ih e2
    exact ⟨a :: m', p1.cons a, by rw [List.map_cons, ← p2, e1]⟩
  | swap x y l =>
    obtain ⟨a, m1, rfl, e1, e2⟩ := List.map_eq_cons_iff.mp e
    obtain ⟨b, m2, rfl, e3, e4⟩ := List.map_eq_cons_iff.mp e2
    exact ⟨b :: a :: m2, .swap _ _ _, by rw [List.map_cons, List.map_cons, e1, e3, e4]⟩
  | trans _ _ ih1 ih2 =>
    obtain ⟨m1, p1, p2⟩ := ih2 e
    obtain ⟨m2, p3, p4⟩ := ih1 p2.symm
    exact ⟨m2, p3.trans p1, p4⟩
def rSortST (X : Cx) : List V → Hp → VK → Prop := fun xs H Q => ∃ (a : Addr) (L : List KP), xs = [V.ref a] ∧ H a = some (SetTO X.prog X.w a L) ∧ (∀ p ∈ L, SqT X.K H p.1 (p.2.map V.int)) ∧ (∀ p ∈ L, p.2 ≠ []) ∧
  ∀ (bs : List KP) (p : Addr), bs.Perm L → (L.map (·.2)).Nodup → (∃ bs' : List KP, bs'.Perm L ∧ bs.map (·.2) = (bs'.map (·.2)).mergeSort rowLe) → H p = none → Q (.ref p) (upd H p (.lst (bs.map fun q => V.ref q.1)))
theorem reads_ints {h : Heap} : ∀ {ns : List Int} {its : List Value}, Vals (ns.map V.int) its → ReadsAll h its (ns.map .int) []
  | [], _, r => by cases r; exact .nil
  | n :: ns, _, r => by
    rw [List.map_cons] at r
    cases r with
    | cons r1 r2 => obtain ⟨t, rfl⟩ := r1; exact .cons (as := []) (bs := []) (.int n t) (reads_ints r2)
theorem cr_sortST (hc : X.calm = true) (hu : X.A.units + 100 < cLine) : CallR X (.builtin "sorted") (rSortST X) := by
  intro pins s σ H xs us Q I r h
  obtain ⟨a, L, rfl, ha, hk, hne, q⟩ := h
  obtain ⟨u, rfl, rx⟩ := r.one
  cases rx
  obtain ⟨es, ep, t, R⟩ := SetT0.full (I.hok a _ ha).1 fun p hp => I.isT (hk p hp)
  obtain ⟨o, ho, hx, hd⟩ := R.ob
  have few := R.few
  refine Calls.call_function_entry kind_sorted plain_sorted entry_sorted (args_sorted1 _) ?_
  unfold Builtin.«sorted»
  refine wpAny_bind (m := checkCount "sorted" 1 1 _) (wpAny_pure (wpAny_bind (collect_set (A := X.A.in1) (I.ok.hd hc) ⟨o, ho, hx.1, hd⟩ R.fits (by rw [R.size]; exact Nat.lt_trans few (by decide)) R.tab.ris R.led fun s1 out kp hz eg eo pm => ?_)))
  rw [R.rows, L2.rowsOf, List.map_map] at pm
  obtain ⟨bs, hb, rfl⟩ : ∃ bs : List KP, bs.Perm L ∧ out = bs.map fun q => Value.ref q.1 := perm_map pm
  have bl : bs.length = L.length := hb.length_eq
  have line : (bs.map fun q : KP => Value.ref q.1).length ≤ sizeLine := by
    rw [List.length_map]; exact Nat.le_trans (show bs.length ≤ 64 by omega) (by decide)
  refine wpAny_bind (wpAny_newList ?_ line)
  have newL0 : (s1.heap.push (seqObj "list" (bs.map fun q : KP => Value.ref q.1).toArray 0)).get? s1.heap.objs.size = some (seqObj "list" (bs.map fun q : KP => Value.ref q.1).toArray 0) := Heap.get?_push_size _ rfl
  have rd1 : ∀ q ∈ bs, ∃ as, Reads (s1.heap.push (seqObj "list" (bs.map fun q : KP => Value.ref q.1).toArray 0)) (Value.ref q.1) (encP q) as ∧ s1.heap.objs.size ∉ as := fun q hq => by
    obtain ⟨its, rv, ⟨o1, g1, c1, n1, d1⟩, _⟩ := I.tuple (hk q (hb.mem_iff.mp hq))
    exact ⟨[], .tuple (Heap.get?_push_of_some _ (kp _ _ g1)) c1 d1 (reads_ints rv), by simp⟩
  have eI : ∀ l : List KP, EachIs (fun (v : Value) (q : KP) => v = .ref q.1) (l.map fun q => Value.ref q.1) l := fun l => by
    induction l with
    | nil => exact .nil
    | cons q l ih => exact .cons rfl ih
  have eR : ∀ (hh : Heap) (m : Addr) (l : List KP), (∀ q ∈ l, ∃ as, Reads hh (Value.ref q.1) (encP q) as ∧ m ∉ as) → EachIs (fun (v : Value) (q : KP) => ∃ as, Reads hh v (encP q) as ∧ m ∉ as) (l.map fun q => Value.ref q.1) l := fun hh m l => by
    induction l with
    | nil => intro _; exact .nil
    | cons q l ih => intro hl; exact .cons (hl q (List.mem_cons_self ..)) (ih fun x hx => hl x (List.mem_cons_of_mem _ hx))
  have dep : ∀ q ∈ bs, X.A.in1.units + 1 + (encP q).depth < cLine := fun q _ => by
    have e1 : X.A.in1.units = X.A.units + 1 := rfl
    have e2 : (encP q).depth = 1 := by
      show PyData.depth (.tuple (q.2.map .int)) = 1
      simp only [PyData.depth, depth_ints q.2]
    rw [e2, e1]; omega
  refine wpAny_bind (wpAny_holding (list_sort_data (a := s1.heap.objs.size) (R := fun (v : Value) (q : KP) => v = .ref q.1) (enc := encP) newL0 (eI bs) (eR _ _ bs rd1) alike_KP (sortable_KP fun q hq => hne q (hb.mem_iff.mp hq)) (by rw [List.length_map] at line; exact line) dep fun out lo each => ?_))
  have e1 : out = (bs.mergeSort (dataLe false encP)).map fun q => Value.ref q.1 := by
    clear lo
    generalize bs.mergeSort (dataLe false encP) = ms at each
    induction each with
    | nil => rfl
    | cons h _ ih => rw [h, ih]; rfl
  have pm2 : (bs.mergeSort (dataLe false encP)).Perm L := (List.mergeSort_perm ..).trans hb
  have ord : (bs.mergeSort (dataLe false encP)).map (·.2) = (bs.map (·.2)).mergeSort rowLe := List.map_mergeSort fun a _ b _ => rfl
  subst e1
  generalize bs.mergeSort (dataLe false encP) = ms at lo pm2 ord each
  obtain ⟨c2, hc2⟩ := sortedHeap_at (vs := bs.map fun q : KP => Value.ref q.1) (out := (ms.map fun q : KP => Value.ref q.1).toArray) newL0
  have keep : ∀ (b : Addr) (u : Obj), s.heap.get? b = some u → (sortedHeap (s1.heap.push (seqObj "list" (bs.map fun q : KP => Value.ref q.1).toArray 0)) s1.heap.objs.size (bs.map fun q : KP => Value.ref q.1) (ms.map fun q : KP => Value.ref q.1).toArray).get? b = some u := fun b u e => by
    have lt := Heap.lt_size (kp _ _ e)
    rw [sortedHeap_old (Nat.ne_of_lt lt) (by rw [Heap.size_push]; exact Nat.lt_succ_of_lt lt)]
    exact Heap.get?_push_of_some _ (kp _ _ e)
  have fresh : H s1.heap.objs.size = none := I.hok.fresh hz
  have rv : Vals (ms.map fun q : KP => V.ref q.1) (ms.map fun q : KP => Value.ref q.1) := by
    have := vals_refs (ms.map (·.1))
    rw [List.map_map, List.map_map] at this
    exact this
  have len2 : (ms.map fun q : KP => V.ref q.1).length ≤ sizeLine := by
    rw [List.length_map, pm2.length_eq]; exact Nat.le_trans (show L.length ≤ 64 by omega) (by decide)
  have okl : ObjOk X.prog X.w (upd H s1.heap.objs.size (.lst (ms.map fun q : KP => V.ref q.1))) (sortedHeap (s1.heap.push (seqObj "list" (bs.map fun q : KP => Value.ref q.1).toArray 0)) s1.heap.objs.size (bs.map fun q : KP => Value.ref q.1) (ms.map fun q : KP => Value.ref q.1).toArray) s1.heap.objs.size (.lst (ms.map fun q : KP => V.ref q.1)) := ⟨len2, _, c2, rv, hc2⟩
  have J := I.call (g' := s1.gens) (t' := s1.toks) (d' := s1.drawn) (ch := []) (Un.laid keep hz fresh) (HOk.laid I.hok keep hz okl) (by rw [eg]; exact I.bare) fun b z => nomatch z
  refine wpAny_pure ⟨_, rfl, .ref s1.heap.objs.size, _, ?_, rfl, q ms _ pm2 R.nd ⟨bs, hb, ord⟩ fresh⟩
  rw [← eo] at J
  exact J
def rLenST (X : Cx) : List V → Hp → VK → Prop := fun xs H Q => ∃ (a : Addr) (L : List KP), xs = [V.ref a] ∧ H a = some (SetTO X.prog X.w a L) ∧ (∀ p ∈ L, SqT X.K H p.1 (p.2.map V.int)) ∧ ((L.map (·.2)).Nodup → Q (.int L.length) H)
end
end Rf

namespace Rf
open PySem PySem.W PySem.Calls PySem.Spec L2 PyProof.Rows

/-! ### sorted(set(x)), len(set(x)): readings, the set itself is never seen -/
def uniq {α : Type} [DecidableEq α] : List α → List α
  | [] => []
  | x :: xs => if x ∈ uniq xs then uniq xs else x :: uniq xs
theorem uniq_mem {α : Type} [DecidableEq α] {a : α} : ∀ {xs : List α}, a ∈ uniq xs ↔ a ∈ xs
  | [] => Iff.rfl
  | x :: xs => by
    have ih := uniq_mem (a := a) (xs := xs)
    unfold uniq
    split
    · rename_i h
      rw [ih, List.mem_cons]
      refine ⟨.inr, fun z => z.elim (fun e => ?_) id⟩
      rw [e]; exact uniq_mem.mp h
    · rw [List.mem_cons, List.mem_cons, ih]
theorem uniq_nodup {α : Type} [DecidableEq α] : ∀ xs : List α, (uniq xs).Nodup
  | [] => .nil
  | x :: xs => by
    unfold uniq
    split
    · exact uniq_nodup xs
    · rename_i h
      exact List.nodup_cons.mpr ⟨h, uniq_nodup xs⟩
theorem uniq_len {α : Type} [DecidableEq α] : ∀ xs : List α, (uniq xs).length ≤ xs.length
  | [] => Nat.le_refl _
  | x :: xs => by
    have := uniq_len xs
    unfold uniq
    split <;> simp <;> omega
theorem rowLe_leq (a b : List Int) : rowLe a b = decide (a ≤ b) := by
  unfold rowLe
  rw [dataLt_tuple]
  have e := dataLt_ints b a
  unfold rowLt at e
  rw [e]
  by_cases h : b < a
  · simp [h, show ¬ a ≤ b from List.not_le.mpr h]
  · simp [h, show a ≤ b from List.not_lt.mp h]
theorem rows_up (ns : List (List Int)) : (ns.mergeSort rowLe).Pairwise fun a b => rowLe a b = true := by
  refine List.pairwise_mergeSort (fun a b c h k => ?_) (fun a b => ?_) ns
  · rw [rowLe_leq, decide_eq_true_iff] at *
    exact List.le_trans h k
  · rw [rowLe_leq, rowLe_leq, Bool.or_eq_true, decide_eq_true_iff, decide_eq_true_iff]
    exact List.le_total a b
theorem rows_perm {ns ms : List (List Int)} (h : ns.Perm ms) : ns.mergeSort rowLe = ms.mergeSort rowLe := by
  refine List.Perm.eq_of_pairwise (le := fun a b => rowLe a b = true) (fun a b _ _ h1 h2 => ?_) (rows_up ns) (rows_up ms) (((List.mergeSort_perm ns rowLe).trans h).trans (List.mergeSort_perm ms rowLe).symm)
  rw [rowLe_leq, decide_eq_true_iff] at h1 h2
  exact List.le_antisymm h1 h2
def rowsID : List PyData → Option (List (List Int))
  | [] => some []
  | d :: ds => match keyRow d, rowsID ds with
    | some n, some ns => some (n :: ns)
    | _, _ => none
section
variable {X : Cx} {g : Gx} {B : WX} {bs : List Nat} {ρ : List Addr} {F N H : Hp} {S : Store} {σ : L2.St}
theorem rpAll_ints {K : PySem.W.Frag} : ∀ {ns : List Int} {vs : List V}, RpAll K F vs (ns.map .int) → vs = ns.map V.int
  | [], _, r => by cases r; rfl
  | n :: ns, _, r => by
    rw [List.map_cons] at r
    cases r with
    | cons a b => cases a; rw [rpAll_ints b]; rfl
theorem rows_of {K : PySem.W.Frag} : ∀ {ds : List PyData} {vs : List V} {rs : List (List Int)}, RpAll K F vs ds → rowsID ds = some rs →
    ∃ ks : List KP, vs = ks.map (fun p => V.ref p.1) ∧ ks.map (·.2) = rs ∧ ∀ p ∈ ks, p.2 ≠ [] ∧ SqT K F p.1 (p.2.map V.int) ∧ Rp K F (V.ref p.1) (.tuple (p.2.map .int))
  | [], _, _, r, h => by
    cases r
    simp only [rowsID] at h
    cases h
    exact ⟨[], rfl, rfl, by simp⟩
  | d :: ds, _, _, r, h => by
    cases r with
    | cons r1 r2 =>
      simp only [rowsID] at h
      split at h
      · rename_i n ns h1 h2
        cases h
        obtain ⟨ks, rfl, e2, e3⟩ := rows_of r2 h2
        obtain ⟨rfl, ne⟩ := keyRow_eq h1
        have r1' := r1
        obtain ⟨a, ws, rfl, q, rr⟩ := rp_tup r1
        · have := rpAll_ints rr
          subst this
          refine ⟨(a, n) :: ks, rfl, by rw [List.map_cons, e2], fun p hp => ?_⟩
          rcases List.mem_cons.mp hp with rfl | hp
          · exact ⟨ne, q, r1'⟩
          · exact e3 p hp
      · cases h
theorem all_rows {K : PySem.W.Frag} : ∀ {ks : List KP}, (∀ p ∈ ks, Rp K F (V.ref p.1) (.tuple (p.2.map .int))) → IsAll K ρ F (ks.map fun p => V.ref p.1) (ks.map fun p => W.dat (.tuple (p.2.map .int)))
  | [], _ => .nil
  | p :: ks, h => .cons (.dat (h p List.mem_cons_self)) (all_rows fun q hq => h q (List.mem_cons_of_mem _ hq))
def sortSetF (k : Bool) : OpN := fun _ ws S => match ws with
  | [w] => match lstOf S w with
    | some zs => match intsW zs with
      | some ns => if ns.length < 60 then some (newL k ((sortInts (uniq ns)).map fun i => .dat (.int i)) S) else none
      | none => match (allDat zs).bind rowsID with
        | some rs => if rs.length < 60 then some (newL k (((uniq rs).mergeSort rowLe).map fun n => .dat (.tuple (n.map .int))) S) else none
        | none => none
    | none => none
  | _ => none
def lenSetF : OpN := fun _ ws S => match ws with
  | [w] => match (lstOf S w).bind allDat with
    | some ds => match rowsID ds with
      | some rs => if rs.length < 60 then some (.int (uniq rs).length, S) else none
      | none => none
    | none => none
  | _ => none
def rSetA (X : Cx) : List V → Hp → VK → Prop := fun xs H Q => rSetI X xs H Q ∨ rSetOfT X.K X.prog X.w xs H Q
theorem cr_setA (hc : X.calm = true) (hu : X.A.units + 100 < cLine) : CallR X (.type "set") (rSetA X) := by
  intro pins s σ H xs us Q I r h
  rcases h with h | h
  · exact cr_setI hc pins s σ H xs us Q I r h
  · exact cr_setOfT hc (by omega) pins s σ H xs us Q I r h
def rSortA (X : Cx) : List V → Hp → VK → Prop := fun xs H Q => rSortedSet X.w xs H Q ∨ rSortST X xs H Q
theorem cr_sortA (hc : X.calm = true) (hu : X.A.units + 100 < cLine) : CallR X (.builtin "sorted") (rSortA X) := by
  intro pins s σ H xs us Q I r h
  rcases h with h | h
  · exact cr_sortedSet hc pins s σ H xs us Q I r h
  · exact cr_sortST hc hu pins s σ H xs us Q I r h
theorem set_sorted (hK : g.K = X.K) {k : Bool} {xs : List V} {Q : VK} (h : rdN g (sortSetF k) xs H Q) : rSetA X xs H fun v H1 => rSortA X [v] H1 Q := by
  obtain ⟨bs, ρ, F, N, S, ws, s, l, p⟩ := h
  unfold sortSetF at p
  split at p
  · obtain ⟨v, rfl, r⟩ := all_one l
    split at p
    · rename_i zs h2
      obtain ⟨a, vs, rfl, q1, l1⟩ := lst_of s r h2
      split at p
      · rename_i ns h3
        split at p
        · rename_i few
          have ev := ints_is l1 h3
          subst ev
          refine .inl ⟨a, ns, rfl, hK ▸ q1, by omega, fun b c hb hc => .inl ⟨b, _, c, rfl, upd_same, by omega, fun ms p0 pw mem len hp => ?_⟩⟩
          have nd : ms.Nodup := pw.imp fun z => Int.ne_of_lt z
          have e : ms = sortInts (uniq ns) := sortInts_eq ((List.perm_ext_iff_of_nodup nd (uniq_nodup ns)).mpr fun x => by rw [mem, uniq_mem, decide_eq_true_iff]) (pw.imp fun z => Int.le_of_lt z)
          rw [e]
          exact new_ok (s.heap (same_new hb)) hp (isAll_ints _) fun ρ' F' H2 v2 gr s3 r3 => p ρ' F' H2 v2 gr s3 r3
        · exact p.elim
      · split at p
        · rename_i rs h4
          split at p
          · rename_i few
            obtain ⟨ds, h5, h6⟩ := Option.bind_eq_some_iff.mp h4
            obtain ⟨ks, rfl, ek, hks⟩ := rows_of (l1.dats h5) h6
            have kl : ks.length = rs.length := by rw [← ek, List.length_map]
            refine .inr ⟨a, ks, rfl, hK ▸ q1, fun q hq => hK ▸ Same.sqT s.ex (hks q hq).2.1, by omega, fun b L hb sub all => .inr ⟨b, L, rfl, upd_same, fun q hq => hK ▸ Same.sqT (same_new hb) (Same.sqT s.ex (hks q (sub q hq)).2.1), fun q hq => (hks q (sub q hq)).1, fun cs p0 pm nd ⟨cs', pm', ord⟩ hp => ?_⟩⟩
            have same : (cs'.map (·.2)).Perm (uniq rs) := by
              refine (List.perm_ext_iff_of_nodup ((pm'.map (·.2)).nodup_iff.mpr nd) (uniq_nodup rs)).mpr fun x => ?_
              rw [(pm'.map (·.2)).mem_iff, uniq_mem, ← ek]
              refine ⟨fun hx => ?_, fun hx => ?_⟩
              · obtain ⟨y, hy, rfl⟩ := List.mem_map.mp hx
                exact List.mem_map.mpr ⟨y, sub y hy, rfl⟩
              · obtain ⟨y, hy, rfl⟩ := List.mem_map.mp hx
                exact all y hy
            rw [rows_perm same] at ord
            have ew : (cs.map fun q => W.dat (.tuple (q.2.map .int))) = ((uniq rs).mergeSort rowLe).map fun n => W.dat (.tuple (n.map .int)) := by
              rw [← ord, List.map_map]; rfl
            refine new_ok (s.heap (same_new hb)) hp ?_ fun ρ' F' H2 v2 gr s3 r3 => p ρ' F' H2 v2 gr s3 r3
            rw [← ew]
            exact all_rows fun q hq => (hks q (sub q (pm.mem_iff.mp hq))).2.2
          · exact p.elim
        · exact p.elim
    · exact p.elim
  · exact p.elim
end
end Rf

namespace Rf
open PySem PySem.W PySem.Calls PySem.Spec L2 PyProof.Rows

/-! ### max(d), d a dict with whole numbers as keys -/
section
variable {X : Cx} {g : Gx} {B : WX} {bs : List Nat} {ρ : List Addr} {F N H : Hp} {S : Store} {σ : L2.St}
def rMaxK : List V → Hp → VK → Prop := fun vs H Q => ∃ (a : Addr) (kvs : List (Key × V)) (ns : List Int), vs = [V.ref a] ∧ H a = some (.dK kvs) ∧ kvs.map (·.1) = ns.map Sum.inl ∧ ns ≠ [] ∧ ∀ m, m ∈ ns → (∀ j ∈ ns, j ≤ m) → Q (.int m) H
def maxDF : OpN := fun _ ws S => match ws with
  | [w] => match freeD S w with
    | some us => match intKeys us with
      | some ns => match ns.max? with
        | some m => some (.int m, S)
        | none => none
      | none => none
    | none => none
  | _ => none
/-- max(..) of a list, a tuple, or of a dict's keys -/
def maxAF : OpN := fun bs ws S => match un maxTF bs ws S with
  | some r => some r
  | none => maxDF bs ws S
end
end Rf

namespace Rf
open PySem PySem.Spec L2 PyProof.Rows

/-! ### defs as values: a name that holds one is called -/
def FnE (X : Cx) (g : Gx) (p : Str × FnT) : Prop := ∃ (k : Nat) (f : Addr) (fd : FuncData) (ps : List Str), RoomG k X.A ∧ PySem.W.nsIn g.K mainGlobals p.1 = some (some (.ref f)) ∧
  FnG X.prog X.w X.K X.mg X.base k f fd ps (spF g p.2) ∧ PySem.W.keepIn X.K (.ref f) = true ∧ Binds X.K fd ps []
def mCallV (tbl : List (Str × FnT)) (i : Nat) (ms : M (List W)) : M W := fun bs env S => match env[i]? with
  | some (some (.fn x)) => match tbl.find? fun p => decide (p.1 = x) with
    | some p => mCall p.2 ms bs env S
    | none => .stuck
  | _ => .stuck
section
variable {X : Cx} {g : Gx} {B : WX} {n : Str} {i : Nat} {p pos : Pos} {e : Expr} {es : List Expr} {ms : M (List W)} {tbl : List (Str × FnT)}
end
/-! ### a name is given a list made by two walks -/
section
variable {X : Cx} {g : Gx} {B : WX} {pos : Pos}
theorem rs_setLc2 {k : Bool} {i : Nat} {y : Str} {py spos : Pos} {elt tg iter tg1 iter1 : Expr} {ifs ifs1 : List Expr} {scope : Scope} {own : List (Str × Nat)} {vs1 : List Nat} {mi mi1 : M Iter} {t t1 : TM} {mc mc1 : M Bool} {me : M W} (hc : X.calm = true) (hN : X.N.Nodup)
    (hy : X.N[i]? = some y) (hyl : X.env.scope.names.lookup y = some .local) (hsw : swapsWith (.ListComp elt [⟨tg, iter, ifs, 0⟩, ⟨tg1, iter1, ifs1, 0⟩] scope pos) (some (.Name y py)) spos.line X.env = pure true)
    (ok : BlkOk X.N X.env.scope scope own) (hi : PI X tg iter (rdI g B mi))
    (hg : ∀ s H C cl fp, PG (X.blk s H scope (compEnvC scope cl C X.env) fp) tg (rdTc g NoB (own.map (·.2)) t)) (ht : ∀ s H C cl fp, PTs (X.blk s H scope (compEnvC scope cl C X.env) fp) ifs (rdT g NoB mc))
    (hi1 : ∀ s H C cl fp, PI (X.blk s H scope (compEnvC scope cl C X.env) fp) tg1 iter1 (rdI g NoB mi1))
    (hg1 : ∀ s H C cl fp, PG (X.blk s H scope (compEnvC scope cl C X.env) fp) tg1 (rdTc g NoB vs1 t1)) (ht1 : ∀ s H C cl fp, PTs (X.blk s H scope (compEnvC scope cl C X.env) fp) ifs1 (rdT g NoB mc1))
    (he : ∀ s H C cl fp, PE (X.blk s H scope (compEnvC scope cl C X.env) fp) elt (rd g NoB me)) (hv : ∀ i ∈ vs1, i ∈ own.map (·.2) := by decide) (hs : ∀ x, foldedSetIterable iter X.env x = pure x := by intro _; rfl) (hs1 : ∀ env x, foldedSetIterable iter1 env x = pure x := by intro _ _; rfl) :
    PS X (.Assign [.Name y py] (.ListComp elt [⟨tg, iter, ifs, 0⟩, ⟨tg1, iter1, ifs1, 0⟩] scope pos) spos) (rdS g B (sAsg (mComp2 k mi (own.map (·.2)) t mc mi1 vs1 t1 mc1 me) (tName i))) := (ps_setLc2 hc hN hy hyl hsw hi ok hv hg ht hi1 hg1 ht1 he hs hs1).imp fun D σ H h =>
  rd_lc2 σ H _ (rdG_imp (rd_asg D σ H h) fun v H1 ⟨bs, ρ, F, N, env, S, w, s, e, r, p⟩ => p ρ F H1 _ (Grow.refl _ _) s (e.set i r))
end
end Rf

namespace Rf
open PySem PySem.Spec L2 PyProof.Rows

/-! ### a property is read -/
section
variable {X : Cx} {g : Gx} {B : WX} {k : Nat} {C pr fa a dx : Addr} {fs : List (Str × V)} {f : Str} {fd : FuncData} {ps : List Str} {ff : FnT}
end
/-! ### o.f: a field of some classes, a property of others -/
def mAttr (cs : List Nat) (props : List (Nat × FnT)) (f : Str) (m : M W) : M W := fun bs env S => (m bs env S).bind fun w S1 => match w with
  | .loc n => match S1[n]? with
    | some (.ins c fs) => match props.find? fun p => decide (p.1 = c) with
      | some p => (p.2 bs [.loc n] S1).bindC fun u S2 => .ok u S2
      | none => if c ∈ cs then match fs.lookup f with
          | some v => .ok v.weak S1
          | none => .stuck
        else .stuck
    | _ => .stuck
  | _ => .stuck
/-- what is known of a property of a class: its getter's reading -/
def PrE (X : Cx) (g : Gx) (f : Str) (p : Nat × FnT) : Prop := ∃ (k : Nat) (pr fa : Addr) (fd : FuncData) (ps : List Str), RoomG (k + 1) X.A ∧ Cls X.K (g.cls p.1) ∧ PropOf X.K (g.cls p.1) f pr fa ∧ FnG X.prog X.w X.K X.mg X.base k fa fd ps (spF g p.2) ∧ Binds X.K fd ps []
section
variable {X : Cx} {g : Gx} {B : WX} {cs : List Nat} {props : List (Nat × FnT)} {f : Str} {e : Expr} {ma : M W} {pos : Pos}
end
/-! ### o.m(..), o of one of several classes -/
def mMethT (tbl : List (Nat × FnT)) (m : Str) (mo : M W) (ms : M (List W)) : M W := fun bs env S => (mo bs env S).bind fun w S1 => match w with
  | .loc n => match S1[n]? with
    | some (.ins c _) => match tbl.find? fun p => decide (p.1 = c) with
      | some p => methB p.1 m p.2 ms bs env w S1
      | none => .stuck
    | _ => .stuck
  | _ => .stuck
def MeE (X : Cx) (g : Gx) (m : Str) (p : Nat × FnT) : Prop := ∃ (k : Nat) (fa : Addr) (fd : FuncData) (ps : List Str), RoomG k X.A ∧ Cls X.K (g.cls p.1) ∧ Meth X.K (g.cls p.1) m fa ∧ FnG X.prog X.w X.K X.mg X.base k fa fd ps (spF g p.2) ∧ Binds X.K fd ps []
section
variable {X : Cx} {g : Gx} {B : WX} {tbl : List (Nat × FnT)} {m : Str} {o e : Expr} {es : List Expr} {mo : M W} {ms : M (List W)} {pos apos : Pos}
end
/-! ### isinstance of an own class; of an instance -/
def tyNames : List String := ["NoneType", "bool", "int", "str", "list", "tuple", "dict"]
structure IsC (K : PySem.W.Frag) (C : Addr) : Prop where
  cl : Cls K C
  ha : PySem.W.findIn K (.ref C) "__class__" = some (some (.builtin "object.__class__"))
  hn : PySem.W.specialIn K (.builtin "object.__class__") "__get__" = some (some (.builtin "getset_descriptor.__get__"))
  htk : PySem.W.takesIn K (.builtin "object.__class__") = some true
  hm : PySem.W.mroIn K C (.type "object") = some true
  no : ∀ T ∈ tyNames, PySem.W.kitOne K (.type T) (.ref C) = some false
  nt : ∀ T ∈ tyNames, PySem.W.kitOne K (.ref C) (.type T) = some false
def mIsiC (cs : List Nat) (c : Nat) (m : M W) : M W := fun bs env S => (m bs env S).bind fun w S1 => match tyW S1 w with
  | some T => if T ∈ tyNames then .ok (.bl false) S1 else .stuck
  | none => match w with
    | .loc n => match S1[n]? with
      | some (.ins k _) => if k ∈ cs then .ok (.bl (decide (k = c))) S1 else .stuck
      | _ => .stuck
    | _ => .stuck
def mIsiX (cs : List Nat) (T : String) (m : M W) : M W := fun bs env S => (m bs env S).bind fun w S1 => match isiW T S1 w with
  | some u => .ok u S1
  | none => match w with
    | .loc n => match S1[n]? with
      | some (.ins k _) => if k ∈ cs then .ok (.bl false) S1 else .stuck
      | _ => .stuck
    | _ => .stuck
section
variable {X : Cx} {g : Gx} {B : WX} {a : Expr} {ma : M W} {pos : Pos} {cs : List Nat}
end
section
variable {K : PySem.W.Frag} {S C : Addr} {T : String} {b : Bool}
end
end Rf

namespace Rf
open PySem PySem.W PySem.Calls PySem.Spec L2 PyProof.Rows

/-! ### sets of keys of one kind, with what the walk over them asks -/
section
variable {P : Program} {w : World} {K : Type} [DecidableEq K] (knd : PySem.KeyKind P w K)
/-- two entries have no key together -/
abbrev Unlike : Int × Value → Int × Value → Prop := fun e f => ∀ k, knd.is k e.2 = true → knd.is k f.2 = true → False
structure Tabled (w : World) (es : Array (Int × Value)) (t : SetTable) : Prop where
  few : es.size < scanBound
  fits : t.fits es.size = true
  ris : Ris t.place.toList
  led : w.params.followText "set-order" = true ∨ t.led = true
structure SetIs (h : Heap) (a : Addr) (es : Array (Int × Value)) (t : SetTable) : Prop where
  obj : ∃ o ep, h.get? a = some o ∧ o.ExactSet ∧ o.data = .set es ep t
  all : ElemsOf knd es.toList
  apart : es.toList.Pairwise (Unlike knd)
  tab : Tabled w es t
def SetG (h : Heap) (a : Addr) (S : K → Bool) (n : Nat) : Prop := ∃ es t, SetIs knd h a es t ∧ (∀ k, S k = true ↔ ∃ e ∈ es.toList, knd.is k e.2 = true) ∧ es.size = n
end
section
variable {P : Program} {w : World} {K : Type} [DecidableEq K] {knd : PySem.KeyKind P w K} {A : Around} {E : Value → Shared → Prop} {s : Shared} {a : Addr} {S : K → Bool} {n : Nat}
theorem SetIs.keeps {h h' : Heap} {es : Array (Int × Value)} {t : SetTable} (x : SetIs knd h a es t) (k : ∀ o, h.get? a = some o → h'.get? a = some o) : SetIs knd h' a es t :=
  ⟨let ⟨o, ep, g, r⟩ := x.obj; ⟨o, ep, k o g, r⟩, x.all, x.apart, x.tab⟩
theorem SetG.keeps {h h' : Heap} (x : SetG knd h a S n) (k : ∀ o, h.get? a = some o → h'.get? a = some o) : SetG knd h' a S n := let ⟨es, t, i, r⟩ := x; ⟨es, t, i.keeps k, r⟩
theorem SetG.same {h : Heap} {S' : K → Bool} (x : SetG knd h a S n) (e : ∀ k, S' k = S k) : SetG knd h a S' n := by rw [show S' = S from funext e]; exact x
/-- what is stored last -/
theorem setG_store {grown : Bool → Sem Unit} (hg : ∀ (b : Bool) (s1 : Shared) (R : Unit → Shared → Prop), R () s1 → wpAny (model P w) A (grown b) R E s1) {o : Obj} {es es1 : Array (Int × Value)} {ep : Nat} {t t1 : SetTable}
    (lies : s.heap.get? a = some o) (exact_ : o.ExactSet) (dat : o.data = .set es ep t) (all : ElemsOf knd es1.toList) (apart : es1.toList.Pairwise (Unlike knd)) (tab : Tabled w es1 t1) {dummy : Bool} {R : Option Bool → Shared → Prop}
    (fin : ∀ h2 es2 t2, Heap.SameBut a s.heap h2 → es2.toList.Perm es1.toList → SetIs knd h2 a es2 t2 → R (some true) { s with heap := h2 }) :
    wpAny (model P w) A (do
      storeSet a es1 t1
      if (!dummy && t1.tooFull) = true then do
        grown (relayAll t1 es1 (SetTable.grown es1.size)).2.2
        storeSet a (relayAll t1 es1 (SetTable.grown es1.size)).1 (relayAll t1 es1 (SetTable.grown es1.size)).2.1
        pure (some true)
      else pure (some true)) R E s := by
  refine wpAny_bind (wpAny_storeSet_of lies dat ?_ (fits_of_scanBound tab.few))
  have lies1 := store_at (es' := es1) (t' := t1) lies dat
  have but1 := Heap.SameBut.update s.heap a (Obj.putSet es1 t1)
  split
  · have perm := relayAll_perm t1 es1 (SetTable.grown es1.size)
    have fit2 := relayAll_fits t1 es1 (SetTable.grown es1.size)
    have ris2 := relayAll_ris t1 es1 (SetTable.grown es1.size)
    have led2 := relayAll_led t1 es1 (SetTable.grown es1.size)
    generalize relayAll t1 es1 (SetTable.grown es1.size) = laid at perm fit2 ris2 led2 ⊢
    obtain ⟨es2, t2, gave⟩ := laid
    dsimp only at perm fit2 ris2 led2 ⊢
    have many : es2.size = es1.size := by rw [← Array.length_toList, perm.length_eq, Array.length_toList]
    have tab2 : Tabled w es2 t2 := ⟨by rw [many]; exact tab.few, fit2, ris2, tab.led.imp id fun z => led2.trans z⟩
    refine wpAny_bind (hg _ _ _ (wpAny_bind (wpAny_storeSet_of lies1 rfl ?_ (fits_of_scanBound tab2.few))))
    have lies2 := store_at (es' := es2) (t' := t2) lies1 rfl
    refine wpAny_pure (fin _ es2 t2 (but1.trans (Heap.SameBut.update _ a _)) perm ⟨⟨_, _, lies2, exact_, rfl⟩, fun e he => all e (perm.mem_iff.mp he), ?_, tab2⟩)
    exact (perm.pairwise_iff fun h k p q => h k q p).mpr apart
  · exact wpAny_pure (fin _ es1 t1 but1 (List.Perm.refl _) ⟨⟨_, _, lies1, exact_, rfl⟩, all, apart, tab⟩)
theorem setG_add {k : K} {x : Value} {Q : Bool → Shared → Prop} (G : SetG knd s.heap a S n) (hk : knd.is k x = true) (plain : x.scannable = true) (room : n + 1 < scanBound)
    (fin : ∀ h2, Heap.SameBut a s.heap h2 → SetG knd h2 a (fun j => S j || decide (j = k)) (if S k = true then n else n + 1) → Q (!S k) { s with heap := h2 }) : wpAny (model P w) A (setAddHashed a x (knd.hash k)) Q E s := by
  obtain ⟨es, t, ⟨⟨o, ep, lies, exact_, dat⟩, all, apart, tab⟩, mem, size⟩ := G
  unfold setAddHashed setAddHashedIn
  refine wpAny_holding (wpAny_bind (wpAny_setState_of lies dat tab.fits ?_))
  dsimp only
  rw [byScan_of plain tab.few all]
  simp only [↓reduceIte]
  unfold setAddByScan
  refine wpAny_bind (wpAny_bind (wpAny_rule (wpAny_bind (wpAny_setScan_of hk lies dat tab.fits all ?_))))
  cases found : List.findIdx? (fun e => knd.is k e.2) es.toList with
  | some j =>
    dsimp only
    obtain ⟨lt, is, _⟩ := List.findIdx?_eq_some_iff_getElem.mp found
    have there : S k = true := (mem k).mpr ⟨es.toList[j], List.getElem_mem lt, is⟩
    refine wpAny_pure (wpAny_pure ?_)
    have q := fin s.heap (Heap.SameBut.refl a s.heap) ⟨es, t, ⟨⟨o, ep, lies, exact_, dat⟩, all, apart, tab⟩, fun i => by
      rw [Bool.or_eq_true, decide_eq_true_eq, ← mem i]
      exact ⟨fun z => z.elim id fun e => (by rw [e]; exact there), .inl⟩, by rw [if_pos there]; exact size⟩
    rw [there] at q
    exact q
  | none =>
    dsimp only
    have new : ∀ e ∈ es.toList, knd.is k e.2 = false := fun e he => by
      have z := List.findIdx?_eq_none_iff.mp found e he
      simpa using z
    have not : S k = false := by
      cases q : S k with
      | false => rfl
      | true =>
        obtain ⟨e, he, z⟩ := (mem k).mp q
        rw [new e he] at z; cases z
    have perm := layNew_perm t es (knd.hash k) x
    have fit1 := layNew_fits t es (knd.hash k) x
    have ris1 := layNew_ris t es (knd.hash k) x tab.ris
    have led1 := layNew_led t es (knd.hash k) x
    generalize layNew t es (knd.hash k) x = laid at perm fit1 ris1 led1 ⊢
    obtain ⟨es1, t1, dummy, gave⟩ := laid
    dsimp only at perm fit1 ris1 led1 ⊢
    rw [Array.toList_push] at perm
    have front : es1.toList.Perm ((knd.hash k, x) :: es.toList) := perm.trans (List.perm_append_singleton _ _)
    have all1 : ElemsOf knd es1.toList := fun e he => by
      rcases List.mem_cons.mp (front.mem_iff.mp he) with z | z
      · subst z; exact ⟨⟨k, hk, rfl⟩, plain⟩
      · exact all e z
    have apart1 : es1.toList.Pairwise (Unlike knd) := (front.pairwise_iff fun h i p q => h i q p).mpr (List.pairwise_cons.mpr ⟨fun f hf i p q => (by
      have e : i = k := knd.inj x i k p hk
      subst e
      rw [new f hf] at q; exact Bool.noConfusion q), apart⟩)
    have mem1 : ∀ i, (S i || decide (i = k)) = true ↔ ∃ e ∈ es1.toList, knd.is i e.2 = true := fun i => by
      rw [Bool.or_eq_true, decide_eq_true_eq, mem i]
      constructor
      · rintro (⟨e, he, z⟩ | rfl)
        · exact ⟨e, front.mem_iff.mpr (List.mem_cons_of_mem _ he), z⟩
        · exact ⟨_, front.mem_iff.mpr List.mem_cons_self, hk⟩
      · rintro ⟨e, he, z⟩
        rcases List.mem_cons.mp (front.mem_iff.mp he) with y | y
        · subst y; exact .inr (knd.inj x i k z hk)
        · exact .inl ⟨e, y, z⟩
    have size1 : es1.size = n + 1 := by rw [← Array.length_toList, front.length_eq, List.length_cons, Array.length_toList, size]
    have led2 : w.params.followText "set-order" = true ∨ t1.led = true := tab.led.imp id fun z => led1.trans z
    have last : ∀ h2 es2 t2, Heap.SameBut a s.heap h2 → es2.toList.Perm es1.toList → SetIs knd h2 a es2 t2 → Q true { s with heap := h2 } := fun h2 es2 t2 but pm is => by
      have q := fin h2 but ⟨es2, t2, is, fun i => (mem1 i).trans ⟨fun ⟨e, he, z⟩ => ⟨e, pm.mem_iff.mpr he, z⟩, fun ⟨e, he, z⟩ => ⟨e, pm.mem_iff.mp he, z⟩⟩, by
        rw [not, if_neg (by decide), ← Array.length_toList, pm.length_eq, Array.length_toList, size1]⟩
      rw [not] at q
      exact q
    have gaveWay : ∀ (b : Bool) (s1 : Shared) (R : Unit → Shared → Prop), R () s1 → wpAny (model P w) A (match b with | true => rule "set.scan.the-table-gave-way" | false => pure ()) R E s1 := fun b s1 R q => by
      cases b
      · exact wpAny_pure q
      · exact wpAny_rule q
    have few1 : es1.size < scanBound := by rw [size1]; exact room
    refine wpAny_bind (gaveWay _ _ _ ?_)
    split
    · refine wpAny_bind ?_
      rw [hashByValue_scannable 8 plain]
      refine wpAny_pure ?_
      refine setG_store gaveWay lies exact_ dat all1 apart1 ⟨few1, ?_, ?_, ?_⟩ ?_
      · first | (split <;> first | exact fit1 | exact SetTable.fits_plain_off fit1) | exact fit1
      · first | (split <;> exact ris1) | exact ris1
      · first | (split <;> exact led2) | exact led2
      · intro h2 es2 t2 but pm is; dsimp only; exact wpAny_pure (last h2 es2 t2 but pm is)
    · refine wpAny_bind (wpAny_pure ?_)
      simp only [↓reduceIte]
      refine setG_store gaveWay lies exact_ dat all1 apart1 ⟨few1, fit1, ris1, led2⟩ ?_
      intro h2 es2 t2 but pm is; dsimp only; exact wpAny_pure (last h2 es2 t2 but pm is)
end
/-! ### set(list of texts) -/
section
variable {P : Program} {w : World} {A : Around} {E : Value → Shared → Prop} {s : Shared}
theorem strs_at : ∀ {us : List Value} {ws : List Str}, StrsAre us ws → ∀ (i : Nat) (v : Value), us[i]? = some v → ∃ k t, ws[i]? = some k ∧ v = .str k t
  | _, _, .nil, i, v, h => by simp at h
  | _, _, .cons y t r, i, v, h => by
    cases i with
    | zero => simp only [List.getElem?_cons_zero, Option.some.injEq] at h; exact ⟨y, t, rfl, h.symm⟩
    | succ i => rw [List.getElem?_cons_succ] at h ⊢; exact strs_at r i v h
theorem setG_empty {h : Heap} {a : Addr} {ws : List Str} (lies : h.get? a = some (emptyS w)) : SetG (PySem.strKind P w) h a (fun j => decide (j ∈ ws.take 0)) 0 :=
  ⟨#[], _, ⟨⟨_, 0, lies, ⟨rfl, rfl, rfl⟩, rfl⟩, fun e he => (by simp at he), .nil, ⟨by decide, rfl, List.Pairwise.nil, by
    show _ ∨ (!w.params.followText "set-order") = true
    cases w.params.followText "set-order"
    · exact .inr rfl
    · exact .inl rfl⟩⟩, fun k => by simp, rfl⟩
theorem set_update_texts {I : Addr} {fp wrt : List Addr} {G : Array GenState → Array GenState → Prop} {n : Nat} {Pv : Nat → Value → Prop} {St : Nat → Shared → Prop} {R : Result → Shared → Prop} (W : WalksS P w A.in1 I fp wrt G n Pv St) (b : Addr) (off : b ∉ fp) (ws : List Str)
    (many : n = ws.length) (room : ws.length + 1 < scanBound) (items : ∀ i v, Pv i v → ∃ k t, ws[i]? = some k ∧ v = .str k t) : ∀ (left i : Nat) (s : Shared), n - i = left → i ≤ n → St i s →
      (∃ c, c ≤ i ∧ SetG (PySem.strKind P w) s.heap b (fun j => decide (j ∈ ws.take i)) c) →
      (∀ s2 c, Moved (b :: wrt) G s s2 → c ≤ n → SetG (PySem.strKind P w) s2.heap b (fun j => decide (j ∈ ws)) c → R (.ok (.ret .none)) s2) → codeAny (model P w) A (.builtin "set.update.loop" ⟨[.ref b, .ref I], []⟩) R s := by
  have off2 : b ∉ wrt := fun z => off (W.sub _ z)
  have more : ∀ x ∈ wrt, x ∈ b :: wrt := fun x hx => List.mem_cons_of_mem _ hx
  intro left
  induction left with
  | zero =>
    intro i s e le st ⟨c, cle, held⟩ fin
    obtain rfl : i = n := by omega
    refine codeAny_builtin F.entry_set_update_loop ?_
    rw [Around.under_plainId F.plain_set_update_loop _]
    show wpAny _ _ (pyNext (.ref I) >>= _) _ _ s
    refine wpAny_bind (W.done s _ _ st fun s2 moved => ?_)
    show wpAny _ _ (ret Value.none) _ _ s2
    rw [List.take_of_length_le (by omega)] at held
    exact wpAny_pure (fin s2 c (moved.mono more) cle (held.keeps fun o e => moved.heap b o off2 e))
  | succ left ih =>
    intro i s e le st ⟨c, cle, held⟩ fin
    have lt : i < n := by omega
    refine codeAny_builtin F.entry_set_update_loop ?_
    rw [Around.under_plainId F.plain_set_update_loop _]
    show wpAny _ _ (pyNext (.ref I) >>= _) _ _ s
    refine wpAny_bind (W.item i s _ _ lt st fun v s2 pv st2 moved => ?_)
    obtain ⟨y, t, at_, rfl⟩ := items i v pv
    have held2 : SetG (PySem.strKind P w) s2.heap b (fun j => decide (j ∈ ws.take i)) c := held.keeps fun o e => moved.heap b o off2 e
    show wpAny _ _ (holding [Value.str y t] (setAdd b (.str y t)) >>= _) _ _ s2
    refine wpAny_bind (wpAny_holding ?_)
    unfold setAdd
    refine wpAny_holding (wpAny_bind ((PySem.strKind P w).pyHash (k := y) (strKind_is _ _ _ _) ?_))
    refine setG_add (s := { s2 with toks := s2.toks + 1 }) held2 (strKind_is _ _ _ _) rfl (by omega) fun h3 but held3 => ?_
    have held4 : SetG (PySem.strKind P w) h3 b (fun j => decide (j ∈ ws.take (i + 1))) (if decide (y ∈ ws.take i) = true then c else c + 1) := held3.same fun j => by
      rw [List.take_add_one, at_]
      simp [List.mem_append]
    have cle4 : (if decide (y ∈ ws.take i) = true then c else c + 1) ≤ i + 1 := by split <;> omega
    refine wpAny_pure ⟨plainId_quiet F.plain_set_update_loop _, ih (i + 1) _ (by omega) lt (W.frame _ s2 _ _ st2 (Nat.le_succ _) fun x hx o e => ?_) ⟨_, cle4, held4⟩ fun s5 c5 moved5 cle5 held5 => ?_⟩
    · rw [but.2 x fun z => off (by rw [← z]; exact hx)]; exact e
    · refine fin s5 c5 (Moved.trans W.gtrans ((moved.mono more).then_heap (Nat.le_succ _) fun x o hx e => ?_) moved5) cle5 held5
      rw [but.2 x fun z => hx (by rw [z]; exact List.mem_cons_self)]; exact e
theorem set_texts {l : Addr} {its : Array Value} (ws : List Str) {Q : Value → Shared → Prop} (hA : A.handled = none) (hl : s.heap.IsList l its) (hi : StrsAre its.toList ws) (few : ws.length + 1 < scanBound)
    (fin : ∀ (h : Heap) (tk c : Nat), SetG (PySem.strKind P w) h s.heap.objs.size (fun j => decide (j ∈ ws)) c → c ≤ ws.length → (∀ b o, s.heap.get? b = some o → h.get? b = some o) → Q (.ref s.heap.objs.size) { s with heap := h, toks := tk }) :
    wpAny (model P w) A (call (.type "set") [.ref l]) Q E s := by
  have z0 : its.size = ws.length := by rw [← StrsAre.length hi, Array.length_toList]
  obtain ⟨c0, t0, mro⟩ := F.called_set.mro
  have made := F.called_set.made; have sub := F.called_set.sub
  refine wpAny_call (codeAny_of_tree ?_); show wpAny _ _ (callAny (.type "set") _) _ _ _
  refine wpAny_pure ⟨Code.quiet_builtin _ (by decide +kernel), codeAny_builtin F.entry_type_call ?_⟩; rw [Around.under_plain (weight_type_call_type "set" [.ref l] []) rfl]
  have nty := F.called_set.notType; have can := F.called_set.canCreate; have tcall := F.typeCall_set_1 (.ref l)
  repeat (any_goals (first | assumption | wp_step))
  refine codeAny_mono (code_set_led1 (.ref l) (E := E) (Q₁ := fun v t => v = .ref s.heap.objs.size ∧ t = { s with heap := s.heap.push (emptyS w) }) ⟨rfl, rfl⟩) fun r s1 hr => ?_
  cases r with
  | error e => exact hr
  | ok fl =>
    cases fl with
    | brk => exact hr.elim
    | cont => exact hr.elim
    | next => exact hr.elim
    | ret v =>
      obtain ⟨rfl, rfl⟩ := hr
      have at0 : (s.heap.push (emptyS w)).get? s.heap.objs.size = some (emptyS w) := Heap.get?_push_size _ rfl
      have tyS : Shared.TypeIs { s with heap := s.heap.push (emptyS w) } (.ref s.heap.objs.size) "set" := ⟨_, at0, rfl⟩
      have ini := F.called_set.init.lookup; have inb := F.called_set.init.bind (.ref s.heap.objs.size)
      repeat (any_goals (first | assumption | wp_step))
      refine codeAny_mono (codeAny_call_builtin (R := wants (fun v t => v = .none ∧ ∃ h tk c, t = { s with heap := h, toks := tk } ∧ SetG (PySem.strKind P w) h s.heap.objs.size (fun j => decide (j ∈ ws)) c ∧ c ≤ ws.length ∧ (∀ b o, s.heap.get? b = some o → h.get? b = some o)) E) F.called_set.init.plain F.entry_set_init (check_set_init_1 tyS ?_)) fun r2 s2 hr2 => ?_
      · obtain ⟨⟨kl, dl, al, sl⟩, gl, el, nl, fl⟩ := hl
        simp only at el fl
        subst el fl
        have gl2 : (s.heap.push (emptyS w)).get? l = some { cls := .type "list", dict := dl, data := .seq its nl, slots := sl } := Heap.get?_push_of_some _ gl
        have sb1 := F.sub_list_set; have sb2 := F.sub_list_frozenset
        have nd : (Value.type "list" == Value.type "dict") = false := by decide
        have isl : (s.heap.push (emptyS w)).IsList l its := ⟨_, gl2, rfl, nl, rfl⟩
        unfold Builtin.«set.__init__» noKeywords Builtin.Frozenset.updateFrom
        generalize ePI : pyIter = PI
        wp_walk
        subst ePI
        refine wpAny_pyIter_list isl (wpAny_bind (wpAny_runValue ?_))
        have ltl : l < s.heap.objs.size := Heap.lt_size gl
        have szp : (s.heap.push (emptyS w)).objs.size = s.heap.objs.size + 1 := Heap.size_push ..
        have n1 : l ≠ (s.heap.push (emptyS w)).objs.size := by rw [szp]; exact Nat.ne_of_lt (Nat.lt_succ_of_lt ltl)
        have n2 : s.heap.objs.size ∉ [(s.heap.push (emptyS w)).objs.size, l] := by
          rw [szp]; intro hm
          rcases List.mem_cons.mp hm with e | e
          · exact absurd e (Nat.ne_of_lt (Nat.lt_succ_self _))
          · exact absurd (List.mem_singleton.mp e) (Nat.ne_of_gt ltl)
        have vals : ∀ (i : Nat) (v : Value), its[i]? = some v → ∃ k t, ws[i]? = some k ∧ v = .str k t := fun i v hv => by
          have lt : i < ws.length := by rw [← z0]; exact (Array.getElem?_eq_some_iff.mp hv).1
          exact strs_at hi i v (by rw [Array.getElem?_toList]; exact hv)
        refine set_update_texts (Walks.list (by simp [hA]) _ l n1 its).toS s.heap.objs.size n2 ws z0 few vals (its.size - 0) 0 _ (by omega) (Nat.zero_le _) ⟨⟨_, Heap.get?_push_size _ rfl, rfl, rfl⟩, isl.push _⟩ ?mkSet ?mkEnd
        case mkSet => exact ⟨0, Nat.le_refl 0, setG_empty (Heap.get?_push_of_some _ at0)⟩
        case mkEnd =>
          rintro ⟨h2, g2, d2, t2, o2⟩ c mv hc hS
          obtain rfl : g2 = s.gens := mv.gens
          obtain rfl : d2 = s.drawn := mv.drawn
          obtain rfl : o2 = s.os := mv.os
          show wpAny _ _ _ _ _ _
          refine wpAny_pure ?_; show wpAny _ _ (ret Value.none) _ _ _
          refine wpAny_pure ⟨rfl, h2, t2, c, rfl, hS, by omega, fun b o e => ?_⟩
          have ltb : b < s.heap.objs.size := Heap.lt_size e
          exact mv.heap b o (fun hm => by
            rw [szp] at hm
            rcases List.mem_cons.mp hm with e | e
            · exact absurd e (Nat.ne_of_lt ltb)
            · exact absurd (List.mem_singleton.mp e) (Nat.ne_of_lt (Nat.lt_succ_of_lt ltb))) (Heap.get?_push_of_some _ (Heap.get?_push_of_some _ e))
      · cases r2 with
        | error e => exact hr2
        | ok fl =>
          cases fl with
          | brk => exact hr2.elim
          | cont => exact hr2.elim
          | next => exact hr2.elim
          | ret v =>
            obtain ⟨rfl, h2, tk, c, rfl, a1, a2, a3⟩ := hr2
            repeat (any_goals (first | assumption | wp_step))
            exact fin _ _ _ a1 a2 a3
end
end Rf

namespace Rf
open PySem PySem.W PySem.Calls PySem.Spec L2 PyProof.Rows

/-! ### sorted(set(list of texts)) -/
def sLe (a b : Str) : Bool := decide (a.cps.toList ≤ b.cps.toList)
theorem sLe_data : dataLe false (PyData.str : Str → PyData) = sLe := by
  funext a b
  have e : dataLt (.str b) (.str a) = decide (b.cps.toList < a.cps.toList) := by
    unfold dataLt
    simp only [keyToks, PyProof.Rows.lexLt, itemOrd]
    simp only [itemLt]
    cases decide (b.cps.toList < a.cps.toList) <;> simp
  rw [dataLe_eq]
  show (!dataLt (.str b) (.str a)) = _
  rw [e]
  unfold sLe
  by_cases h : b.cps.toList < a.cps.toList
  · simp [h, show ¬ a.cps.toList ≤ b.cps.toList from List.not_le.mpr h]
  · simp [h, show a.cps.toList ≤ b.cps.toList from List.not_lt.mp h]
theorem str_ext {a b : Str} (h : a.cps.toList = b.cps.toList) : a = b := by
  cases a; cases b; congr 1; exact Array.toList_inj.mp h
theorem strs_up (ns : List Str) : (ns.mergeSort sLe).Pairwise fun a b => sLe a b = true := by
  refine List.pairwise_mergeSort (fun a b c h k => ?_) (fun a b => ?_) ns
  · unfold sLe at *; rw [decide_eq_true_iff] at *
    exact List.le_trans h k
  · unfold sLe; rw [Bool.or_eq_true, decide_eq_true_iff, decide_eq_true_iff]
    exact List.le_total _ _
theorem strs_perm {ns ms : List Str} (h : ns.Perm ms) : ns.mergeSort sLe = ms.mergeSort sLe := by
  refine List.Perm.eq_of_pairwise (le := fun a b => sLe a b = true) (fun a b _ _ h1 h2 => ?_) (strs_up ns) (strs_up ms) (((List.mergeSort_perm ns sLe).trans h).trans (List.mergeSort_perm ms sLe).symm)
  unfold sLe at h1 h2
  rw [decide_eq_true_iff] at h1 h2
  exact str_ext (List.le_antisymm h1 h2)
def SetSO (P : Program) (w : World) (a : Addr) (S : Str → Bool) (n : Nat) : HO := .ext fun h => SetG (PySem.strKind P w) h a S n
theorem setSO_new {P : Program} {w : World} {H : Hp} {h : Heap} {a : Addr} {S : Str → Bool} {n : Nat} (G : SetG (PySem.strKind P w) h a S n) : ObjOk P w H h a (SetSO P w a S n) := by
  have ⟨_, _, x, _⟩ := G
  have ⟨o, _, lies, _⟩ := x.obj
  exact ⟨G, ⟨o, lies⟩, fun _ _ p k => SetG.keeps p k⟩
def IsTx (v : Value) (y : Str) : Prop := ∃ t, v = .str y t
theorem tx_list : ∀ {out : List Value}, (∀ v ∈ out, ∃ y t, v = Value.str y t) → ∃ bs : List Str, EachIs IsTx out bs ∧ ∀ y, y ∈ bs ↔ ∃ t, Value.str y t ∈ out
  | [], _ => ⟨[], .nil, fun y => by simp⟩
  | v :: out, h => by
    obtain ⟨y, t, rfl⟩ := h v List.mem_cons_self
    obtain ⟨bs, e1, e2⟩ := tx_list fun u hu => h u (List.mem_cons_of_mem _ hu)
    refine ⟨y :: bs, .cons ⟨t, rfl⟩ e1, fun z => ?_⟩
    rw [List.mem_cons, e2 z]
    constructor
    · rintro (rfl | ⟨u, hu⟩)
      · exact ⟨t, List.mem_cons_self⟩
      · exact ⟨u, List.mem_cons_of_mem _ hu⟩
    · rintro ⟨u, hu⟩
      rcases List.mem_cons.mp hu with q | q
      · cases q; exact .inl rfl
      · exact .inr ⟨u, q⟩
theorem each_mem {α β : Type} {R : α → β → Prop} : ∀ {as : List α} {bs : List β}, EachIs R as bs → ∀ {b : β}, b ∈ bs → ∃ a ∈ as, R a b
  | _, _, .nil, _, h => nomatch h
  | _, _, .cons r rs, _, h => by
    rcases List.mem_cons.mp h with z | z
    · subst z; exact ⟨_, List.mem_cons_self, r⟩
    · obtain ⟨a, ha, q⟩ := each_mem rs z; exact ⟨a, List.mem_cons_of_mem _ ha, q⟩
theorem tx_nodup {P : Program} {w : World} : ∀ {out : List Value} {bs : List Str}, EachIs IsTx out bs → out.Pairwise (fun u v => ∀ k, (PySem.strKind P w).is k u = true → (PySem.strKind P w).is k v = true → False) → bs.Nodup
  | _, _, .nil, _ => .nil
  | _, _, .cons (a := v) (b := y) ⟨t, e⟩ r, h => by
    subst e
    rw [List.pairwise_cons] at h
    refine List.nodup_cons.mpr ⟨fun hy => ?_, tx_nodup r h.2⟩
    obtain ⟨v, hv, t2, rfl⟩ := each_mem r hy
    exact h.1 _ hv y (strKind_is _ _ _ _) (strKind_is _ _ _ _)
section
variable {X : Cx}
def rSetS (X : Cx) : List V → Hp → VK → Prop := fun xs H Q => ∃ (l : Addr) (ws : List Str), xs = [V.ref l] ∧ SqL X.K H l (ws.map V.str) ∧ ws.length < 4000 ∧ ∀ (a : Addr) (c : Nat), H a = none → Q (.ref a) (upd H a (SetSO X.prog X.w a (fun j => decide (j ∈ ws)) c))
theorem texts_of_vals : ∀ {ws : List Str} {us : List Value}, Vals (ws.map V.str) us → StrsAre us ws
  | [], _, r => by cases r; exact .nil
  | y :: ws, _, r => by
    rw [List.map_cons] at r
    cases r with
    | cons a b => obtain ⟨t, rfl⟩ := a; exact .cons y t (texts_of_vals b)
theorem cr_setS (hc : X.calm = true) : CallR X (.type "set") (rSetS X) := by
  intro pins s σ H xs us Q I r ⟨l, ws, e, held, few, q⟩
  subst e
  obtain ⟨u, rfl, rx⟩ := r.one
  cases rx
  obtain ⟨its, rv, pl, hz⟩ := I.list held
  refine set_texts ws (I.ok.hd hc) pl.isList (texts_of_vals rv) (Nat.lt_of_le_of_lt (show ws.length + 1 ≤ 4000 by omega) (by decide)) fun h tk c a1 _ a3 => ?_
  exact ⟨.ref s.heap.objs.size, upd H s.heap.objs.size (SetSO X.prog X.w s.heap.objs.size (fun j => decide (j ∈ ws)) c), I.laid (t' := tk) a3 (Nat.le_refl _) (setSO_new a1), rfl, q _ c (I.hok.fresh (Nat.le_refl _))⟩
def rSortSS (X : Cx) : List V → Hp → VK → Prop := fun xs H Q => ∃ (a : Addr) (S : Str → Bool) (n : Nat), xs = [V.ref a] ∧ H a = some (SetSO X.prog X.w a S n) ∧
  ∀ (bs : List Str) (p : Addr), bs.Nodup → (∀ y, y ∈ bs ↔ S y = true) → H p = none → Q (.ref p) (upd H p (.lst ((bs.mergeSort sLe).map V.str)))
theorem vals_tx : ∀ {out : List Value} {ms : List Str}, EachIs IsTx out ms → Vals (ms.map V.str) out
  | _, _, .nil => .nil
  | _, _, .cons ⟨t, e⟩ r => by subst e; exact .cons ⟨t, rfl⟩ (vals_tx r)
theorem cr_sortSS (hc : X.calm = true) (hu : X.A.units + 100 < cLine) : CallR X (.builtin "sorted") (rSortSS X) := by
  intro pins s σ H xs us Q I r ⟨a, S, n, e, ha, q⟩
  subst e
  obtain ⟨u, rfl, rx⟩ := r.one
  cases rx
  obtain ⟨es, t, G, mem, size⟩ : SetG (PySem.strKind X.prog X.w) s.heap a S n := (I.hok a _ ha).1
  obtain ⟨o, ep, lies, exact_, dat⟩ := G.obj
  refine Calls.call_function_entry kind_sorted plain_sorted entry_sorted (args_sorted1 _) ?_
  unfold Builtin.«sorted»
  refine wpAny_bind (m := checkCount "sorted" 1 1 _) (wpAny_pure (wpAny_bind (collect_set (A := X.A.in1) (I.ok.hd hc) ⟨o, lies, exact_.1, dat⟩ G.tab.fits G.tab.few G.tab.ris G.tab.led fun s1 out kp hz eg eo pm => ?_)))
  have tex : ∀ v ∈ es.toList.map (·.2), ∃ y t, v = Value.str y t := fun v hv => by
    obtain ⟨e, he, rfl⟩ := List.mem_map.mp hv
    obtain ⟨⟨k, hk, _⟩, _⟩ := G.all e he
    obtain ⟨t, z⟩ := Value.isStrOf_shape hk
    exact ⟨k, t, z⟩
  obtain ⟨bs, each, inBs⟩ := tx_list fun v hv => tex v (pm.mem_iff.mp hv)
  have lone : (es.toList.map (·.2)).Pairwise fun u v => ∀ k, (PySem.strKind X.prog X.w).is k u = true → (PySem.strKind X.prog X.w).is k v = true → False := List.pairwise_map.mpr G.apart
  have nd : bs.Nodup := tx_nodup (P := X.prog) (w := X.w) each ((pm.pairwise_iff fun h k p q => h k q p).mpr lone)
  have memS : ∀ y, y ∈ bs ↔ S y = true := fun y => by
    rw [inBs y, mem y]
    constructor
    · rintro ⟨t, ht⟩
      obtain ⟨e, he, z⟩ := List.mem_map.mp (pm.mem_iff.mp ht)
      exact ⟨e, he, by rw [z]; exact strKind_is _ _ _ _⟩
    · rintro ⟨e, he, z⟩
      obtain ⟨t, z⟩ := Value.isStrOf_shape z
      exact ⟨t, pm.mem_iff.mpr (List.mem_map.mpr ⟨e, he, z⟩)⟩
  have few : out.length < scanBound := by rw [pm.length_eq, List.length_map, Array.length_toList]; exact G.tab.few
  have line : out.length ≤ sizeLine := Nat.le_trans (Nat.le_of_lt few) (by decide)
  have bl : bs.length = out.length := each.length.symm
  refine wpAny_bind (wpAny_newList ?_ line)
  have fresh0 : (s1.heap.push (seqObj "list" out.toArray 0)).get? s1.heap.objs.size = some (seqObj "list" out.toArray 0) := Heap.get?_push_size _ rfl
  have rds : EachIs (fun (v : Value) (y : Str) => ∃ as, Reads (s1.heap.push (seqObj "list" out.toArray 0)) v (PyData.str y) as ∧ s1.heap.objs.size ∉ as) out bs := by
    clear nd memS inBs lone few line bl fresh0 pm
    generalize s1.heap.push (seqObj "list" out.toArray 0) = hh
    induction each with
    | nil => exact .nil
    | cons h _ ih => obtain ⟨t, rfl⟩ := h; exact .cons ⟨[], .str _ _, by simp⟩ ih
  refine wpAny_bind (wpAny_holding (list_sort_data (a := s1.heap.objs.size) (R := IsTx) (enc := PyData.str) fresh0 each rds (AllAlike.of fun _ _ => rfl) (Sortable.others fun b => ⟨(fun z => nomatch z), fun _ z => nomatch z⟩) (by rw [bl]; exact line) (fun y _ => ?_) fun out2 lo each2 => ?_))
  · show X.A.units + 1 + 1 + PyData.depth (.str y) < cLine
    simp only [PyData.depth]; omega
  rw [sLe_data] at each2
  have q2 := q bs s1.heap.objs.size nd memS (I.hok.fresh hz)
  have ml : (bs.mergeSort sLe).length = out2.length := each2.length.symm
  have len2 : ((bs.mergeSort sLe).map V.str).length ≤ sizeLine := by rw [List.length_map, ml, lo, bl]; exact line
  generalize bs.mergeSort sLe = ms at each2 q2 len2
  obtain ⟨c2, hc2⟩ := sortedHeap_at (vs := out) (out := out2.toArray) fresh0
  have keep : ∀ (b : Addr) (u : Obj), s.heap.get? b = some u → (sortedHeap (s1.heap.push (seqObj "list" out.toArray 0)) s1.heap.objs.size out out2.toArray).get? b = some u := fun b u e => by
    have lt := Heap.lt_size (kp _ _ e)
    rw [sortedHeap_old (Nat.ne_of_lt lt) (by rw [Heap.size_push]; exact Nat.lt_succ_of_lt lt)]
    exact Heap.get?_push_of_some _ (kp _ _ e)
  have okl : ObjOk X.prog X.w (upd H s1.heap.objs.size (.lst (ms.map V.str))) (sortedHeap (s1.heap.push (seqObj "list" out.toArray 0)) s1.heap.objs.size out out2.toArray) s1.heap.objs.size (.lst (ms.map V.str)) := ⟨len2, _, c2, vals_tx each2, hc2⟩
  have J := I.call (g' := s1.gens) (t' := s1.toks) (d' := s1.drawn) (ch := []) (Un.laid keep hz (I.hok.fresh hz)) (HOk.laid I.hok keep hz okl) (by rw [eg]; exact I.bare) fun b z => nomatch z
  refine wpAny_pure ⟨_, rfl, .ref s1.heap.objs.size, _, ?_, rfl, q2⟩
  rw [← eo] at J
  exact J
/-! ### their reading -/
def sortSetXF (k : Bool) : OpN := fun bs ws S => match sortSetF k bs ws S with
  | some r => some r
  | none => match ws with
    | [w] => match (lstOf S w).bind strsW with
      | some ys => if ys.length < 4000 then some (newL k (((uniq ys).mergeSort sLe).map fun y => .dat (.str y)) S) else none
      | none => none
    | _ => none
theorem rSetA_mono {xs : List V} {H : Hp} {Q Q' : VK} (i : ∀ v H, Q v H → Q' v H) (h : rSetA X xs H Q) : rSetA X xs H Q' := by
  rcases h with ⟨l, ns, e, sq, few, q⟩ | ⟨l, ks, e, sq, r1, r2, q⟩
  · exact .inl ⟨l, ns, e, sq, few, fun a c h1 h2 => i _ _ (q a c h1 h2)⟩
  · exact .inr ⟨l, ks, e, sq, r1, r2, fun a L h1 h2 h3 => i _ _ (q a L h1 h2 h3)⟩
def rSetB (X : Cx) : List V → Hp → VK → Prop := fun xs H Q => rSetA X xs H Q ∨ rSetS X xs H Q
theorem cr_setB (hc : X.calm = true) (hu : X.A.units + 100 < cLine) : CallR X (.type "set") (rSetB X) := by
  intro pins s σ H xs us Q I r h
  rcases h with h | h
  · exact cr_setA hc hu pins s σ H xs us Q I r h
  · exact cr_setS hc pins s σ H xs us Q I r h
def rSortB (X : Cx) : List V → Hp → VK → Prop := fun xs H Q => rSortA X xs H Q ∨ rSortSS X xs H Q
theorem cr_sortB (hc : X.calm = true) (hu : X.A.units + 100 < cLine) : CallR X (.builtin "sorted") (rSortB X) := by
  intro pins s σ H xs us Q I r h
  rcases h with h | h
  · exact cr_sortA hc hu pins s σ H xs us Q I r h
  · exact cr_sortSS hc hu pins s σ H xs us Q I r h
end
section
variable {X : Cx} {g : Gx} {B : WX} {bs : List Nat} {ρ : List Addr} {F N H : Hp} {S : Store} {σ : L2.St}
theorem isAll_strs {K : PySem.W.Frag} : ∀ ys : List Str, IsAll K ρ F (ys.map V.str) (ys.map fun y => W.dat (.str y))
  | [] => .nil
  | y :: ys => .cons (.dat (.str y)) (isAll_strs ys)
theorem set_sortedX (hK : g.K = X.K) {k : Bool} {xs : List V} {Q : VK} (h : rdN g (sortSetXF k) xs H Q) : rSetB X xs H fun v H1 => rSortB X [v] H1 Q := by
  obtain ⟨bs, ρ, F, N, S, ws, s, l, p⟩ := h
  unfold sortSetXF at p
  cases hF : sortSetF k bs ws S with
  | some r =>
    rw [hF] at p
    exact .inl (rSetA_mono (fun _ _ z => .inl z) (set_sorted hK ⟨bs, ρ, F, N, S, ws, s, l, by rw [hF]; exact p⟩))
  | none =>
    rw [hF] at p
    dsimp only at p
    split at p
    · rename_i w
      obtain ⟨v, rfl, r⟩ := all_one l
      split at p
      · rename_i ys h0
        split at p
        · rename_i few
          obtain ⟨zs, h2, h5⟩ := Option.bind_eq_some_iff.mp h0
          obtain ⟨a, vs, rfl, q1, l1⟩ := lst_of s r h2
          have ev := strs_is l1 h5
          subst ev
          refine .inr ⟨a, ys, rfl, hK ▸ q1, few, fun b c hb => .inr ⟨b, _, c, rfl, upd_same, fun ms p0 nd mem hp => ?_⟩⟩
          have e : ms.mergeSort sLe = (uniq ys).mergeSort sLe := strs_perm ((List.perm_ext_iff_of_nodup nd (uniq_nodup ys)).mpr fun x => by rw [mem, uniq_mem, decide_eq_true_iff])
          rw [e]
          exact new_ok (s.heap (same_new hb)) hp (isAll_strs _) fun ρ' F' H2 v2 gr s3 r3 => p ρ' F' H2 v2 gr s3 r3
        · exact p.elim
      · exact p.elim
    · exact p.elim
theorem re_sortSetX {k : Bool} {e : Expr} {ms : M (List W)} {p p2 q pos : Pos} (hK : g.K = X.K) (hc : X.calm = true) (hu : X.A.units + 100 < cLine) (ha : PA X [e] (rdA g B ms)) (hg : Gl X "sorted") (hm : X.mg "sorted" = none) (hv : bootBuiltins "sorted" = some (.builtin "sorted")) (hg2 : Gl X "set") (hm2 : X.mg "set" = none) (hv2 : bootBuiltins "set" = some (.type "set"))
    (he : starEach [e] X.env = (false, eval e X.env) :: starEach [] X.env := by rfl) (hpl : (backTo q (starEach ([] : List Expr) X.env)).any (·.1) = false := by rfl)
    (he2 : starEach [.Call (.Name "set" p2) [e] [] q] X.env = (false, eval (.Call (.Name "set" p2) [e] [] q) X.env) :: starEach [] X.env := by rfl) (hpl2 : (backTo pos (starEach ([] : List Expr) X.env)).any (·.1) = false := by rfl) :
    PE X (.Call (.Name "sorted" p) [.Call (.Name "set" p2) [e] [] q] [] pos) (rd g B (mCB (sortSetXF k) ms)) :=
  (pe_callB (cr_sortB hc hu) hg hm hv (pa_cons (pe_callTy (cr_setB hc hu) hg2 hm2 hv2 ha (by decide) (by decide) he hpl) pa_nil he2) (by decide) (by decide) he2 hpl2).imp fun σ H Q ⟨bs, ρ, F, N, env, S, s, e, p⟩ => by
    refine ⟨bs, ρ, F, N, env, S, s, e, (Post.bind p).imp fun x H1 ⟨ρ1, F1, wx, S1, g1, s1, r1, p1⟩ => ?_⟩
    exact set_sortedX hK ⟨bs, ρ1, F1, N, S1, wx, s1, r1, post_op p1⟩
end
end Rf

namespace Rf
open PySem PySem.Spec L2 PyProof.Rows

/-! ### ranges as values -/
abbrev rgN (i j d : Int) : Nat := (Builtin.Range.rangeSize i j d).toNat
def mRngV3 (ms : M (List W)) : M W := fun bs env S => (ms bs env S).bind fun ws S1 => match ws with
  | [.dat (.int i), .dat (.int j), .dat (.int d)] => if RgC i j d (rgN i j d) then .ok (.rg i j d) S1 else .stuck
  | _ => .stuck
def mRngV2 (ms : M (List W)) : M W := fun bs env S => (ms bs env S).bind fun ws S1 => match ws with
  | [.dat (.int i), .dat (.int j)] => .ok (.rg i j 1) S1
  | _ => .stuck
def mItR (m : M W) : M Iter := fun bs env S => (m bs env S).bind fun w S1 => match w with
  | .rg i j d => if RgC i j d (rgN i j d) then .ok (.items (stepW i d (rgN i j d))) S1 else .stuck
  | _ => .stuck
section
variable {X : Cx} {tg : Expr} {g : Gx} {B : WX} {a b c e : Expr} {m : M W} {ms : M (List W)} {p pos : Pos}
theorem range_ok {P : Program} {w : World} {H : Hp} {h : Heap} {r : Addr} {i j d : Int} (x : RangeAt r i j d h) : ObjOk P w H h r (.ext (RangeAt r i j d)) := by
  obtain ⟨t, t', t'', e⟩ := x
  exact ⟨⟨t, t', t'', e⟩, ⟨_, e⟩, fun h1 h2 ⟨t, t', t'', e⟩ k => ⟨t, t', t'', k _ e⟩⟩
theorem range_laid {pins : List (Addr × Obj)} {σ : L2.St} {H1 : Hp} {s1 : Shared} {Q : VK} {i j d : Int} {t t' t'' tk : Tok} (I1 : Inv X pins σ H1 s1)
    (q : ∀ r, H1 r = none → Q (.ref r) (upd H1 r (.ext (RangeAt r i j d)))) : EP X pins σ Q (.ref s1.heap.objs.size) { s1 with heap := s1.heap.push { cls := .type "range", data := .fields #[.int i t, .int j t', .int d t''] }, toks := tk } :=
  ⟨.ref s1.heap.objs.size, _, I1.laid (t' := tk) (fun b o e => Heap.get?_push_of_some _ e) (Nat.le_refl _) (range_ok ⟨t, t', t'', Heap.get?_push_size _ rfl⟩), rfl, q _ (I1.hok.fresh (Nat.le_refl _))⟩
theorem rgV_post {bs : List Nat} {ρ1 : List Addr} {F1 N H1 : Hp} {S1 : Store} {σ : L2.St} {Q : VK} {i j d : Int} (s1 : Sim g bs ρ1 F1 N S1 H1) (p1 : Post g B (RW g) bs ρ1 F1 N σ Q (.ok (.rg i j d) S1)) : ∀ r, H1 r = none → Q (.ref r) (upd H1 r (.ext (RangeAt r i j d))) := fun r hr => by
  obtain ⟨s2, g2⟩ := s1.frozen (o := .ext (RangeAt r i j d)) hr
  exact p1 ρ1 _ _ _ g2 s2 (.rg upd_same)
theorem re_range3 (hg : Gl X "range") (hm : X.mg "range" = none) (ha : PA X [a, b, c] (rdA g B ms)) (hs : starEach [a, b, c] X.env = (false, eval a X.env) :: starEach [b, c] X.env := by rfl) (hpl : (backTo pos (starEach [b, c] X.env)).any (·.1) = false := by rfl) :
    PE X (.Call (.Name "range" p) [a, b, c] [] pos) (rd g B (mRngV3 ms)) := by
  refine ⟨fun pins s σ H Q I ⟨bs, ρ, F, N, env, S, sim, er, post⟩ => ?_⟩
  refine Call_ (ld_blt I hg hm boot_range (PyProof.Rows.callWith_type1 (thn (ha.run pos pins s σ H _ I ⟨bs, ρ, F, N, env, S, sim, er, Post.bind (R1 := RWs g) post⟩) fun us s1 ⟨vs, H1, I1, r1, ρ1, F1, ws, S1, g1, sim1, l1, p1⟩ => ?_) hs hpl))
  split at p1
  · rename_i i j d
    split at p1
    · rename_i ok
      obtain ⟨v, u, w, rfl, r2, r3, r4⟩ := all_three l1
      rw [is_int r2, is_int r3, is_int r4] at r1
      cases r1 with
      | cons x1 rr => cases rr with
        | cons x2 rr => cases rr with
          | cons x3 rr =>
            cases rr
            obtain ⟨t, rfl⟩ := x1
            obtain ⟨t', rfl⟩ := x2
            obtain ⟨t'', rfl⟩ := x3
            exact call_range_3 ok.1 (range_laid I1 (rgV_post sim1 p1)) (.inl (PyProof.noPylong_small ok.2.1))
    · exact p1.elim
  · exact p1.elim
/-- for x in a name that holds a range -/
theorem ri_rg (h : PE X e (rd g B m)) : PI X tg e (rdI g B (mItR m)) := by
  refine ⟨fun pins s σ H R I ⟨bs, ρ, F, N, env, S, sim, er, post⟩ => thn (h.run pins s σ H _ I ⟨bs, ρ, F, N, env, S, sim, er, Post.iter (R := RW g) post⟩) fun v s1 ⟨x, H1, I1, rx, ρ1, F1, wx, S1, g1, sim1, r1, p1⟩ => ?_⟩
  split at p1
  · rename_i i j d
    split at p1
    · rename_i ok
      cases r1 with
      | @rg r _ _ _ at_ =>
        obtain rfl : v = Value.ref r := rx
        obtain ⟨t, t', t'', there⟩ : RangeAt r i j d s1.heap := (I1.hok r _ (sim1.ex _ _ at_)).1
        refine wpAny_pyIter_range (show IsRange s1.heap r i j d t t' t'' from there) ok.2.2.1 ?_
        refine pi_one (tk := s1.toks) I1 _ (turn_rangeC _ i d (rgN i j d)) ?_ (p1 ρ1 F1 H1 _ (Grow.refl _ _) sim1 walk_step)
        have e1 : i + ((0 : Nat) : Int) * d = i := by simp
        have e2 : ((rgN i j d : Nat) : Int) - ((0 : Nat) : Int) = Builtin.Range.rangeSize i j d := by rw [ok.2.2.2]; simp
        show IsRangeIter _ _ (i + ((0 : Nat) : Int) * d) (((rgN i j d : Nat) : Int) - ((0 : Nat) : Int)) d
        rw [e1, e2]
        exact Heap.get?_push_size _ rfl
    · exact p1.elim
  · exact p1.elim
end
end Rf

namespace PySem
namespace ExInvalidNumber
open PySem.W PySem.Calls PyProof.Rows PySem.HandSPX
/-! ### the text of __init__ -/
def iA (p1 p2 : Pos) : Arguments := { posonlyargs := [], args := [{ arg := "self", annotation := none, pos := p1 }, { arg := "given", annotation := none, pos := p2 }], vararg := none, kwonlyargs := [], kw_defaults := [], kwarg := none, defaults := [] }
def iB (q1 q2 q3 q4 : Pos) : List Stmt := [.Assign [.Attribute (.Name "self" q1) "given" q2] (.Name "given" q3) q4]
def iS : Scope := { kind := .function, names := [(PySem.Str.ofString "self", .local), (PySem.Str.ofString "given", .local)], isGenerator := false, isCoroutine := false, more := [] }
/-- what the written part says of Low, at C, and of its __init__, at fI -/
structure Txt (K : Frag) (mg : Str → Option Value) (C fI : Addr) : Prop where
  gC : mg "InvalidNumber" = some (.ref C)
  cls : ∃ nm q N bs bm sn sub ab col dd k0 k1 k2 k3 k5, K.lookup C = some (excClassObj nm q C N bs bm true sn sub ab col dd k0 k1 k2 k3 k5 "IndexError.__new__") ∧ (∀ Y : String, bm.contains (.type Y) = ([.type "IndexError", .type "LookupError", .type "Exception", .type "BaseException", .type "object"] : List Value).contains (.type Y)) ∧ PySem.RfX.MroOk bm
  sa : findIn K (.ref C) "__setattr__" = some (some (.builtin "object.__setattr__"))
  ga : findIn K (.ref C) "__getattribute__" = some (some (.builtin "BaseException.__getattribute__"))
  gg : findIn K (.ref C) "__getattr__" = some none
  noN : findIn K (.ref C) "given" = some none
  iC : findIn K (.ref C) "__init__" = some (some (.ref fI))
  tC : typeIn K (.ref fI) = some (.type "function")
  kC : keepIn K (.ref C) = true
  exC : subIn K (.ref C) (.type "BaseException") = some true
  tyC : typeIn K (.ref C) = some (.type "type")
  hdC : hasDictIn K C = true
  te : exmOne K (.ref C) (.ref C) = some true
  fn : ∃ (oc : Value) (od : Option Addr) (doc pm : Value) (an : Option Addr) (cdv ct : Value) (osl : Array (Option Value)) (p1 p2 q1 q2 q3 q4 : Pos),
    K.lookup fI = some ⟨oc, od, .func (fnOf "__init__" "InvalidNumber.__init__" (iA p1 p2) (iB q1 q2 q3 q4) iS .none .none doc pm an cdv ct), osl⟩ ∧ codeIn K cdv "InvalidNumber.__init__" = true
theorem one_size (v : Value) : [v].length ≤ sizeLine := by
  rw [sizeLine_eq]
  exact (by decide : 1 ≤ 16777216)
theorem ldC {M : Model} {s : Shared} {name : Str} {scope : Scope} {L a : Addr} {cd : Value} {m : Str → Option Value} {x : Str} {pos : Pos} {v : Value} {Q : Value → Shared → Prop} {A : Around} {E : Value → Shared → Prop} (hn : s.heap.Ns L m) (hv : m x = some v) (h : Q v s)
    (hk : scope.kind = .function := by rfl) (hl : (envOfC name scope L a cd).kindOf x = some .local := by rfl) (hd : (x == ("__debug__" : Str)) = false := by decide) :
    wpAny M A (eval (.Name x pos) (envOfC name scope L a cd)) Q E s := wpAny_Name (wpAny_loadName_local hk hl hn hv h) hd
/-- what __init__ leaves of a fresh exception at x -/
structure InitEnd (h h' : Heap) (x C dx t1 : Addr) (v : Value) : Prop where
  keep : ∀ b o, b ≠ x → h.get? b = some o → h'.get? b = some o
  obj : h'.get? x = some { cls := .ref C, dict := some dx, data := .fields #[.ref t1, .none, .none, .none, .bool false, .none] }
  dbig : h.objs.size ≤ dx
  dne : dx ≠ x
  ns : h'.Ns1 dx (fun y => if y = "given" then some v else none)
/-- a made Low -/
structure OwnMade (h h' : Heap) (e C d : Addr) (v : Value) : Prop where
  keep : ∀ b o, h.get? b = some o → h'.get? b = some o
  new : h.objs.size ≤ e
  obj : ∃ oe vs, h'.get? e = some oe ∧ oe.cls = .ref C ∧ oe.dict = some d ∧ oe.data = .fields vs ∧ vs[1]? = some .none
  dbig : h.objs.size ≤ d
  dne : d ≠ e
  ns : h'.Ns1 d (fun y => if y = "given" then some v else none)
section
variable {prog : Program} {w : World} {A : Around} {E : Value → Shared → Prop} {R : Result → Shared → Prop} {s : Shared} {K : Frag} {mg : Str → Option Value} {C fI : Addr}
theorem low_init (T : Txt K mg C fI) {x t0 : Addr} {v : Value} (X : K.In s.heap) (hlim : s.heap.NoLimit) (hx : s.heap.get? x = some (excO C t0)) (hnx : K.lookup x = none) (hroom : A.depth < recursionLimit)
    (hq : ∀ h' tk dx, InitEnd s.heap h' x C dx t0 v → R (.ok (.ret .none)) { s with heap := h', toks := tk }) :
    codeAny (model prog w) A (.call (.ref fI) ⟨[.ref x, v], []⟩) R s := by
  obtain ⟨oc, od, doc, pm, an, cdv, ct, osl, p1, p2, q1, q2, q3, q4, ho, hcd⟩ := T.fn
  obtain ⟨nm, q, N, bs, bm, sn, sub, ab, col, dd, k0, k1, k2, k3, k5, hC, hct, hbm⟩ := T.cls
  have hcl : clsIn K C = some { name := nm, bases := bs, mro := .ref C :: bm, ns := N, qualname := q, hasDict := true, slotNames := sn, subclasses := sub, abstract := ab, collection := col, hasDel := false } := by unfold clsIn; rw [hC] <;> rfl
  refine Att.call_fn (binds := [("self", .ref x), ("given", v)]) X hlim ho hcd hroom (BindsTo.of_eq (by first | rfl | with_unfolding_all rfl)) (by first | rfl | decide | with_unfolding_all rfl) (fun s₁ IC => ?_) rfl rfl rfl
  obtain ⟨h₁, tk₁, rfl⟩ := IC.toInCall.same
  have k : ∀ b o, s.heap.get? b = some o → h₁.get? b = some o := IC.toInCall.keep
  have hn := IC.toInCall.ns
  have hxL : s.heap.objs.size ≠ x := Nat.ne_of_gt (Heap.lt_size hx)
  have X₁ : K.In h₁ := X.keeps k
  have hx₁ := k _ _ hx
  -- self.by = by
  show wpAny _ _ (execs _ _) _ _ _
  refine wpAny_execs_cons (plainObj_wpAny_Assign_Attribute ?_)
  refine ldC (v := v) hn (by first | rfl | with_unfolding_all rfl | kernel_rfl) (ldC (v := .ref x) hn (by first | rfl | with_unfolding_all rfl | kernel_rfl) ?_)
  refine set_plain X₁ (ox := excO C t0) (od := none) ⟨hx₁, rfl, rfl, trivial⟩ T.sa ?_
  refine PySem.RfX.fresh_store X₁ hx₁ hcl (hbm.ref C) rfl T.noN (fun h₃ tk₃ dx k₃ dn dne hx₃ hn₃ => ?_)
  show wpAny _ _ (execs _ _) _ _ _
  have z : s.heap.objs.size < h₁.objs.size := hn.lt
  exact wpAny_execs_nil (hq h₃ tk₃ dx ⟨fun b o hb e => k₃ b o hb (k b o e), hx₃, Nat.le_of_lt (Nat.lt_of_lt_of_le z dn), dne, hn₃⟩)
theorem low_made (T : Txt K mg C fI) {v : Value} (X : K.In s.heap) (hlim : s.heap.NoLimit) (hroom : A.depth + 1 < recursionLimit)
    (hq : ∀ h' tk e d, OwnMade s.heap h' e C d v → R (.ok (.ret (.ref e))) { s with heap := h', toks := tk }) :
    codeAny (model prog w) A (.call (.ref C) ⟨[v], []⟩) R s := by
  obtain ⟨nm, q, N, bs, bm, sn, sub, ab, col, dd, k0, k1, k2, k3, k5, hC, hct, hbm⟩ := T.cls
  obtain ⟨hp, g, dr, tk, os⟩ := s
  have k : ∀ b o, hp.get? b = some o → ((hp.push (kdv_tup [v])).push (excO C hp.objs.size)).get? b = some o := fun b o e => Heap.get?_push_of_some _ (Heap.get?_push_of_some _ e)
  have hget : ((hp.push (kdv_tup [v])).push (excO C hp.objs.size)).get? (hp.objs.size + 1) = some (excO C hp.objs.size) := by heap_get
  have hnx : K.lookup (hp.objs.size + 1) = none := by
    cases e : K.lookup (hp.objs.size + 1) with
    | none => rfl
    | some o =>
      have z : hp.get? (hp.objs.size + 1) = some o := X _ _ e
      exact absurd (Nat.lt_of_succ_lt (Heap.lt_size z)) (Nat.lt_irrefl _)
  refine call_own F.excBase_IndexError hct (X _ _ hC) (looks_findIn X T.iC) (fun self => bind_fn X self T.tC) (one_size v) ?_
  refine low_init (s := ⟨(hp.push (kdv_tup [v])).push (excO C hp.objs.size), g, dr, tk, os⟩) T (X.keeps k) (hlim.keeps k) hget hnx ?_ fun h' tk' dx ⟨k', hx, dn, dne, hns⟩ => ?_
  · show A.depth + 1 < recursionLimit
    exact hroom
  · have old : ∀ b o, hp.get? b = some o → h'.get? b = some o := fun b o e => k' b o (Nat.ne_of_lt (Nat.lt_succ_of_lt (Heap.lt_size e))) (k b o e)
    have z : hp.objs.size + 1 + 1 ≤ dx := by
      first
        | (simpa only [Heap.size_push] using dn)
        | exact dn
        | (have q := dn; rw [Heap.size_push, Heap.size_push] at q; exact q)
    exact ⟨rfl, hq h' tk' (hp.objs.size + 1) dx ⟨old, Nat.le_succ _, ⟨_, _, hx, rfl, rfl, rfl, rfl⟩, Nat.le_trans (Nat.le_trans (Nat.le_succ _) (Nat.le_succ _)) z, dne, hns⟩⟩
end
end ExInvalidNumber
end PySem
namespace L2
open PySem PySem.Spec PyProof.Rows
theorem relO_InvalidNumber {v : V} {v' : Value} (r : RelV v v') (f : Str) : RelO (List.lookup f [(("given" : Str), v)]) (if f = "given" then some v' else none) := by
  by_cases hw : f = "given"
  · subst hw
    rw [if_pos rfl]
    have q : List.lookup ("given" : Str) [(("given" : Str), v)] = some v := by simp [List.lookup]
    rw [q]
    exact r
  · rw [if_neg hw]
    have qw : (f == ("given" : Str)) = false := by simpa using hw
    have q2 : List.lookup f [(("given" : Str), v)] = none := by simp [List.lookup, qw]
    rw [q2]
    trivial
section
variable {X : Cx} {C fI : Addr}
/-- Low(e) -/
def tMk_InvalidNumber (C : Addr) (ta : TA) : St → Hp → XK → Prop := fun σ H Q => ta σ H fun vs H1 => ∃ v, vs = [v] ∧ ∀ d, H1 d = none → Q (.ref C) (some d) (upd H1 d (.xd [(("given" : Str), v)]))
theorem pmk_InvalidNumber {a : Expr} {ta : TA} {p pos : Pos} {k : Nat} (T : PySem.ExInvalidNumber.Txt X.K X.mg C fI) (hr : Room k X.A) (ha : PA X [a] ta) (hg : Gl X "InvalidNumber" := by rfl)
    (he : starEach (a :: []) X.env = (false, eval a X.env) :: starEach [] X.env := by rfl) (hpl : (backTo pos (starEach [] X.env)).any (·.1) = false := by rfl) :
    PMk X (.Call (.Name "InvalidNumber" p) [a] [] pos) (tMk_InvalidNumber C ta) := by
  intro pins s σ H Q I h
  refine wpAny_Call_Name_kw (ld_glob I hg T.gC ?_)
  refine PySem.W.callWith_K (h₀ := X.base) I.ok.mod.kin T.kC (thn (ha.run pos pins s σ H _ I h) fun us s1 hh => ?_) he hpl
  obtain ⟨vs, H1, I1, r1, v, ev, q1⟩ := hh
  subst ev
  refine ⟨I1.kIn, ?_⟩
  cases r1 with
  | cons rv rn =>
    rename_i v' us'
    cases rn
    show wpAny _ _ (call (.ref C) [v']) _ _ _
    have hlim := I1.nolimit
    obtain ⟨hp, g, dr, tk, os⟩ := s1
    refine wpAny_call (PySem.ExInvalidNumber.low_made T I1.kIn hlim (by have := hr.dp; omega) fun h' tk' e d M => ?_)
    show MkP X pins σ Q (.ref e) ⟨h', g, dr, tk', os⟩
    obtain ⟨oe, fv, hoe, hc, hd, hdat, h1⟩ := M.obj
    have hns := M.ns
    obtain ⟨G', g1, g2⟩ := restrict h' fun b => decide (b ≠ e)
    have gk : ∀ b, b ≠ e → G'.get? b = h'.get? b := fun b hb => g1 b (decide_eq_true hb)
    have ge : G'.get? e = none := g2 e (by simp)
    have old : ∀ b o, hp.get? b = some o → G'.get? b = some o := fun b o q => (gk b (Nat.ne_of_lt (Nat.lt_of_lt_of_le (Heap.lt_size q) M.new))).trans (M.keep b o q)
    have ob : ObjOk X.prog X.w (upd H1 d (.xd [(("given" : Str), v)])) G' d (.xd [(("given" : Str), v)]) :=
      ⟨_, hns.at (fun o q => (gk d M.dne).trans q), fun f => relO_InvalidNumber rv f⟩
    have J : Inv X pins σ (upd H1 d (.xd [(("given" : Str), v)])) ⟨G', g, dr, tk', os⟩ := I1.laid (t' := tk') old M.dbig ob
    refine ⟨e, oe, fv, ⟨G', g, dr, tk', os⟩, _, .ref C, some d, rfl, J, fun b o q => ?_, ge, hoe, ⟨hc, hd⟩, hdat, h1, ?_, rfl, I1.bare, raises_own T.exC T.tyC, q1 d (I1.hok.fresh M.dbig)⟩
    · by_cases hb : b = e
      · have q' : G'.get? b = some o := q
        rw [hb, ge] at q'; cases q'
      · exact (gk b hb).symm.trans q
    · rw [upd_ne (Ne.symm M.dne)]
      exact I1.hok.fresh M.new
/-- raise Low(e) -/
def tRaise_InvalidNumber (C : Addr) (W : WX) (ta : TA) : TS := fun _ σ H => tMk_InvalidNumber C ta σ H fun cls d H' => W cls d σ H'
theorem ps_raise_InvalidNumber {a : Expr} {ta : TA} {W : WX} {p pos pos2 : Pos} {k : Nat} (hc : X.calm = true) (T : PySem.ExInvalidNumber.Txt X.K X.mg C fI) (hr : Room k X.A) (tk : Takes X W) (ha : PA X [a] ta) (hg : Gl X "InvalidNumber" := by rfl)
    (he : starEach (a :: []) X.env = (false, eval a X.env) :: starEach [] X.env := by rfl) (hpl : (backTo pos (starEach [] X.env)).any (·.1) = false := by rfl) :
    PS X (.Raise (some (.Call (.Name "InvalidNumber" p) [a] [] pos)) none pos2) (tRaise_InvalidNumber C W ta) := ps_raise hc tk (pmk_InvalidNumber T hr ha hg he hpl)
/-- low.by, low the exception that the suite holds (at a; its class cls, its dict d) -/
def tBy_InvalidNumber (C : Addr) (a : Addr) (cls : Value) (d : Option Addr) (te : TE) : TE := fun σ H Q => te σ H fun x H1 => x = .ref a ∧ cls = .ref C ∧ ∃ (dd : Addr) (v : V), d = some dd ∧ H1 dd = some (.xd [(("given" : Str), v)]) ∧ Q v H1
end
end L2

namespace Rf
open PySem L2

/-! ### what an outcome must be: weakest preconditions over readings -/
abbrev EK := Nat → List W → Store → Prop
abbrev NoE : EK := fun _ _ _ => False
def Out.wp {α : Type} (o : Out α) (Q : α → Store → Prop) (E : EK) : Prop := match o with
  | .ok a S => Q a S
  | .ex c ws S => E c ws S
  | .stuck => False
def SO.wp (o : SO) (N : Env → Store → Prop) (R : W → Store → Prop) (B C : Env → Store → Prop) (E : Nat → List W → Env → Store → Prop) : Prop := match o with
  | .nx e S => N e S
  | .rt w S => R w S
  | .bk e S => B e S
  | .ct e S => C e S
  | .ex c ws e S => E c ws e S
  | .stuck => False
def wpo (o : Option (W × Store)) (Q : W → Store → Prop) : Prop := match o with
  | some (w, S) => Q w S
  | none => False
theorem Out.wp.mono {α : Type} {o : Out α} {Q Q' : α → Store → Prop} {E E' : EK} (h : o.wp Q E) (i : ∀ a S, Q a S → Q' a S) (j : ∀ c ws S, E c ws S → E' c ws S) : o.wp Q' E' := by
  cases o with
  | ok a S => exact i _ _ h
  | ex c ws S => exact j _ _ _ h
  | stuck => exact h
theorem Out.wp.imp {α : Type} {o : Out α} {Q Q' : α → Store → Prop} {E : EK} (h : o.wp Q E) (i : ∀ a S, Q a S → Q' a S) : o.wp Q' E := h.mono i fun _ _ _ z => z
theorem Out.wp.use {α : Type} {o : Out α} {Q Q' : α → Store → Prop} {E : EK} (h : o.wp Q NoE) (i : ∀ a S, Q a S → Q' a S) : o.wp Q' E := h.mono i fun _ _ _ z => z.elim
theorem wp_eq {α : Type} {o : Out α} {a : α} {S : Store} {Q : α → Store → Prop} {E : EK} (h : o = .ok a S) (q : Q a S) : o.wp Q E := by rw [h]; exact q
theorem eq_of_wp {α : Type} {o : Out α} {a : α} {S : Store} (h : o.wp (fun b S' => b = a ∧ S' = S) NoE) : o = .ok a S := by
  cases o with
  | ok b T => obtain ⟨rfl, rfl⟩ := h; rfl
  | ex c ws S => exact h.elim
  | stuck => exact h.elim
theorem ok_of_wp {α : Type} {o : Out α} {Q : α → Store → Prop} (h : o.wp Q NoE) : ∃ a S, o = .ok a S ∧ Q a S := by
  cases o with
  | ok b T => exact ⟨b, T, rfl, h⟩
  | ex c ws S => exact h.elim
  | stuck => exact h.elim
theorem bind_wp {α β : Type} {o : Out α} {f : α → Store → Out β} {Q : β → Store → Prop} {E : EK} (h : o.wp (fun a S => (f a S).wp Q E) E) : (o.bind f).wp Q E := by
  cases o with
  | ok a S => exact h
  | ex c ws S => exact h
  | stuck => exact h
theorem so_wp {α : Type} {o : Out α} {env : Env} {f : α → Store → SO} {N R B C E} (h : o.wp (fun a S => (f a S).wp N R B C E) fun c ws S => E c ws env S) : (o.so env f).wp N R B C E := by
  cases o with
  | ok a S => exact h
  | ex c ws S => exact h
  | stuck => exact h
theorem then_wp {o : SO} {f : Env → Store → SO} {N R B C E} (h : o.wp (fun e S => (f e S).wp N R B C E) R B C E) : (o.andThen f).wp N R B C E := by
  cases o <;> exact h

/-! ### expressions -/
section
variable {α : Type} {bs : List Nat} {env : Env} {S : Store} {E : EK} {m ma mb mc : M W} {ms : M (List W)} {i : Nat} {t u : M Bool}
theorem wp_var {w : W} {Q : W → Store → Prop} (h : env[i]? = some (some w)) (q : Q w.weak S) : (mVar i bs env S).wp Q E := by unfold mVar; rw [h]; exact q
theorem wp_varD {d : PyData} {Q : W → Store → Prop} (h : env[i]? = some (some (.dat d))) (q : Q (.dat d) S) : (mVar i bs env S).wp Q E := wp_var h q
theorem wp_varL {n : Nat} {Q : W → Store → Prop} (h : env[i]? = some (some (.loc n))) (q : Q (.loc n) S) : (mVar i bs env S).wp Q E := wp_var h q
theorem wp_varLw {ws : List W} {Q : W → Store → Prop} (h : env[i]? = some (some (.lw ws))) (q : Q (.lw ws) S) : (mVar i bs env S).wp Q E := wp_var h q
theorem wp_con {d : PyData} {Q : W → Store → Prop} (q : Q (.dat d) S) : (mCon d bs env S).wp Q E := q
theorem wp_bin {f : Op2} {Q : W → Store → Prop} (h : (ma bs env S).wp (fun x S1 => (mb bs env S1).wp (fun y S2 => wpo (f bs x y S2) Q) E) E) : (mBin f ma mb bs env S).wp Q E :=
  bind_wp (h.imp fun x S1 h1 => bind_wp (h1.imp fun y S2 h2 => by
    show Out.wp (match f bs x y S2 with | some (w, S3) => Out.ok w S3 | none => .stuck) Q E
    unfold wpo at h2
    split at h2
    · exact h2
    · exact h2.elim))
/-- a truth -/
def isB (w : W) (Q : Bool → Prop) : Prop := match w with
  | .dat (.bool b) => Q b
  | _ => False
theorem isB_mk {b : Bool} {Q : Bool → Prop} (q : Q b) : isB (.dat (.bool b)) Q := q
theorem wp_B {Q : Bool → Store → Prop} (h : (m bs env S).wp (fun w S1 => isB w fun b => Q b S1) E) : (mB m bs env S).wp Q E := bind_wp (h.imp fun w S1 h1 => by
  unfold isB at h1
  split at h1
  · exact h1
  · exact h1.elim)
theorem wp_not {Q : Bool → Store → Prop} (h : (t bs env S).wp (fun b S1 => Q (!b) S1) E) : (mNot t bs env S).wp Q E := bind_wp h
theorem wp_if {n1 n2 : M α} {Q : α → Store → Prop} (h : (t bs env S).wp (fun b S1 => (b = true → (n1 bs env S1).wp Q E) ∧ (b = false → (n2 bs env S1).wp Q E)) E) : (mIf t n1 n2 bs env S).wp Q E := bind_wp (h.imp fun b S1 h1 => by
  show Out.wp (if b = true then _ else _) Q E
  cases b with
  | true => exact h1.1 rfl
  | false => exact h1.2 rfl)
theorem wp_ok {a : α} {Q : α → Store → Prop} (q : Q a S) : (Out.ok a S).wp Q E := q
theorem wp_yes {Q : Bool → Store → Prop} (q : Q true S) : (mYes bs env S).wp Q E := q
theorem wp_tru {Q : Bool → Store → Prop} (h : (m bs env S).wp (fun w S1 => ∃ b, truW S1 w = some b ∧ Q b S1) E) : (mTru m bs env S).wp Q E := bind_wp (h.imp fun w S1 ⟨b, e, q⟩ => by
  show Out.wp (match truW S1 w with | some b => Out.ok b S1 | none => .stuck) Q E
  rw [e]; exact q)
theorem wp_andV {Q : W → Store → Prop} (h : (ma bs env S).wp (fun w S1 => ∃ b, truW S1 w = some b ∧ (b = true → (mb bs env S1).wp Q E) ∧ (b = false → Q w S1)) E) : (mAndV ma mb bs env S).wp Q E := bind_wp (h.imp fun w S1 ⟨b, e, q⟩ => by
  show Out.wp (match truW S1 w with | some b => if b = true then mb bs env S1 else Out.ok w S1 | none => .stuck) Q E
  rw [e]
  cases b with
  | true => exact q.1 rfl
  | false => exact q.2 rfl)
theorem wp_orV {Q : W → Store → Prop} (h : (ma bs env S).wp (fun w S1 => ∃ b, truW S1 w = some b ∧ (b = true → Q w S1) ∧ (b = false → (mb bs env S1).wp Q E)) E) : (mOrV ma mb bs env S).wp Q E := bind_wp (h.imp fun w S1 ⟨b, e, q⟩ => by
  show Out.wp (match truW S1 w with | some b => if b = true then Out.ok w S1 else mb bs env S1 | none => .stuck) Q E
  rw [e]
  cases b with
  | true => exact q.1 rfl
  | false => exact q.2 rfl)
theorem wp_notV {Q : W → Store → Prop} (h : (ma bs env S).wp (fun w S1 => ∃ b, truW S1 w = some b ∧ Q (.bl (!b)) S1) E) : (mNotV ma bs env S).wp Q E := bind_wp (h.imp fun w S1 ⟨b, e, q⟩ => by
  show Out.wp (match truW S1 w with | some b => Out.ok (W.bl (!b)) S1 | none => .stuck) Q E
  rw [e]; exact q)
theorem wp_neg {Q : W → Store → Prop} (h : (ma bs env S).wp (fun w S1 => ∃ i, w = .dat (.int i) ∧ Q (.dat (.int (-i))) S1) E) : (mNeg ma bs env S).wp Q E := bind_wp (h.imp fun w S1 ⟨i, e, q⟩ => by subst e; exact q)
theorem wp_chain {f f' : Op2} {Q : W → Store → Prop} (h : (ma bs env S).wp (fun x S1 => (mb bs env S1).wp (fun y S2 => wpo (f bs x y S2) fun w S3 => isB w fun b => (b = true → (mc bs env S3).wp (fun z S4 => wpo (f' bs y z S4) Q) E) ∧ (b = false → Q (.dat (.bool false)) S3)) E) E) : (mChain f f' ma mb mc bs env S).wp Q E :=
  bind_wp (h.imp fun x S1 h1 => bind_wp (h1.imp fun y S2 h2 => by
    show Out.wp (match f bs x y S2 with | some (.dat (.bool b), S3) => _ | _ => .stuck) Q E
    unfold wpo at h2
    split at h2
    · rename_i w S3 e
      unfold isB at h2
      split at h2
      · rename_i b
        rw [e]
        cases b with
        | true =>
          refine bind_wp ((h2.1 rfl).imp fun z S4 h3 => ?_)
          show Out.wp (match f' bs y z S4 with | some (w, S5) => Out.ok w S5 | none => .stuck) Q E
          unfold wpo at h3
          split at h3
          · exact h3
          · exact h3.elim
        | false => exact h2.2 rfl
      · exact h2.elim
    · exact h2.elim))
theorem wp_nil {Q : List W → Store → Prop} (q : Q [] S) : (mNil bs env S).wp Q E := q
theorem wp_cons {Q : List W → Store → Prop} (h : (m bs env S).wp (fun w S1 => (ms bs env S1).wp (fun ws S2 => Q (w :: ws) S2) E) E) : (mCons m ms bs env S).wp Q E := bind_wp (h.imp fun w S1 h1 => bind_wp h1)
/-- what follows a display, a comprehension -/
def TP (Q : W → Store → Prop) (ws : List W) (S : Store) : Prop := ws.length ≤ 100000 ∧ Q (mkTup ws) S
def LP (k : Bool) (Q : W → Store → Prop) (ws : List W) (S : Store) : Prop := ws.length ≤ 100000 ∧ Q (newL k ws S).1 (newL k ws S).2
def NL (k : Bool) (Q : W → Store → Prop) (ws : List W) (S : Store) : Prop := Q (newL k ws S).1 (newL k ws S).2
theorem wp_tup {Q : W → Store → Prop} (h : (ms bs env S).wp (fun ws S1 => TP Q ws S1) E) : (mTup ms bs env S).wp Q E := bind_wp (h.imp fun ws S1 ⟨hl, q⟩ => by
  show Out.wp (if ws.length ≤ 100000 then Out.ok (mkTup ws) S1 else .stuck) Q E
  rw [if_pos hl]; exact q)
theorem wp_lst {k : Bool} {Q : W → Store → Prop} (h : (ms bs env S).wp (fun ws S1 => LP k Q ws S1) E) : (mLst k ms bs env S).wp Q E := bind_wp (h.imp fun ws S1 ⟨hl, q⟩ => by
  show Out.wp (if ws.length ≤ 100000 then Out.ok (newL k ws S1).1 (newL k ws S1).2 else .stuck) Q E
  rw [if_pos hl]; exact q)
theorem tp_dat {ws : List W} {ds : List PyData} {Q : W → Store → Prop} (hl : Nat.ble ws.length 100000 = true) (h : allDat ws = some ds) (q : Q (.dat (.tuple ds)) S) : TP Q ws S := by
  refine ⟨Nat.le_of_ble_eq_true hl, ?_⟩
  unfold mkTup; rw [h]; exact q
theorem lp_dat {ws : List W} {ds : List PyData} {Q : W → Store → Prop} (hl : Nat.ble ws.length 100000 = true) (h : allDat ws = some ds) (q : Q (.dat (.list ds)) S) : LP false Q ws S := by
  refine ⟨Nat.le_of_ble_eq_true hl, ?_⟩
  show Q (mkLst ws) S
  unfold mkLst; rw [h]; exact q
theorem lp_cell {ws : List W} {Q : W → Store → Prop} (hl : Nat.ble ws.length 100000 = true) (q : Q (.loc S.length) (S ++ [.lst ws])) : LP true Q ws S := ⟨Nat.le_of_ble_eq_true hl, q⟩
theorem wp_CB {f : OpN} {Q : W → Store → Prop} (h : (ms bs env S).wp (fun ws S1 => wpo (f bs ws S1) Q) E) : (mCB f ms bs env S).wp Q E := bind_wp (h.imp fun ws S1 h1 => by
  show Out.wp (match f bs ws S1 with | some (w, S2) => Out.ok w S2 | none => .stuck) Q E
  unfold wpo at h1
  split at h1
  · exact h1
  · exact h1.elim)
theorem wp_call {f : FnT} {Q : W → Store → Prop} (h : (ms bs env S).wp (fun ws S1 => (f bs ws S1).wp Q E) E) : (mCall f ms bs env S).wp Q E := bind_wp h
theorem wp_mt {T : MTy} {f : OpM} {mo : M W} {Q : W → Store → Prop} (h : (mo bs env S).wp (fun w S1 => wTy T w S1 = true ∧ (ms bs env S1).wp (fun ws S2 => wpo (f bs w ws S2) Q) E) E) : (mMt T f mo ms bs env S).wp Q E := bind_wp (h.imp fun w S1 ⟨ht, h1⟩ => by
  show Out.wp (if wTy T w S1 = true then _ else _) Q E
  rw [if_pos ht]
  refine bind_wp (h1.imp fun ws S2 h2 => ?_)
  show Out.wp (match f bs w ws S2 with | some (r, S3) => Out.ok r S3 | none => .stuck) Q E
  unfold wpo at h2
  split at h2
  · exact h2
  · exact h2.elim)
theorem wp_isi {T : String} {Q : W → Store → Prop} (h : (m bs env S).wp (fun w S1 => ∃ u, isiW T S1 w = some u ∧ Q u S1) E) : (mIsi T m bs env S).wp Q E := bind_wp (h.imp fun w S1 ⟨u, e, q⟩ => by
  show Out.wp (match isiW T S1 w with | some u => Out.ok u S1 | none => .stuck) Q E
  rw [e]; exact q)
theorem wp_noPart {Q : Option Int → Store → Prop} (q : Q none S) : (mNoPart bs env S).wp Q E := q
theorem wp_part {Q : Option Int → Store → Prop} (h : (m bs env S).wp (fun w S1 => ∃ i, w = .dat (.int i) ∧ Q (some i) S1) E) : (mPart m bs env S).wp Q E := bind_wp (h.imp fun w S1 ⟨i, e, q⟩ => by subst e; exact q)
theorem wp_sl {f : OpSl} {ml mh : M (Option Int)} {Q : W → Store → Prop} (h : (ma bs env S).wp (fun w S1 => (ml bs env S1).wp (fun l S2 => (mh bs env S2).wp (fun h S3 => wpo (f w l h S3) Q) E) E) E) : (mSl f ma ml mh bs env S).wp Q E :=
  bind_wp (h.imp fun w S1 h1 => bind_wp (h1.imp fun l S2 h2 => bind_wp (h2.imp fun h S3 h3 => by
    show Out.wp (match f w l h S3 with | some (r, S4) => Out.ok r S4 | none => .stuck) Q E
    unfold wpo at h3
    split at h3
    · exact h3
    · exact h3.elim)))
theorem wp_dic0f {Q : W → Store → Prop} (q : Q (.dat (.dict [])) S) : (mDic0 false bs env S).wp Q E := q
theorem wp_rng1 {Q : Iter → Store → Prop} (h : (ms bs env S).wp (fun ws S1 => ∃ n, ws = [.dat (.int n)] ∧ (n < 4611686018427387904 ∧ -4611686018427387904 ≤ n) ∧ Q (.items (rangeW 0 n)) S1) E) : (mRng1 ms bs env S).wp Q E := bind_wp (h.imp fun ws S1 ⟨n, e, hl, q⟩ => by
  subst e
  show Out.wp (@ite _ (n < 4611686018427387904 ∧ -4611686018427387904 ≤ n) (rdec n) (Out.ok (Iter.items (rangeW 0 n)) S1) .stuck) Q E
  rw [if_pos hl]; exact q)
theorem wp_rng2 {Q : Iter → Store → Prop} (h : (ms bs env S).wp (fun ws S1 => ∃ i n, ws = [.dat (.int i), .dat (.int n)] ∧ ((n < 4611686018427387904 ∧ -4611686018427387904 ≤ n) ∧ (i < 4611686018427387904 ∧ -4611686018427387904 ≤ i)) ∧ Q (.items (rangeW i n)) S1) E) : (mRng2 ms bs env S).wp Q E := bind_wp (h.imp fun ws S1 ⟨i, n, e, hl, q⟩ => by
  subst e
  show Out.wp (@ite _ ((n < 4611686018427387904 ∧ -4611686018427387904 ≤ n) ∧ (i < 4611686018427387904 ∧ -4611686018427387904 ≤ i)) (@instDecidableAnd _ _ (rdec n) (rdec i)) (Out.ok (Iter.items (rangeW i n)) S1) .stuck) Q E
  rw [if_pos hl]; exact q)
end
/-! ### targets, statements -/
section
variable {bs : List Nat} {env : Env} {S : Store} {m : M W} {ms : M (List W)} {i j : Nat} {t : M Bool} {a b : MS} {N : Env → Store → Prop} {R : W → Store → Prop} {B C : Env → Store → Prop} {E : Nat → List W → Env → Store → Prop} {E' : EK} {Q : Env → Store → Prop}
theorem wp_name {w : W} (q : Q (env.set i (some w)) S) : (tName i w bs env S).wp Q E' := q
theorem wp_tNil (q : Q env S) : (tNil [] bs env S).wp Q E' := q
theorem wp_tCons {t : TM} {u : TMs} {w : W} {r : List W} (h : (t w bs env S).wp (fun e S1 => (u r bs e S1).wp Q E') E') : (tCons t u (w :: r) bs env S).wp Q E' := bind_wp h
theorem wp_tTup {n : Nat} {t : TMs} {w : W} {ws : List W} (h : tupOf w = some ws) (hl : ws.length = n) (q : (t ws bs env S).wp Q E') : (tTup n t w bs env S).wp Q E' := by
  unfold tTup
  rw [h]
  show Out.wp (if ws.length = n then t ws bs env S else .stuck) Q E'
  rw [if_pos hl]; exact q
theorem wp_tSub {mo mi : M W} {f : OpSet} {w : W} (h : (mo bs env S).wp (fun o S1 => (mi bs env S1).wp (fun x S2 => ∃ S3, f bs o x w S2 = some S3 ∧ Q env S3) E') E') : (tSub mo mi f w bs env S).wp Q E' := bind_wp (h.imp fun o S1 h1 => bind_wp (h1.imp fun x S2 ⟨S3, e, q⟩ => by
  show Out.wp (match f bs o x w S2 with | some S3 => Out.ok env S3 | none => .stuck) Q E'
  rw [e]; exact q))
theorem wp_seq (h : (a bs env S).wp (fun e S1 => (b bs e S1).wp N R B C E) R B C E) : (sSeq a b bs env S).wp N R B C E := then_wp h
theorem wp_asg {tg : TM} (h : (m bs env S).wp (fun w S1 => (tg w bs env S1).wp (fun e S2 => N e S2) fun c ws S2 => E c ws env S2) fun c ws S1 => E c ws env S1) : (sAsg m tg bs env S).wp N R B C E := so_wp (h.imp fun w S1 h1 => so_wp h1)
theorem wp_ret (h : (m bs env S).wp R fun c ws S1 => E c ws env S1) : (sRet m bs env S).wp N R B C E := so_wp h
theorem wp_drop (h : (m bs env S).wp (fun _ S1 => N env S1) fun c ws S1 => E c ws env S1) : (sDrop m bs env S).wp N R B C E := so_wp h
theorem wp_sNil (h : N env S) : (sNil bs env S).wp N R B C E := h
theorem wp_sIf (h : (t bs env S).wp (fun v S1 => (v = true → (a bs env S1).wp N R B C E) ∧ (v = false → (b bs env S1).wp N R B C E)) fun c ws S1 => E c ws env S1) : (sIf t a b bs env S).wp N R B C E := so_wp (h.imp fun v S1 h1 => by
  show SO.wp (if v = true then _ else _) N R B C E
  cases v with
  | true => exact h1.1 rfl
  | false => exact h1.2 rfl)
theorem wp_par (h : (ms bs env S).wp (fun ws S1 => ∃ w u, ws = [w, u] ∧ N ((env.set i (some w)).set j (some u)) S1) fun c ws S1 => E c ws env S1) : (sPar i j ms bs env S).wp N R B C E := so_wp (h.imp fun ws S1 ⟨w, u, e, q⟩ => by subst e; exact q)
/-! ### defs -/
/-- behind a def's return: its frame is popped -/
def RT (b : Nat) (Q : W → Store → Prop) (w : W) (S : Store) : Prop := if w.und b = true then Q w (S.take b) else Q w S
def EX (b : Nat) (E : EK) (c : Nat) (ws : List W) (S : Store) : Prop := if W.undAll b ws = true then E c ws (S.take b) else E c ws S
theorem wp_fn {n p : Nat} {m : MS} {ws : List W} {Q : W → Store → Prop} {E : EK} (hl : ws.length = p)
    (h : (m (S.length :: bs) (startE n ws) S).wp (fun _ S1 => Q (.dat .none) (S1.take S.length)) (RT S.length Q) (fun _ _ => False) (fun _ _ => False) fun c ws _ S1 => EX S.length E c ws S1) : (fnM n p m bs ws S).wp Q E := by
  unfold fnM
  rw [if_pos hl]
  generalize m (S.length :: bs) (startE n ws) S = o at h
  cases o with
  | nx e S1 => exact h
  | rt w S1 =>
    have h' : if w.und S.length = true then Q w (S1.take S.length) else Q w S1 := h
    show Out.wp (if w.und S.length = true then Out.ok w (S1.take S.length) else Out.ok w S1) Q E
    split <;> rename_i hw
    · rw [if_pos hw] at h'; exact h'
    · rw [if_neg hw] at h'; exact h'
  | bk e S1 => exact h.elim
  | ct e S1 => exact h.elim
  | ex c ws e S1 =>
    have h' : if W.undAll S.length ws = true then E c ws (S1.take S.length) else E c ws S1 := h
    show Out.wp (if W.undAll S.length ws = true then Out.ex c ws (S1.take S.length) else Out.ex c ws S1) Q E
    split <;> rename_i hw
    · rw [if_pos hw] at h'; exact h'
    · rw [if_neg hw] at h'; exact h'
  | stuck => exact h.elim
theorem rt_same {Q : W → Store → Prop} {d : PyData} (q : Q (.dat d) S) : RT S.length Q (.dat d) S := by
  show if true = true then Q (.dat d) (S.take S.length) else Q (.dat d) S
  rw [if_pos rfl, List.take_length]; exact q
theorem rt_dat {n : Nat} {Q : W → Store → Prop} {d : PyData} (q : Q (.dat d) (S.take n)) : RT n Q (.dat d) S := by
  show if true = true then Q (.dat d) (S.take n) else Q (.dat d) S
  rw [if_pos rfl]; exact q
theorem rt_new {n k : Nat} {Q : W → Store → Prop} (hk : n ≤ k) (q : Q (.loc k) S) : RT n Q (.loc k) S := by
  show if (W.loc k).und n = true then _ else _
  rw [if_neg (by simp [W.und]; omega)]; exact q
end
/-! ### loops -/
theorem next_of {α : Type} {f : α → W} {xs pre post : List α} {S : Store} (h : xs = pre ++ post) : (Iter.items (xs.map f)).next pre.length S = some (post.head?.map f) := by
  show some ((xs.map f)[pre.length]?) = _
  subst h
  rw [List.getElem?_map, List.getElem?_append_right (Nat.le_refl _), Nat.sub_self, List.head?_eq_getElem?]
section
variable {α : Type} {bs : List Nat} {N : Env → Store → Prop} {R : W → Store → Prop} {B C : Env → Store → Prop} {E : Nat → List W → Env → Store → Prop}
theorem wp_forG {it : Iter} {f : α → W} {xs : List α} {bd : W → MS} (I : List α → Env → Store → Prop) (hn : ∀ pre post env S, xs = pre ++ post → I pre env S → it.next pre.length S = some (post.head?.map f))
    (step : ∀ pre x post env S, xs = pre ++ x :: post → I pre env S → (bd (f x) bs env S).wp (I (pre ++ [x])) R N (I (pre ++ [x])) E) (done : ∀ env S, I xs env S → N env S) :
    ∀ (fuel : Nat) (pre post : List α) (env : Env) (S : Store), xs = pre ++ post → post.length < fuel → I pre env S → (forG it bd fuel pre.length bs env S).wp N R B C E
  | 0, pre, post, env, S, hx, hf, h => by omega
  | fuel + 1, pre, post, env, S, hx, hf, h => by
    unfold forG
    rw [hn pre post env S hx h]
    cases post with
    | nil =>
      rw [List.append_nil] at hx
      subst hx
      exact done env S h
    | cons x post =>
      have st := step pre x post env S hx h
      show SO.wp (SO.turn (bd (f x) bs env S) _) N R B C E
      generalize bd (f x) bs env S = o at st
      have go : ∀ e S1, I (pre ++ [x]) e S1 → (forG it bd fuel (pre.length + 1) bs e S1).wp N R B C E := fun e S1 h1 => by
        have := wp_forG I hn step done fuel (pre ++ [x]) post e S1 (by simp [hx]) (by simp at hf; omega) h1
        simpa using this
      cases o with
      | nx e S1 => exact go e S1 st
      | rt w S1 => exact st
      | bk e S1 => exact st
      | ct e S1 => exact go e S1 st
      | ex c ws e S1 => exact st
      | stuck => exact st
theorem wp_for {mi : M Iter} {t : TM} {m : MS} {env : Env} {S : Store} (h : (mi bs env S).wp (fun it S1 => (forG it (tBody t m) it.fuel 0 bs env S1).wp N R B C E) fun c ws S1 => E c ws env S1) : (sFor mi t m bs env S).wp N R B C E := so_wp h
/-- over items -/
theorem wp_items {f : α → W} {xs : List α} {bd : W → MS} {env : Env} {S : Store} (I : List α → Env → Store → Prop) (h0 : I [] env S)
    (step : ∀ pre x post env S, xs = pre ++ x :: post → I pre env S → (bd (f x) bs env S).wp (I (pre ++ [x])) R N (I (pre ++ [x])) E) (done : ∀ env S, I xs env S → N env S) :
    (forG (.items (xs.map f)) bd (Iter.items (xs.map f)).fuel 0 bs env S).wp N R B C E :=
  wp_forG I (fun pre post env S hx _ => next_of hx) step done _ [] xs env S rfl (by simp [Iter.fuel]) h0
theorem wp_body {t : TM} {m : MS} {w : W} {env : Env} {S : Store} (h : (t w bs env S).wp (fun e S1 => (m bs e S1).wp N R B C E) fun c ws S1 => E c ws env S1) : (tBody t m w bs env S).wp N R B C E := so_wp h
end
/-! ### comprehensions -/
section
variable {α β : Type} {bs : List Nat} {E : EK}
theorem bindC_wp {α β : Type} {o : Out α} {f : α → Store → Out β} {Q : β → Store → Prop} {E : EK} (h : o.wp (fun a S => (f a S).wp Q E) NoE) : (o.bindC f).wp Q E := by
  cases o with
  | ok a S => exact h
  | ex c ws S => exact h.elim
  | stuck => exact h
theorem wp_compG {it : Iter} {f : α → W} {xs : List α} {t : TM} {c : M Bool} {e : M W} {env : Env} {Q : List W → Store → Prop} (I : List α → List W → Store → Prop) (hn : ∀ pre post acc S, xs = pre ++ post → I pre acc S → it.next pre.length S = some (post.head?.map f))
    (step : ∀ pre x post acc S, xs = pre ++ x :: post → I pre acc S → (t (f x) bs env S).wp (fun env1 S1 => (c bs env1 S1).wp (fun b S2 => (b = true → (e bs env1 S2).wp (fun y S3 => acc.length < 100000 ∧ I (pre ++ [x]) (acc ++ [y]) S3) NoE) ∧ (b = false → I (pre ++ [x]) acc S2)) NoE) NoE)
    (done : ∀ acc S, I xs acc S → Q acc S) :
    ∀ (fuel : Nat) (pre post : List α) (acc : List W) (S : Store), xs = pre ++ post → post.length < fuel → I pre acc S → (compG it t c e fuel pre.length acc bs env S).wp Q E
  | 0, pre, post, acc, S, hx, hf, h => by omega
  | fuel + 1, pre, post, acc, S, hx, hf, h => by
    unfold compG
    simp only [hn pre post acc S hx h]
    cases post with
    | nil =>
      rw [List.append_nil] at hx
      subst hx
      exact done acc S h
    | cons x post =>
      show Out.wp (Out.bindC (t (f x) bs env S) _) Q E
      have go : ∀ acc' S', I (pre ++ [x]) acc' S' → (compG it t c e fuel (pre.length + 1) acc' bs env S').wp Q E := fun acc' S' h1 => by
        have := wp_compG I hn step done fuel (pre ++ [x]) post acc' S' (by simp [hx]) (by simp at hf; omega) h1
        simpa using this
      refine bindC_wp ((step pre x post acc S hx h).imp fun env1 S1 h1 => bindC_wp (h1.imp fun b S2 h2 => ?_))
      cases b with
      | true =>
        rw [if_pos rfl]
        refine bindC_wp ((h2.1 rfl).imp fun y S3 ⟨hl, h3⟩ => ?_)
        rw [if_pos hl]
        exact go _ _ h3
      | false => exact go _ _ (h2.2 rfl)
theorem wp_comp {k : Bool} {mi : M Iter} {vs : List Nat} {t : TM} {c : M Bool} {e : M W} {env : Env} {S : Store} {Q : W → Store → Prop} (h : (mi bs env S).wp (fun it S1 => (compG it t c e it.fuel 0 [] bs (wipeE env vs) S1).wp (fun ws S2 => NL k Q ws S2) E) E) : (mComp k mi vs t c e bs env S).wp Q E :=
  bind_wp (h.imp fun it S1 h1 => bind_wp h1)
/-- the turns change nothing: what is kept of each item -/
theorem wp_compP {f : α → W} {xs : List α} {t : TM} {c : M Bool} {e : M W} {env : Env} {S : Store} {Q : List W → Store → Prop} (g : α → Option W) (hl : xs.length ≤ 100000)
    (step : ∀ x ∈ xs, (t (f x) bs env S).wp (fun env1 S1 => (c bs env1 S1).wp (fun b S2 => (b = true → (e bs env1 S2).wp (fun y S3 => g x = some y ∧ S3 = S) NoE) ∧ (b = false → g x = none ∧ S2 = S)) NoE) NoE)
    (q : Q (xs.filterMap g) S) : (compG (.items (xs.map f)) t c e (Iter.items (xs.map f)).fuel 0 [] bs env S).wp Q E := by
  refine wp_compG (f := f) (xs := xs) (fun pre acc S' => acc = pre.filterMap g ∧ S' = S) (fun pre post acc S hx _ => next_of hx) (fun pre x post acc S' hx ⟨h1, h2⟩ => ?_) (fun acc S' ⟨h1, h2⟩ => by subst h1 h2; exact q) _ [] xs [] S rfl (by simp [Iter.fuel]) ⟨rfl, rfl⟩
  subst h2
  have hm : x ∈ xs := by rw [hx]; simp
  refine (step x hm).imp fun env1 S1 h3 => h3.imp fun b S2 h4 => ⟨fun hb => (h4.1 hb).imp fun y S3 ⟨h5, h6⟩ => ⟨?_, ?_, h6⟩, fun hb => ⟨?_, (h4.2 hb).2⟩⟩
  · have := List.length_filterMap_le g pre
    have h7 := congrArg List.length hx
    simp at h7
    rw [h1]; omega
  · rw [h1]; simp [h5]
  · rw [h1]; simp [(h4.2 hb).1]
/-- one name, no condition -/
theorem wp_compM {f : α → W} {xs : List α} {i : Nat} {e : M W} {env : Env} {S : Store} {Q : List W → Store → Prop} (g : α → W) (hl : xs.length ≤ 100000) (step : ∀ x ∈ xs, (e bs (env.set i (some (f x))) S).wp (fun y S3 => y = g x ∧ S3 = S) NoE)
    (q : Q (xs.map g) S) : (compG (.items (xs.map f)) (tName i) mYes e (Iter.items (xs.map f)).fuel 0 [] bs env S).wp Q E := by
  refine wp_compP (fun x => some (g x)) hl (fun x hx => wp_name (wp_yes ⟨fun _ => (step x hx).imp fun y S3 ⟨h1, h2⟩ => ⟨by rw [h1], h2⟩, fun h => (nomatch h)⟩)) ?_
  simpa using q
theorem nl_dat {ds : List PyData} {S : Store} {Q : W → Store → Prop} (q : Q (.dat (.list ds)) S) : NL false Q (ds.map .dat) S := by
  show Q (mkLst (ds.map .dat)) S
  rw [mkLst_dat]; exact q
theorem nl_map {f : α → PyData} {xs : List α} {S : Store} {Q : W → Store → Prop} (q : Q (.dat (.list (xs.map f))) S) : NL false Q (xs.map fun x => .dat (f x)) S := by
  have : (xs.map fun x => W.dat (f x)) = (xs.map f).map .dat := by simp
  rw [this]; exact nl_dat q
end
end Rf

namespace Rf
open PySem L2

/-! ### operations, by the shapes of what they get -/
section
variable {bs : List Nat} {S : Store} {k : Bool} {i j : Int} {a b : Str} {xs ys : List PyData} {Q : W → Store → Prop} {P : W → Prop}
theorem add_int (q : Q (.dat (.int (i + j))) S) : wpo (addF k bs (.dat (.int i)) (.dat (.int j)) S) Q := q
theorem add_str (h : a.length + b.length ≤ 100000) (q : Q (.dat (.str (a ++ b))) S) : wpo (addF k bs (.dat (.str a)) (.dat (.str b)) S) Q := by
  show wpo (if a.length + b.length ≤ 100000 then some (.str (a ++ b), S) else none) Q
  rw [if_pos h]; exact q
theorem add_tup (h : xs.length + ys.length ≤ 100000) (q : Q (.dat (.tuple (xs ++ ys))) S) : wpo (addF k bs (.dat (.tuple xs)) (.dat (.tuple ys)) S) Q := by
  show wpo (if xs.length + ys.length ≤ 100000 then some (.dat (.tuple (xs ++ ys)), S) else none) Q
  rw [if_pos h]; exact q
theorem add_lst (h : xs.length + ys.length ≤ 100000) (q : Q (.dat (.list (xs ++ ys))) S) : wpo (addF false bs (.dat (.list xs)) (.dat (.list ys)) S) Q := by
  show wpo (if (xs.map W.dat).length + (ys.map W.dat).length ≤ 100000 then some (newL false (xs.map W.dat ++ ys.map W.dat) S) else none) Q
  rw [if_pos (by simpa using h), ← List.map_append]
  show Q (mkLst ((xs ++ ys).map W.dat)) S
  rw [mkLst_dat]; exact q
theorem sub_int (q : Q (.dat (.int (i - j))) S) : wpo (subF bs (.dat (.int i)) (.dat (.int j)) S) Q := q
theorem mod_int (h : 0 < j) (q : Q (.dat (.int (i % j))) S) : wpo (modF bs (.dat (.int i)) (.dat (.int j)) S) Q := by
  show wpo (((if 0 < j then some (i % j) else none) : Option Int).map fun z => (W.int z, S)) Q
  rw [if_pos h]; exact q
theorem log_lt {t : Int} (h2 : t.natAbs ≤ 1000000000000000000000000000000000000) : t.natAbs.log2 < 9000 := by
  by_cases h : t.natAbs = 0
  · rw [h]; decide
  · have e : (1000000000000000000000000000000000000 : Nat) < 2 ^ 9000 := by
      calc (1000000000000000000000000000000000000 : Nat) < 2 ^ 120 := by decide
        _ ≤ 2 ^ 9000 := Nat.pow_le_pow_right (by decide) (by decide)
    exact (Nat.log2_lt h).mpr (by omega)
theorem div_int (h : 0 < j ∧ j ≤ 1000000000000000000000000000000000000) (q : Q (.dat (.int (i / j))) S) : wpo (fdivF bs (.dat (.int i)) (.dat (.int j)) S) Q := by
  show wpo (((if 0 < j ∧ j.natAbs.log2 < 9000 then some (i / j) else none) : Option Int).map fun z => (W.int z, S)) Q
  rw [if_pos ⟨h.1, log_lt (by omega)⟩]; exact q
theorem pow_int {r : Int} (h : 0 ≤ j ∧ (i.natAbs.log2 + 1) * j.toNat ≤ 100000000) (e : i ^ j.toNat = r) (q : Q (.dat (.int r)) S) : wpo (powF bs (.dat (.int i)) (.dat (.int j)) S) Q := by
  subst e
  show wpo (((if 0 ≤ j ∧ (i.natAbs.log2 + 1) * j.toNat ≤ 100000000 then some (i ^ j.toNat) else none) : Option Int).map fun z => (W.int z, S)) Q
  rw [if_pos h]; exact q
theorem mulOk_l (h : i.natAbs < 18446744073709551616) : mulOk i j = true := by unfold mulOk; rw [decide_eq_true h]; rfl
theorem mulOk_r (h : j.natAbs < 18446744073709551616) : mulOk i j = true := by unfold mulOk; rw [decide_eq_true h]; simp
theorem mul_int (h : mulOk i j = true) (q : Q (.dat (.int (i * j))) S) : wpo (mulF k bs (.dat (.int i)) (.dat (.int j)) S) Q := by
  show wpo (if mulOk i j = true then some (W.int (i * j), S) else none) Q
  rw [if_pos h]; exact q
theorem lt_int (q : Q (.dat (.bool (decide (i < j)))) S) : wpo (ordF .lt bs (.dat (.int i)) (.dat (.int j)) S) Q := q
theorem le_int (q : Q (.dat (.bool (decide (i ≤ j)))) S) : wpo (ordF .le bs (.dat (.int i)) (.dat (.int j)) S) Q := q
theorem gt_int (q : Q (.dat (.bool (decide (j < i)))) S) : wpo (ordF .gt bs (.dat (.int i)) (.dat (.int j)) S) Q := q
theorem lt_str (q : Q (.dat (.bool (decide (a.cps.toList < b.cps.toList)))) S) : wpo (ordF .lt bs (.dat (.str a)) (.dat (.str b)) S) Q := q
/-! equality -/
theorem eq_view {neg : Bool} {x y : W} {d e : PyData} (hx : viewD S x = some d) (hy : viewD S y = some e) (hd : d.plain = true) (he : e.plain = true) (hl : d.depth ≤ 64) (q : Q (.dat (.bool (PyData.eqv d e != neg))) S) : wpo (eqF neg bs x y S) Q := by
  unfold eqF
  rw [hx, hy]
  show wpo (if d.plain = true ∧ e.plain = true ∧ d.depth ≤ 64 then some (W.bl (PyData.eqv d e != neg), S) else none) Q
  rw [if_pos ⟨hd, he, hl⟩]; exact q
theorem eq_int (q : Q (.dat (.bool (decide (i = j)))) S) : wpo (eqF false bs (.dat (.int i)) (.dat (.int j)) S) Q := by
  refine eq_view rfl rfl rfl rfl (by simp [PyData.depth]) ?_
  have e : (PyData.eqv (.int i) (.int j) != false) = decide (i = j) := by
    show ((i == j) != false) = _
    by_cases h : i = j <;> simp [h]
  rw [e]; exact q
theorem ne_int (q : Q (.dat (.bool (!decide (i = j)))) S) : wpo (eqF true bs (.dat (.int i)) (.dat (.int j)) S) Q := by
  refine eq_view rfl rfl rfl rfl (by simp [PyData.depth]) ?_
  have e : (PyData.eqv (.int i) (.int j) != true) = !decide (i = j) := by
    show ((i == j) != true) = _
    by_cases h : i = j <;> simp [h]
  rw [e]; exact q
theorem ne_str (q : Q (.dat (.bool (!decide (a = b)))) S) : wpo (eqF true bs (.dat (.str a)) (.dat (.str b)) S) Q := by
  refine eq_view rfl rfl rfl rfl (by simp [PyData.depth]) ?_
  have e : (PyData.eqv (.str a) (.str b) != true) = !decide (a = b) := by
    show ((a == b) != true) = _
    by_cases h : a = b <;> simp [h]
  rw [e]; exact q
/-- is None -/
def noneB : PyData → Bool
  | .none => true
  | _ => false
theorem isnt_dat {d : PyData} (q : Q (.dat (.bool (!noneB d))) S) : wpo (isNF true bs (.dat d) (.dat .none) S) Q := by
  cases d <;> exact q
/-! indices, lengths -/
theorem seq_loc {n : Nat} {ws : List W} (h : S[n]? = some (.lst ws)) : seqOf S (.loc n) = some ws := by
  simp only [seqOf, tupOf, lstOf, h]
theorem ix_seq {x w : W} {ws : List W} (h : seqOf S x = some ws) (hi : L2.atI ws i = some w) (q : Q w S) : wpo (ixF bs x (.dat (.int i)) S) Q := by
  unfold ixF
  rw [h]
  show wpo ((L2.atI ws i).map (·, S)) Q
  rw [hi]; exact q
theorem atI_ofNat {α : Type} {ws : List α} {n : Nat} {w : α} (h : ws[n]? = some w) : L2.atI ws (n : Int) = some w := by
  have hn := (List.getElem?_eq_some_iff.mp h).1
  unfold L2.atI ixN
  rw [if_pos (by omega), if_pos (by omega)]
  simpa using h
theorem ix_loc {n : Nat} {w : W} {ws : List W} (h : S[n]? = some (.lst ws)) (hi : L2.atI ws i = some w) (q : Q w S) : wpo (ixF bs (.loc n) (.dat (.int i)) S) Q := ix_seq (seq_loc h) hi q
theorem atI_map {α β : Type} (f : α → β) (l : List α) (i : Int) : L2.atI (l.map f) i = (L2.atI l i).map f := by
  unfold L2.atI
  rw [List.length_map]
  cases ixN l.length i with
  | none => rfl
  | some j => simp
theorem ix_tup {d : PyData} (hi : L2.atI xs i = some d) (q : Q (.dat d) S) : wpo (ixF bs (.dat (.tuple xs)) (.dat (.int i)) S) Q := ix_seq (ws := xs.map .dat) rfl (by rw [atI_map, hi]; rfl) q
theorem ix_lst {d : PyData} (hi : L2.atI xs i = some d) (q : Q (.dat d) S) : wpo (ixF bs (.dat (.list xs)) (.dat (.int i)) S) Q := ix_seq (ws := xs.map .dat) rfl (by rw [atI_map, hi]; rfl) q
theorem ix_str {c : Nat} (h : a.length ≤ 100000) (hi : L2.atI a.cps.toList i = some c) (q : Q (.dat (.str ⟨#[c]⟩)) S) : wpo (ixF bs (.dat (.str a)) (.dat (.int i)) S) Q := by
  show wpo (if a.length ≤ 100000 then (L2.atI a.cps.toList i).map fun c => (W.str ⟨#[c]⟩, S) else none) Q
  rw [if_pos h, hi]; exact q
theorem len_tup (q : Q (.dat (.int xs.length)) S) : wpo (un lenW bs [.dat (.tuple xs)] S) Q := by
  have : un lenW bs [.dat (.tuple xs)] S = some (.dat (.int xs.length), S) := by simp [un, lenW, seqOf, tupOf]
  rw [this]; exact q
theorem len_lst (q : Q (.dat (.int xs.length)) S) : wpo (un lenW bs [.dat (.list xs)] S) Q := by
  have : un lenW bs [.dat (.list xs)] S = some (.dat (.int xs.length), S) := by simp [un, lenW, seqOf, tupOf, lstOf]
  rw [this]; exact q
theorem len_lw {ws : List W} (q : Q (.dat (.int ws.length)) S) : wpo (un lenW bs [.lw ws] S) Q := q
theorem len_str (h : a.length ≤ 100000) (q : Q (.dat (.int a.length)) S) : wpo (un lenW bs [.dat (.str a)] S) Q := by
  have : un lenW bs [.dat (.str a)] S = some (.dat (.int a.length), S) := by simp [un, lenW, seqOf, tupOf, lstOf, h]
  rw [this]; exact q
theorem int_int (q : Q (.dat (.int i)) S) : wpo (un intW bs [.dat (.int i)] S) Q := q
theorem int_bool {v : Bool} (q : Q (.dat (.int (if v then 1 else 0))) S) : wpo (un intW bs [.dat (.bool v)] S) Q := q
theorem abs_int (q : Q (.dat (.int (if i < 0 then -i else i))) S) : wpo (un absW bs [.dat (.int i)] S) Q := q
theorem max_int (q : Q (.dat (.int (if j > i then j else i))) S) : wpo (max2F bs [.dat (.int i), .dat (.int j)] S) Q := q
theorem min_int (q : Q (.dat (.int (if j < i then j else i))) S) : wpo (min2F bs [.dat (.int i), .dat (.int j)] S) Q := q
theorem all_map {α : Type} {p : α → Bool} {l : List α} (q : Q (.dat (.bool (l.all p))) S) : wpo (un allF bs [.dat (.list (l.map fun x => .bool (p x)))] S) Q := by
  have e : (l.map fun x => PyData.bool (p x)).map W.dat = (l.map p).map W.bl := by simp
  have : un allF bs [.dat (.list (l.map fun x => .bool (p x)))] S = some (.dat (.bool (l.all p)), S) := by
    simp only [un, allF, lstOf, e, bools_map, Option.map_some]
    simp [List.all_map, Function.comp_def]
  rw [this]; exact q
theorem tuple_lst (q : Q (.dat (.tuple xs)) S) : wpo (tupleF bs [.dat (.list xs)] S) Q := by
  show Q (mkTup (xs.map W.dat)) S
  rw [mkTup_dat]; exact q
theorem tuple_loc {n : Nat} {ws : List W} {ds : List PyData} (h : S[n]? = some (.lst ws)) (hw : ws = ds.map .dat) (q : Q (.dat (.tuple ds)) S) : wpo (tupleF bs [.loc n] S) Q := by
  have : tupleF bs [.loc n] S = some (.dat (.tuple ds), S) := by simp only [tupleF, tupOf, lstOf, h, hw, mkTup_dat, Option.map_some]
  rw [this]; exact q
theorem list_tup (q : Q (.dat (.list xs)) S) : wpo (listF false bs [.dat (.tuple xs)] S) Q := by
  show Q (mkLst (xs.map W.dat)) S
  rw [mkLst_dat]; exact q
/-! slices -/
theorem sl_tup {lo hi : Option Int} (q : Q (.dat (.tuple (cutW xs lo hi))) S) : wpo (slF k (.dat (.tuple xs)) lo hi S) Q := by
  have : slF k (.dat (.tuple xs)) lo hi S = some (.dat (.tuple (cutW xs lo hi)), S) := by
    unfold slF
    simp only [tupOf, List.length_map]
    split
    · rename_i h
      unfold cutW
      rw [h.1, h.2]; simp
    · have e : cutW (xs.map W.dat) lo hi = (cutW xs lo hi).map W.dat := by unfold cutW; rw [List.length_map, ← List.map_drop, ← List.map_take]
      rw [e, mkTup_dat]
  rw [this]; exact q
/-! cells -/
theorem may_d (bs : List Nat) (n : Nat) (d : PyData) : mayW bs n (.dat d) = true := by unfold mayW; simp [W.und]
theorem set_loc {P : Store → Prop} {n m : Nat} {ws : List W} {d : PyData} (h : S[n]? = some (.lst ws)) (hi : ixN ws.length i = some m) (q : P (S.set n (.lst (ws.set m (.dat d))))) : ∃ S3, setF bs (.loc n) (.dat (.int i)) (.dat d) S = some S3 ∧ P S3 := by
  refine ⟨_, ?_, q⟩
  unfold setF
  simp only [h, hi, may_d, if_true]
theorem app_loc {n : Nat} {ws : List W} {d : PyData} (h : S[n]? = some (.lst ws)) (hl : ws.length < 100000) (q : Q (.dat .none) (S.set n (.lst (ws ++ [.dat d])))) : wpo (appF bs (.loc n) [.dat d] S) Q := by
  unfold appF
  simp only [h]
  rw [if_pos ⟨hl, may_d _ _ _⟩]; exact q
theorem ext_loc {n : Nat} {ws : List W} (h : S[n]? = some (.lst ws)) (hl : ws.length + xs.length ≤ 100000) (q : Q (.dat .none) (S.set n (.lst (ws ++ xs.map .dat)))) : wpo (extF bs (.loc n) [.dat (.list xs)] S) Q := by
  unfold extF extOf
  simp only [h, List.length_map]
  rw [if_pos]
  · exact q
  · refine ⟨hl, ?_⟩
    rw [List.all_eq_true]
    intro w hw
    obtain ⟨d, _, rfl⟩ := List.mem_map.mp hw
    exact may_d _ _ _
theorem ty_loc {n : Nat} {ws : List W} (h : S[n]? = some (.lst ws)) : wTy .lst (.loc n) S = true := by simp [wTy, lstOf, h]
/-! what a walk gets -/
/-! answers -/
theorem ifT {A B : Prop} (h : A) : (true = true → A) ∧ (true = false → B) := ⟨fun _ => h, fun z => (nomatch z)⟩
theorem ifF {A B : Prop} (h : B) : (false = true → A) ∧ (false = false → B) := ⟨fun z => (nomatch z), fun _ => h⟩
theorem ifD {p A B : Prop} [Decidable p] (h : p → A) (g : ¬ p → B) : (decide p = true → A) ∧ (decide p = false → B) := ⟨fun z => h (of_decide_eq_true z), fun z => g (of_decide_eq_false z)⟩
theorem ifN {p A B : Prop} [Decidable p] (h : p → B) (g : ¬ p → A) : ((!decide p) = true → A) ∧ ((!decide p) = false → B) := ⟨fun z => g (by simpa using z), fun z => h (by simpa using z)⟩
theorem ifNB {c : Bool} {A B : Prop} (h : c = true → B) (g : c = false → A) : ((!c) = true → A) ∧ ((!c) = false → B) := ⟨fun z => g (by simpa using z), fun z => h (by simpa using z)⟩
theorem exTru {w : W} {b : Bool} {Q : Bool → Prop} (h : truW S w = some b) (q : Q b) : ∃ b, truW S w = some b ∧ Q b := ⟨b, h, q⟩
theorem exInt {Q : Int → Prop} (q : Q i) : ∃ j, W.dat (.int i) = .dat (.int j) ∧ Q j := ⟨i, rfl, q⟩
theorem ex2 {w u : W} {Q : W → W → Prop} (q : Q w u) : ∃ a b, [w, u] = [a, b] ∧ Q a b := ⟨w, u, rfl, q⟩
theorem exRng1 {Q : Int → Prop} (h : i < 4611686018427387904 ∧ -4611686018427387904 ≤ i) (q : Q i) : ∃ n, [W.dat (.int i)] = [.dat (.int n)] ∧ (n < 4611686018427387904 ∧ -4611686018427387904 ≤ n) ∧ Q n := ⟨i, rfl, h, q⟩
theorem exRng2 {Q : Int → Int → Prop} (h : (j < 4611686018427387904 ∧ -4611686018427387904 ≤ j) ∧ (i < 4611686018427387904 ∧ -4611686018427387904 ≤ i)) (q : Q i j) :
    ∃ a n, [W.dat (.int i), W.dat (.int j)] = [.dat (.int a), .dat (.int n)] ∧ ((n < 4611686018427387904 ∧ -4611686018427387904 ≤ n) ∧ (a < 4611686018427387904 ∧ -4611686018427387904 ≤ a)) ∧ Q a n := ⟨i, j, rfl, h, q⟩
end
/-! kinds -/
theorem kb1 : kitB "int" "int" = some true := by decide +kernel
theorem kb2 : kitB "bool" "int" = some true := by decide +kernel
theorem kb3 : kitB "str" "int" = some false := by decide +kernel
theorem kb4 : kitB "NoneType" "int" = some false := by decide +kernel
theorem kb5 : kitB "list" "int" = some false := by decide +kernel
theorem kb6 : kitB "tuple" "int" = some false := by decide +kernel
theorem kb7 : kitB "dict" "int" = some false := by decide +kernel
theorem kc1 : kitB "int" "bool" = some false := by decide +kernel
theorem kc2 : kitB "bool" "bool" = some true := by decide +kernel
theorem kc3 : kitB "str" "bool" = some false := by decide +kernel
theorem kc4 : kitB "NoneType" "bool" = some false := by decide +kernel
theorem kc5 : kitB "list" "bool" = some false := by decide +kernel
theorem kc6 : kitB "tuple" "bool" = some false := by decide +kernel
theorem kc7 : kitB "dict" "bool" = some false := by decide +kernel
theorem kt1 : kitB "int" "tuple" = some false := by decide +kernel
theorem kt2 : kitB "bool" "tuple" = some false := by decide +kernel
theorem kt3 : kitB "str" "tuple" = some false := by decide +kernel
theorem kt4 : kitB "NoneType" "tuple" = some false := by decide +kernel
theorem kt5 : kitB "list" "tuple" = some false := by decide +kernel
theorem kt6 : kitB "tuple" "tuple" = some true := by decide +kernel
theorem kt7 : kitB "dict" "tuple" = some false := by decide +kernel
theorem ks1 : kitB "int" "str" = some false := by decide +kernel
theorem ks2 : kitB "bool" "str" = some false := by decide +kernel
theorem ks3 : kitB "str" "str" = some true := by decide +kernel
theorem ks4 : kitB "NoneType" "str" = some false := by decide +kernel
theorem ks5 : kitB "list" "str" = some false := by decide +kernel
theorem ks6 : kitB "tuple" "str" = some false := by decide +kernel
theorem ks7 : kitB "dict" "str" = some false := by decide +kernel
def intB : PyData → Bool
  | .int _ | .bool _ => true
  | _ => false
def boolB : PyData → Bool
  | .bool _ => true
  | _ => false
def tupB : PyData → Bool
  | .tuple _ => true
  | _ => false
def strB : PyData → Bool
  | .str _ => true
  | _ => false
def dicB : PyData → Bool
  | .dict _ => true
  | _ => false
theorem isi_int {S : Store} {d : PyData} {Q : W → Prop} (q : Q (.dat (.bool (intB d)))) : ∃ u, isiW "int" S (.dat d) = some u ∧ Q u := by
  refine ⟨_, ?_, q⟩
  cases d <;> simp [isiW, tyW, kb1, kb2, kb3, kb4, kb5, kb6, kb7, intB]
theorem isi_bool {S : Store} {d : PyData} {Q : W → Prop} (q : Q (.dat (.bool (boolB d)))) : ∃ u, isiW "bool" S (.dat d) = some u ∧ Q u := by
  refine ⟨_, ?_, q⟩
  cases d <;> simp [isiW, tyW, kc1, kc2, kc3, kc4, kc5, kc6, kc7, boolB]
theorem isi_tup {S : Store} {d : PyData} {Q : W → Prop} (q : Q (.dat (.bool (tupB d)))) : ∃ u, isiW "tuple" S (.dat d) = some u ∧ Q u := by
  refine ⟨_, ?_, q⟩
  cases d <;> simp [isiW, tyW, kt1, kt2, kt3, kt4, kt5, kt6, kt7, tupB]
theorem isi_str {S : Store} {d : PyData} {Q : W → Prop} (q : Q (.dat (.bool (strB d)))) : ∃ u, isiW "str" S (.dat d) = some u ∧ Q u := by
  refine ⟨_, ?_, q⟩
  cases d <;> simp [isiW, tyW, ks1, ks2, ks3, ks4, ks5, ks6, ks7, strB]
end Rf


local macro_rules
  | `(tactic| array_get_dec) => `(tactic| ((first
    | (with_reducible refine Rf.wp_seq ?_)
    | (with_reducible refine Rf.wp_asg ?_)
    | (with_reducible refine Rf.wp_name ?_)
    | (with_reducible refine Rf.wp_ret ?_)
    | (with_reducible refine Rf.wp_sIf ?_)
    | (with_reducible refine Rf.wp_drop ?_)
    | (with_reducible refine Rf.wp_varD (by with_unfolding_all exact rfl) ?_)
    | (with_reducible refine Rf.wp_varL (by with_unfolding_all exact rfl) ?_)
    | (with_reducible refine Rf.wp_varT (by with_unfolding_all exact rfl) ?_)
    | (with_reducible refine Rf.wp_varLw (by with_unfolding_all exact rfl) ?_)
    | (with_reducible refine Rf.wp_varKt (by with_unfolding_all exact rfl) ?_)
    | (with_reducible refine Rf.wp_varK (by with_unfolding_all exact rfl) ?_)
    | (with_reducible refine Rf.wp_con ?_)
    | (with_reducible refine Rf.wp_bin ?_)
    | (with_reducible refine Rf.wp_B ?_)
    | (with_reducible refine Rf.isB_mk ?_)
    | (with_reducible refine Rf.wp_not ?_)
    | (with_reducible refine Rf.wp_if ?_)
    | (with_reducible refine Rf.wp_ok ?_)
    | (with_reducible refine Rf.nl_dat ?_)
    | (with_reducible refine Rf.nl_map ?_)
    | (with_reducible refine Rf.nl_cell ?_)
    | (with_reducible refine Rf.wp_yes ?_)
    | (with_reducible refine Rf.wp_tru ?_)
    | (with_reducible refine Rf.wp_andV ?_)
    | (with_reducible refine Rf.wp_orV ?_)
    | (with_reducible refine Rf.wp_notV ?_)
    | (with_reducible refine Rf.exTru (by with_unfolding_all exact rfl) ?_)
    | (with_reducible refine Rf.wp_neg ?_)
    | (with_reducible refine Rf.exInt ?_)
    | (with_reducible refine Rf.wp_chain ?_)
    | (with_reducible refine Rf.wp_cons ?_)
    | (with_reducible refine Rf.wp_nil ?_)
    | (with_reducible refine Rf.wp_tup ?_)
    | (with_reducible refine Rf.tp_dat (by with_unfolding_all exact rfl) (by with_unfolding_all exact rfl) ?_)
    | (with_reducible refine Rf.wp_lst ?_)
    | (with_reducible refine Rf.lp_dat (by with_unfolding_all exact rfl) (by with_unfolding_all exact rfl) ?_)
    | (with_reducible refine Rf.lp_cell (by with_unfolding_all exact rfl) ?_)
    | (with_reducible refine Rf.wp_CB ?_)
    | (with_reducible refine Rf.wp_call ?_)
    | (with_reducible refine Rf.wp_isi ?_)
    | (with_reducible refine Rf.isi_int ?_)
    | (with_reducible refine Rf.isi_bool ?_)
    | (with_reducible refine Rf.isi_tup ?_)
    | (with_reducible refine Rf.isi_str ?_)
    | (with_reducible refine Rf.isi_dic ?_)
    | (with_reducible refine Rf.wp_sl ?_)
    | (with_reducible refine Rf.wp_noPart ?_)
    | (with_reducible refine Rf.wp_part ?_)
    | (with_reducible refine Rf.wp_dic0t ?_)
    | (with_reducible refine Rf.wp_dic0f ?_)
    | (with_reducible refine Rf.wp_par ?_)
    | (with_reducible refine Rf.ex2 ?_)
    | (with_reducible refine Rf.wp_par3 ?_)
    | (with_reducible refine Rf.ex3 ?_)
    | (with_reducible refine Rf.wp_comp ?_)
    | (with_reducible refine Rf.wp_it ?_)
    | (with_reducible refine Rf.itd_tup ?_)
    | (with_reducible refine Rf.itd_lst ?_)
    | (with_reducible refine Rf.wp_for ?_)
    | (with_reducible refine Rf.wp_body ?_)
    | (with_reducible refine Rf.wp_rng1 ?_)
    | (with_reducible refine Rf.wp_rng2 ?_)
    | (with_reducible refine Rf.wp_sNil ?_)
    | (with_reducible refine Rf.wp_retN ?_)
    | (with_reducible refine Rf.wp_brk ?_)
    | (with_reducible refine Rf.wp_cnt ?_)
    | (with_reducible refine Rf.ifT ?_)
    | (with_reducible refine Rf.ifF ?_)
    | (with_reducible refine Rf.add_int ?_)
    | (with_reducible refine Rf.sub_int ?_)
    | ((with_reducible refine Rf.mod_int ?_ ?_); first | decide | omega)
    | ((with_reducible refine Rf.div_int ?_ ?_); first | decide | omega)
    | ((with_reducible refine Rf.mul_int ?_ ?_); first | (refine Rf.mulOk_l ?_; decide) | (refine Rf.mulOk_r ?_; decide) | (refine Rf.mulOk_l ?_; omega) | (refine Rf.mulOk_r ?_; omega))
    | (with_reducible refine Rf.lt_int ?_)
    | (with_reducible refine Rf.le_int ?_)
    | (with_reducible refine Rf.gt_int ?_)
    | (with_reducible refine Rf.ge_int ?_)
    | (with_reducible refine Rf.lt_str ?_)
    | (with_reducible refine Rf.eq_int ?_)
    | (with_reducible refine Rf.ne_int ?_)
    | (with_reducible refine Rf.eq_str ?_)
    | (with_reducible refine Rf.ne_str ?_)
    | (with_reducible refine Rf.isn_dat ?_)
    | (with_reducible refine Rf.isnt_dat ?_)
    | (with_reducible refine Rf.len_tup ?_)
    | (with_reducible refine Rf.len_lst ?_)
    | (with_reducible refine Rf.len_tw ?_)
    | (with_reducible refine Rf.len_lw ?_)
    | (with_reducible refine Rf.int_int ?_)
    | (with_reducible refine Rf.int_bool ?_)
    | (with_reducible refine Rf.abs_int ?_)
    | (with_reducible refine Rf.max_int ?_)
    | (with_reducible refine Rf.min_int ?_)
    | (with_reducible refine Rf.all_map ?_)
    | (with_reducible refine Rf.any_map ?_)
    | (with_reducible refine Rf.tuple_lst ?_)
    | (with_reducible refine Rf.tuple_tup ?_)
    | (with_reducible refine Rf.list_lst ?_)
    | (with_reducible refine Rf.list_tup ?_)
    | (with_reducible refine Rf.sl_tup ?_)
    | (with_reducible refine Rf.sl_lst ?_)
    | (with_reducible refine Rf.rt_same ?_)); repeat (first
    | (with_reducible refine Rf.wp_seq ?_)
    | (with_reducible refine Rf.wp_asg ?_)
    | (with_reducible refine Rf.wp_name ?_)
    | (with_reducible refine Rf.wp_ret ?_)
    | (with_reducible refine Rf.wp_sIf ?_)
    | (with_reducible refine Rf.wp_drop ?_)
    | (with_reducible refine Rf.wp_varD (by with_unfolding_all exact rfl) ?_)
    | (with_reducible refine Rf.wp_varL (by with_unfolding_all exact rfl) ?_)
    | (with_reducible refine Rf.wp_varT (by with_unfolding_all exact rfl) ?_)
    | (with_reducible refine Rf.wp_varLw (by with_unfolding_all exact rfl) ?_)
    | (with_reducible refine Rf.wp_varKt (by with_unfolding_all exact rfl) ?_)
    | (with_reducible refine Rf.wp_varK (by with_unfolding_all exact rfl) ?_)
    | (with_reducible refine Rf.wp_con ?_)
    | (with_reducible refine Rf.wp_bin ?_)
    | (with_reducible refine Rf.wp_B ?_)
    | (with_reducible refine Rf.isB_mk ?_)
    | (with_reducible refine Rf.wp_not ?_)
    | (with_reducible refine Rf.wp_if ?_)
    | (with_reducible refine Rf.wp_ok ?_)
    | (with_reducible refine Rf.nl_dat ?_)
    | (with_reducible refine Rf.nl_map ?_)
    | (with_reducible refine Rf.nl_cell ?_)
    | (with_reducible refine Rf.wp_yes ?_)
    | (with_reducible refine Rf.wp_tru ?_)
    | (with_reducible refine Rf.wp_andV ?_)
    | (with_reducible refine Rf.wp_orV ?_)
    | (with_reducible refine Rf.wp_notV ?_)
    | (with_reducible refine Rf.exTru (by with_unfolding_all exact rfl) ?_)
    | (with_reducible refine Rf.wp_neg ?_)
    | (with_reducible refine Rf.exInt ?_)
    | (with_reducible refine Rf.wp_chain ?_)
    | (with_reducible refine Rf.wp_cons ?_)
    | (with_reducible refine Rf.wp_nil ?_)
    | (with_reducible refine Rf.wp_tup ?_)
    | (with_reducible refine Rf.tp_dat (by with_unfolding_all exact rfl) (by with_unfolding_all exact rfl) ?_)
    | (with_reducible refine Rf.wp_lst ?_)
    | (with_reducible refine Rf.lp_dat (by with_unfolding_all exact rfl) (by with_unfolding_all exact rfl) ?_)
    | (with_reducible refine Rf.lp_cell (by with_unfolding_all exact rfl) ?_)
    | (with_reducible refine Rf.wp_CB ?_)
    | (with_reducible refine Rf.wp_call ?_)
    | (with_reducible refine Rf.wp_isi ?_)
    | (with_reducible refine Rf.isi_int ?_)
    | (with_reducible refine Rf.isi_bool ?_)
    | (with_reducible refine Rf.isi_tup ?_)
    | (with_reducible refine Rf.isi_str ?_)
    | (with_reducible refine Rf.isi_dic ?_)
    | (with_reducible refine Rf.wp_sl ?_)
    | (with_reducible refine Rf.wp_noPart ?_)
    | (with_reducible refine Rf.wp_part ?_)
    | (with_reducible refine Rf.wp_dic0t ?_)
    | (with_reducible refine Rf.wp_dic0f ?_)
    | (with_reducible refine Rf.wp_par ?_)
    | (with_reducible refine Rf.ex2 ?_)
    | (with_reducible refine Rf.wp_par3 ?_)
    | (with_reducible refine Rf.ex3 ?_)
    | (with_reducible refine Rf.wp_comp ?_)
    | (with_reducible refine Rf.wp_it ?_)
    | (with_reducible refine Rf.itd_tup ?_)
    | (with_reducible refine Rf.itd_lst ?_)
    | (with_reducible refine Rf.wp_for ?_)
    | (with_reducible refine Rf.wp_body ?_)
    | (with_reducible refine Rf.wp_rng1 ?_)
    | (with_reducible refine Rf.wp_rng2 ?_)
    | (with_reducible refine Rf.wp_sNil ?_)
    | (with_reducible refine Rf.wp_retN ?_)
    | (with_reducible refine Rf.wp_brk ?_)
    | (with_reducible refine Rf.wp_cnt ?_)
    | (with_reducible refine Rf.ifT ?_)
    | (with_reducible refine Rf.ifF ?_)
    | (with_reducible refine Rf.add_int ?_)
    | (with_reducible refine Rf.sub_int ?_)
    | ((with_reducible refine Rf.mod_int ?_ ?_); first | decide | omega)
    | ((with_reducible refine Rf.div_int ?_ ?_); first | decide | omega)
    | ((with_reducible refine Rf.mul_int ?_ ?_); first | (refine Rf.mulOk_l ?_; decide) | (refine Rf.mulOk_r ?_; decide) | (refine Rf.mulOk_l ?_; omega) | (refine Rf.mulOk_r ?_; omega))
    | (with_reducible refine Rf.lt_int ?_)
    | (with_reducible refine Rf.le_int ?_)
    | (with_reducible refine Rf.gt_int ?_)
    | (with_reducible refine Rf.ge_int ?_)
    | (with_reducible refine Rf.lt_str ?_)
    | (with_reducible refine Rf.eq_int ?_)
    | (with_reducible refine Rf.ne_int ?_)
    | (with_reducible refine Rf.eq_str ?_)
    | (with_reducible refine Rf.ne_str ?_)
    | (with_reducible refine Rf.isn_dat ?_)
    | (with_reducible refine Rf.isnt_dat ?_)
    | (with_reducible refine Rf.len_tup ?_)
    | (with_reducible refine Rf.len_lst ?_)
    | (with_reducible refine Rf.len_tw ?_)
    | (with_reducible refine Rf.len_lw ?_)
    | (with_reducible refine Rf.int_int ?_)
    | (with_reducible refine Rf.int_bool ?_)
    | (with_reducible refine Rf.abs_int ?_)
    | (with_reducible refine Rf.max_int ?_)
    | (with_reducible refine Rf.min_int ?_)
    | (with_reducible refine Rf.all_map ?_)
    | (with_reducible refine Rf.any_map ?_)
    | (with_reducible refine Rf.tuple_lst ?_)
    | (with_reducible refine Rf.tuple_tup ?_)
    | (with_reducible refine Rf.list_lst ?_)
    | (with_reducible refine Rf.list_tup ?_)
    | (with_reducible refine Rf.sl_tup ?_)
    | (with_reducible refine Rf.sl_lst ?_)
    | (with_reducible refine Rf.rt_same ?_))))

namespace Nm
open PySem L2 PyProof.Rows Rf
theorem getD_at {α : Type} {l : List α} {d : α} {i : Nat} (h : i < l.length) : l.getD i d = l[i] := by rw [List.getD_eq_getElem?_getD, List.getElem?_eq_getElem h]; rfl

/-! ### names as rows of signs, their cells -/
def sg (l : List Nat) : Str := ⟨l.toArray⟩
theorem sg_list (z : Str) : sg z.cps.toList = z := by cases z; rfl
@[simp] theorem sg_cps (l : List Nat) : (sg l).cps.toList = l := by simp [sg]
theorem str_len (z : Str) : z.length = z.cps.toList.length := by cases z; simp [Str.length]
@[simp] theorem sg_len (l : List Nat) : (sg l).length = l.length := by rw [str_len, sg_cps]
theorem sg_inj {l m : List Nat} : sg l = sg m ↔ l = m := ⟨fun h => by have := congrArg (fun z => z.cps.toList) h; simpa using this, fun h => by rw [h]⟩
theorem sg_app (l m : List Nat) : sg l ++ sg m = sg (l ++ m) := by
  show Str.append (sg l) (sg m) = _
  simp [Str.append, sg]
def letB (c : Nat) : Bool := decide (97 ≤ c) && decide (c ≤ 122)
/-- at most eight letters, at least one -/
def nameB (l : List Nat) : Bool := decide (1 ≤ l.length) && decide (l.length ≤ 8) && l.all letB
def figA (l : List Nat) (i : Nat) : Int := if i < l.length then (l.getD i 0 : Int) - 96 else 0
def cellStep (l : List Nat) (c : Int) (i : Nat) : Int := c * 27 + figA l i
def cellOf (l : List Nat) : Int := (List.range 8).foldl (cellStep l) 0
/-- the letters of the last figures of a cell, noughts left out -/
def lo : Nat → Int → List Nat → List Nat × Int
  | 0, c, acc => (acc, c)
  | k + 1, c, acc => lo k (c / 27) (if 0 < c % 27 then ((c % 27).toNat + 96) :: acc else acc)
def letters (c : Int) : List Nat := (lo 8 c []).1
def nameOf (c : Int) : Option (List Nat) := if letters c ≠ [] ∧ cellOf (letters c) = c then some (letters c) else none
theorem lo_len : ∀ (k : Nat) (c : Int) (acc : List Nat), (lo k c acc).1.length ≤ k + acc.length
  | 0, c, acc => by simp [lo]
  | k + 1, c, acc => by
    unfold lo
    have := lo_len k (c / 27) (if 0 < c % 27 then ((c % 27).toNat + 96) :: acc else acc)
    split at this <;> rename_i h
    · rw [if_pos h]; simp at this ⊢; omega
    · rw [if_neg h]; omega
theorem lo_let : ∀ (k : Nat) (c : Int) (acc : List Nat), acc.all letB = true → (lo k c acc).1.all letB = true
  | 0, c, acc, h => h
  | k + 1, c, acc, h => by
    unfold lo
    refine lo_let k _ _ ?_
    split
    · rename_i h2
      rw [List.all_cons, h, Bool.and_true]
      have : c % 27 < 27 := Int.emod_lt_of_pos _ (by decide)
      simp only [letB, Bool.and_eq_true, decide_eq_true_eq]
      omega
    · exact h
theorem letters_name {c : Int} (h : letters c ≠ []) : nameB (letters c) = true := by
  have h1 := lo_len 8 c []
  have h2 := lo_let 8 c [] rfl
  unfold nameB
  have h3 : 1 ≤ (letters c).length := by
    cases e : letters c with
    | nil => exact absurd e h
    | cons a l => simp
  simp only [Bool.and_eq_true, decide_eq_true_eq]
  exact ⟨⟨h3, by unfold letters; simpa using h1⟩, h2⟩
/-! figures of a row of them -/
def val (c : Int) (D : List Nat) : Int := D.foldl (fun (c : Int) (d : Nat) => c * 27 + (d : Int)) c
def pos (D : List Nat) : List Nat := (D.filter fun d => decide (0 < d)).map (· + 96)
theorem val_snoc (c : Int) (D : List Nat) (d : Nat) : val c (D ++ [d]) = val c D * 27 + d := by simp [val]
theorem lo_val : ∀ (n : Nat) (D : List Nat) (c : Int) (acc : List Nat), D.length = n → (∀ d ∈ D, d < 27) → lo n (val c D) acc = (pos D ++ acc, c)
  | 0, D, c, acc, hn, h => by
    have : D = [] := List.length_eq_zero_iff.mp hn
    subst this; simp [lo, val, pos]
  | n + 1, D, c, acc, hn, h => by
    obtain ⟨E, d, rfl⟩ : ∃ E d, D = E ++ [d] := by
      have hne : D ≠ [] := fun z => by subst z; cases hn
      exact ⟨D.dropLast, D.getLast hne, (List.dropLast_concat_getLast hne).symm⟩
    have hd : d < 27 := h d (by simp)
    rw [val_snoc]
    unfold lo
    have e1 : (val c E * 27 + (d : Int)) % 27 = d := by omega
    have e2 : (val c E * 27 + (d : Int)) / 27 = val c E := by omega
    rw [e1, e2, lo_val n E c _ (by simpa using hn) (fun x hx => h x (by simp [hx]))]
    unfold pos
    by_cases hz : 0 < d
    · simp [hz, List.filter_append]
    · have : d = 0 := by omega
      subst this
      simp [List.filter_append]
def figs (l : List Nat) : List Nat := (List.range 8).map fun i => if i < l.length then l.getD i 0 - 96 else 0
theorem cellOf_val {l : List Nat} (h : l.all letB = true) : cellOf l = val 0 (figs l) := by
  unfold cellOf val figs
  rw [List.foldl_map]
  have : ∀ (is : List Nat) (c : Int), is.foldl (cellStep l) c = is.foldl (fun c i => c * 27 + ((if i < l.length then l.getD i 0 - 96 else 0 : Nat) : Int)) c := by
    intro is
    induction is with
    | nil => intro c; rfl
    | cons i is ih =>
      intro c
      rw [List.foldl_cons, List.foldl_cons]
      have e : cellStep l c i = c * 27 + ((if i < l.length then l.getD i 0 - 96 else 0 : Nat) : Int) := by
        unfold cellStep figA
        by_cases hi : i < l.length
        · rw [if_pos hi, if_pos hi]
          have hm : l.getD i 0 ∈ l := by rw [getD_at hi]; exact List.getElem_mem hi
          have := List.all_eq_true.mp h _ hm
          simp only [letB, Bool.and_eq_true, decide_eq_true_eq] at this
          omega
        · rw [if_neg hi, if_neg hi]; rfl
      rw [e, ih]
  exact this _ 0
theorem figs_small {l : List Nat} (h : l.all letB = true) : ∀ d ∈ figs l, d < 27 := by
  intro d hd
  obtain ⟨i, hi, rfl⟩ := List.mem_map.mp hd
  split
  · rename_i hl
    have hm : l.getD i 0 ∈ l := by rw [getD_at hl]; exact List.getElem_mem hl
    have := List.all_eq_true.mp h _ hm
    simp only [letB, Bool.and_eq_true, decide_eq_true_eq] at this
    omega
  · decide
theorem pos_figs {l : List Nat} (h : l.all letB = true) (h8 : l.length ≤ 8) : pos (figs l) = l := by
  have e : figs l = (l.map (· - 96)) ++ List.replicate (8 - l.length) 0 := by
    unfold figs
    apply List.ext_getElem
    · simp; omega
    · intro i h1 h2
      simp at h1
      rw [List.getElem_map, List.getElem_range]
      by_cases hi : i < l.length
      · rw [if_pos hi, List.getElem_append_left (by simpa using hi), List.getElem_map, getD_at hi]
      · rw [if_neg hi, List.getElem_append_right (by simp; omega), List.getElem_replicate]
  rw [e]
  unfold pos
  rw [List.filter_append, List.map_append]
  have z : (List.replicate (8 - l.length) 0).filter (fun d => decide (0 < d)) = [] := by
    rw [List.filter_eq_nil_iff]
    intro d hd
    obtain ⟨_, rfl⟩ := List.mem_replicate.mp hd
    decide
  rw [z]
  simp only [List.map_nil, List.append_nil]
  clear e z h8
  induction l with
  | nil => rfl
  | cons a l ih =>
    rw [List.all_cons, Bool.and_eq_true] at h
    have ha := h.1
    simp only [letB, Bool.and_eq_true, decide_eq_true_eq] at ha
    have : decide (0 < a - 96) = true := by simp; omega
    rw [List.map_cons, List.filter_cons, if_pos this, List.map_cons, ih h.2]
    congr 1
    omega
theorem letters_cell {l : List Nat} (h : nameB l = true) : letters (cellOf l) = l := by
  unfold nameB at h
  simp only [Bool.and_eq_true, decide_eq_true_eq] at h
  unfold letters
  rw [cellOf_val h.2, lo_val 8 (figs l) 0 [] (by simp [figs]) (figs_small h.2), pos_figs h.2 h.1.2]
  simp
theorem nameOf_cell {l : List Nat} (h : nameB l = true) : nameOf (cellOf l) = some l := by
  unfold nameOf
  rw [letters_cell h]
  have : l ≠ [] := fun z => by subst z; simp [nameB] at h
  rw [if_pos ⟨this, rfl⟩]
theorem nameOf_some {c : Int} {l : List Nat} (h : nameOf c = some l) : nameB l = true ∧ cellOf l = c := by
  unfold nameOf at h
  split at h
  · rename_i h2; cases h; exact ⟨letters_name h2.1, h2.2⟩
  · cases h
theorem val_lt (D : List Nat) (h : ∀ d ∈ D, d < 27) : ∀ c : Int, 0 ≤ c → 0 ≤ val c D ∧ val c D < (c + 1) * 27 ^ D.length := by
  induction D with
  | nil => intro c hc; simp [val]; omega
  | cons d D ih =>
    intro c hc
    have hd := h d (by simp)
    have := ih (fun x hx => h x (by simp [hx])) (c * 27 + d) (by omega)
    have e : val c (d :: D) = val (c * 27 + d) D := rfl
    rw [e]
    refine ⟨this.1, Int.lt_of_lt_of_le this.2 ?_⟩
    rw [List.length_cons, Int.pow_succ]
    have h1 : c * 27 + (d : Int) + 1 ≤ (c + 1) * 27 := by omega
    calc (c * 27 + (d : Int) + 1) * 27 ^ D.length ≤ ((c + 1) * 27) * 27 ^ D.length := Int.mul_le_mul_of_nonneg_right h1 (Int.pow_nonneg (by decide))
      _ = (c + 1) * (27 ^ D.length * 27) := by rw [Int.mul_assoc, Int.mul_comm 27]
theorem cellOf_lt {l : List Nat} (h : l.all letB = true) : 0 ≤ cellOf l ∧ cellOf l < 282429536481 := by
  rw [cellOf_val h]
  have := val_lt (figs l) (figs_small h) 0 (by decide)
  have e : (figs l).length = 8 := by simp [figs]
  rw [e] at this
  have e2 : ((0 : Int) + 1) * 27 ^ 8 = 282429536481 := by decide
  rw [e2] at this
  exact this
/-! the law's own way: figures first, then letters -/
def dg : Nat → Int → List Int → List Int × Int
  | 0, c, acc => (acc, c)
  | k + 1, c, acc => dg k (c / 27) (c % 27 :: acc)
def posI (D : List Int) : List Nat := (D.filter fun d => decide (0 < d)).map fun d => d.toNat + 96
theorem dg_lo : ∀ (k : Nat) (c : Int) (acc : List Int), (lo k c (posI acc)) = (posI (dg k c acc).1, (dg k c acc).2)
  | 0, c, acc => rfl
  | k + 1, c, acc => by
    unfold lo dg
    have e : (if 0 < c % 27 then ((c % 27).toNat + 96) :: posI acc else posI acc) = posI (c % 27 :: acc) := by
      unfold posI
      by_cases h : 0 < c % 27
      · simp [h]
      · simp [h]
    rw [e, dg_lo k]
theorem letters_dg (c : Int) : letters c = posI (dg 8 c []).1 := by
  unfold letters
  have := dg_lo 8 c []
  rw [show posI [] = [] from rfl] at this
  rw [this]
theorem dg_left : ∀ (k : Nat) (c : Int) (acc : List Int), 0 ≤ c → c < 27 ^ k → (dg k c acc).2 = 0
  | 0, c, acc, h, h2 => by simp at h2; show c = 0; omega
  | k + 1, c, acc, h, h2 => by
    unfold dg
    refine dg_left k _ _ (Int.ediv_nonneg h (by decide)) ?_
    rw [Int.pow_succ] at h2
    exact Int.ediv_lt_of_lt_mul (by decide) h2
theorem dg_small : ∀ (k : Nat) (c : Int) (acc : List Int), (∀ d ∈ acc, 0 ≤ d ∧ d < 27) → ∀ d ∈ (dg k c acc).1, 0 ≤ d ∧ d < 27
  | 0, c, acc, h => h
  | k + 1, c, acc, h => by
    unfold dg
    refine dg_small k _ _ fun d hd => ?_
    rcases List.mem_cons.mp hd with rfl | hd
    · exact ⟨Int.emod_nonneg _ (by decide), Int.emod_lt_of_pos _ (by decide)⟩
    · exact h d hd
/-- what the law asks of a name's cell: the same -/
theorem own_nameOf (c : Int) : (if (dg 8 c []).2 = 0 ∧ letters c ≠ [] ∧ cellOf (letters c) = c then some (letters c) else none) = nameOf c := by
  unfold nameOf
  by_cases h : letters c ≠ [] ∧ cellOf (letters c) = c
  · rw [if_pos h, if_pos]
    refine ⟨?_, h⟩
    have hn := letters_name h.1
    unfold nameB at hn
    simp only [Bool.and_eq_true, decide_eq_true_eq] at hn
    have := cellOf_lt hn.2
    rw [h.2] at this
    exact dg_left 8 c [] this.1 (by have e : (27 : Int) ^ 8 = 282429536481 := by decide
                                    rw [e]; exact this.2)
  · rw [if_neg h, if_neg (fun z => h z.2)]
end Nm

namespace Rf
open PySem L2 Nm

/-! ### texts, walks, fields: what a goal is led to -/
theorem alpha_cps : ("abcdefghijklmnopqrstuvwxyz" : Str).cps.toList = (List.range 26).map (· + 97) := by decide +kernel
theorem mem_alpha (c : Nat) : decide (c ∈ ("abcdefghijklmnopqrstuvwxyz" : Str).cps.toList) = letB c := by
  rw [alpha_cps]
  unfold letB
  rw [← Bool.decide_and]
  apply decide_eq_decide.mpr
  rw [List.mem_map]
  constructor
  · rintro ⟨i, hi, rfl⟩
    have := List.mem_range.mp hi
    omega
  · intro h
    exact ⟨c - 97, List.mem_range.mpr (by omega), by omega⟩
theorem alpha_ix : ∀ k : Fin 26, Builtin.Str.occurrences ("abcdefghijklmnopqrstuvwxyz" : Str) ⟨#[97 + k.val]⟩ 0 ("abcdefghijklmnopqrstuvwxyz" : Str).length 1 = [k.val] := by decide +kernel
section
variable {bs : List Nat} {S : Store} {k : Bool} {i j : Int} {a b : Str} {xs ys : List PyData} {Q : W → Store → Prop} {P : W → Prop}
theorem in_sign {neg : Bool} {c : Nat} (q : Q (.dat (.bool (decide (c ∈ b.cps.toList) != neg))) S) : wpo (inAF neg bs (.dat (.str ⟨#[c]⟩)) (.dat (.str b)) S) Q := q
theorem in_alpha {c : Nat} (q : Q (.dat (.bool (letB c))) S) : wpo (inAF false bs (.dat (.str ⟨#[c]⟩)) (.dat (.str ("abcdefghijklmnopqrstuvwxyz" : Str))) S) Q := by
  refine in_sign ?_
  rw [mem_alpha]
  cases h : letB c <;> rw [h] at q <;> exact q
theorem sind_alpha {c : Nat} (h : letB c = true) (q : Q (.dat (.int ((c : Int) - 97))) S) : wpo (sindF bs (.dat (.str ("abcdefghijklmnopqrstuvwxyz" : Str))) [.dat (.str ⟨#[c]⟩)] S) Q := by
  simp only [letB, Bool.and_eq_true, decide_eq_true_eq] at h
  have e := alpha_ix ⟨c - 97, by omega⟩
  have e2 : 97 + (c - 97) = c := by omega
  simp only [e2] at e
  unfold sindF
  simp only [e]
  have e3 : (((c - 97 : Nat)) : Int) = (c : Int) - 97 := by omega
  show Q (.dat (.int ((c - 97 : Nat) : Int))) S
  rw [e3]; exact q
theorem alpha_at {c : Nat} (h : c < 26) : L2.atI ("abcdefghijklmnopqrstuvwxyz" : Str).cps.toList (c : Int) = some (c + 97) := by
  refine atI_ofNat ?_
  rw [alpha_cps, List.getElem?_map, List.getElem?_range h]; rfl
theorem ix_alpha {c : Int} (h0 : 0 ≤ c) (h : c < 26) (q : Q (.dat (.str (sg [c.toNat + 97]))) S) : wpo (ixF bs (.dat (.str ("abcdefghijklmnopqrstuvwxyz" : Str))) (.dat (.int c)) S) Q := by
  obtain ⟨n, rfl⟩ := Int.eq_ofNat_of_zero_le h0
  exact ix_str (by decide +kernel) (alpha_at (by omega)) q
theorem add_sg {l m : List Nat} (h : l.length + m.length ≤ 100000) (q : Q (.dat (.str (sg (l ++ m)))) S) : wpo (addF k bs (.dat (.str (sg l))) (.dat (.str (sg m))) S) Q := by
  refine add_str (by simpa using h) ?_
  rw [sg_app]; exact q
theorem len_sg {l : List Nat} (h : l.length ≤ 100000) (q : Q (.dat (.int l.length)) S) : wpo (un lenW bs [.dat (.str (sg l))] S) Q := by
  refine len_str (by simpa using h) ?_
  simpa using q
theorem ix_sg {l : List Nat} {c : Nat} (h : l.length ≤ 100000) (hi : L2.atI l i = some c) (q : Q (.dat (.str (sg [c]))) S) : wpo (ixF bs (.dat (.str (sg l))) (.dat (.int i)) S) Q :=
  ix_str (by simpa using h) (by simpa using hi) q
/-! what a walk gets -/
variable {Qi : Iter → Prop}
theorem its_str {z : Str} (q : Qi (.items (z.cps.toList.map fun c => .dat (.str ⟨#[c]⟩)))) : ∃ it, iterS S (.dat (.str z)) = some it ∧ Qi it := ⟨_, rfl, q⟩
theorem its_tup (q : Qi (.items (xs.map .dat))) : ∃ it, iterS S (.dat (.tuple xs)) = some it ∧ Qi it := ⟨_, rfl, q⟩
theorem its_lst (q : Qi (.items (xs.map .dat))) : ∃ it, iterS S (.dat (.list xs)) = some it ∧ Qi it := ⟨_, rfl, q⟩
theorem wp_itS {env : Env} {m : M W} {Q : Iter → Store → Prop} {E : EK} (h : (m bs env S).wp (fun w S1 => ∃ it, iterS S1 w = some it ∧ Q it S1) E) : (mItS m bs env S).wp Q E := bind_wp (h.imp fun w S1 ⟨it, e, q⟩ => by
  show Out.wp (match iterS S1 w with | some it => Out.ok it S1 | none => .stuck) Q E
  rw [e]; exact q)
/-! texts joined -/
theorem joinL_nil : ∀ l : List (List Nat), TL.joinL [] l = l.flatten
  | [] => rfl
  | [p] => by simp [TL.joinL]
  | p :: q :: r => by
    show p ++ ([] ++ TL.joinL [] (q :: r)) = _
    rw [joinL_nil (q :: r)]; simp
theorem join_empty (l : List Str) : Txt.join (sg []) l = sg (l.map fun z => z.cps.toList).flatten := by
  have := TL.tl_join (sg []) l
  have e : TL.tl (sg []) = [] := by simp [TL.tl]
  rw [e, joinL_nil] at this
  rw [← sg_list (Txt.join (sg []) l), TL.join_eq]
  exact congrArg sg this
end
theorem join_sgs {bs : List Nat} {S : Store} {Q : W → Store → Prop} {ls : List (List Nat)} (h : ls.flatten.length ≤ 100000) (q : Q (.dat (.str (sg ls.flatten))) S) : wpo (joinF bs (.dat (.str (sg []))) [.dat (.list (ls.map fun l => .str (sg l)))] S) Q := by
  have e1 : (seqOf S (.dat (.list (ls.map fun l => PyData.str (sg l))))).bind strsW = some (ls.map sg) := by
    show strsW ((ls.map fun l => PyData.str (sg l)).map W.dat) = _
    clear h q
    induction ls with
    | nil => rfl
    | cons l ls ih => simp only [List.map_cons, strsW, ih, Option.map_some]
  have e2 : (ls.map sg).map (·.length) = ls.map (·.length) := by simp [Function.comp_def]
  have e3 : ((ls.map sg).map (·.length)).sum + (ls.map sg).length * (sg []).length ≤ 16777216 := by
    rw [e2, ← List.length_flatten]
    have : (sg []).length = 0 := by simp
    rw [this]; omega
  unfold joinF
  simp only [e1]
  rw [if_pos e3, join_empty]
  have e4 : ((ls.map sg).map fun z => z.cps.toList) = ls := by simp [Function.comp_def]
  rw [e4]; exact q
theorem tyS {z : Str} {S : Store} {A : Prop} (h : A) : wTy .str (.dat (.str z)) S = true ∧ A := ⟨rfl, h⟩
theorem tyLc {n : Nat} {ws : List W} {S : Store} {A : Prop} (hs : S[n]? = some (.lst ws)) (h : A) : wTy .lst (.loc n) S = true ∧ A := ⟨ty_loc hs, h⟩
theorem ifNT {A B : Prop} (h : B) : ((!true) = true → A) ∧ ((!true) = false → B) := ⟨fun z => (nomatch z), fun _ => h⟩
theorem ifNF {A B : Prop} (h : A) : ((!false) = true → A) ∧ ((!false) = false → B) := ⟨fun _ => h, fun z => (nomatch z)⟩
/-! classes -/
def FL (cs : List Nat) (f : Str) (Q : W → Store → Prop) (w : W) (S : Store) : Prop := ∃ n c fs v, w = .loc n ∧ S[n]? = some (.ins c fs) ∧ c ∈ cs ∧ fs.lookup f = some v ∧ Q v.weak S
def FA (cs : List Nat) (f : Str) (K : W → Store → Prop) (w : W) (S : Store) : Prop := ∃ u, fldOf cs f S w = some u ∧ K u S
def SF (cs : List Nat) (f : Str) (bs : List Nat) (P : Store → Prop) (x y : W) (S : Store) : Prop := ∃ S3, setFld cs f bs x y S = some S3 ∧ P S3
def ME (c : Nat) (m : Str) (K : Nat → Store → Prop) (w : W) (S : Store) : Prop := ∃ n fs, w = .loc n ∧ S[n]? = some (.ins c fs) ∧ fs.lookup m = none ∧ K n S
theorem rt_len {S' : Store} {k : Nat} {Q : W → Store → Prop} {d : PyData} (hl : S'.length = k) (q : Q (.dat d) S') : RT k Q (.dat d) S' := rt_dat (by rw [List.take_of_length_le (by omega)]; exact q)
theorem empty_sg : (("" : Str)) = sg [] := by decide +kernel
/-! stores -/
theorem rt_app {S T : Store} {Q : W → Store → Prop} {d : PyData} (q : Q (.dat d) S) : RT S.length Q (.dat d) (S ++ T) := rt_dat (by rw [List.take_left']; exact q; rfl)
theorem at_app1 (S : Store) (c : Cell) : (S ++ [c])[S.length]? = some c := by simp
theorem set_app (S : Store) (c d : Cell) : (S ++ [c]).set S.length d = S ++ [d] := by simp
/-! ranges -/
theorem rangeW_map (n : Int) : rangeW 0 n = (List.range n.toNat).map fun (k : Nat) => W.dat (.int (k : Int)) := by
  unfold rangeW
  rw [show (n - 0).toNat = n.toNat by omega]
  apply List.map_congr_left
  intro k _
  show W.dat (.int (0 + (k : Int))) = _
  rw [Int.zero_add]
theorem range_at {n k : Nat} {post : List Nat} {pre : List Nat} (h : List.range n = pre ++ k :: post) : pre = List.range pre.length ∧ k = pre.length ∧ pre.length < n := by
  have hl := congrArg List.length h
  simp at hl
  have hp : pre = (List.range n).take pre.length := by rw [h]; simp
  rw [List.take_range, Nat.min_eq_left (by omega)] at hp
  have hk : (List.range n)[pre.length]? = some k := by rw [h]; simp
  rw [List.getElem?_range (by omega)] at hk
  cases hk
  exact ⟨hp, rfl, by omega⟩
section
variable {bs : List Nat} {N : Env → Store → Prop} {R : W → Store → Prop} {B C : Env → Store → Prop} {E : Nat → List W → Env → Store → Prop}
theorem wp_range {n : Int} {bd : W → MS} {env : Env} {S : Store} (I : Nat → Env → Store → Prop) (h0 : I 0 env S) (step : ∀ (k : Nat) (env : Env) (S : Store), (k : Int) < n → I k env S → (bd (.dat (.int (k : Int))) bs env S).wp (I (k + 1)) R N (I (k + 1)) E) (done : ∀ env S, I n.toNat env S → N env S) :
    (forG (.items (rangeW 0 n)) bd (Iter.items (rangeW 0 n)).fuel 0 bs env S).wp N R B C E := by
  rw [rangeW_map]
  refine wp_items (fun pre => I pre.length) h0 (fun pre x post env S hx h => ?_) (fun env S h => done env S (by simpa using h))
  obtain ⟨_, rfl, hl⟩ := range_at hx
  have := step pre.length env S (by omega) h
  simpa using this
theorem wp_compRange {n : Int} {t : TM} {c : M Bool} {e : M W} {env : Env} {S : Store} {Q : List W → Store → Prop} {E' : EK} (I : Nat → List W → Store → Prop) (h0 : I 0 [] S)
    (step : ∀ (k : Nat) (acc : List W) (S : Store), (k : Int) < n → I k acc S → (t (.dat (.int (k : Int))) bs env S).wp (fun env1 S1 => (c bs env1 S1).wp (fun b S2 => (b = true → (e bs env1 S2).wp (fun y S3 => acc.length < 100000 ∧ I (k + 1) (acc ++ [y]) S3) NoE) ∧ (b = false → I (k + 1) acc S2)) NoE) NoE)
    (done : ∀ acc S, I n.toNat acc S → Q acc S) : (compG (.items (rangeW 0 n)) t c e (Iter.items (rangeW 0 n)).fuel 0 [] bs env S).wp Q E' := by
  rw [rangeW_map]
  refine wp_compG (f := fun (k : Nat) => W.dat (.int (k : Int))) (xs := List.range n.toNat) (fun pre => I pre.length) (fun pre post acc S hx _ => next_of hx) (fun pre x post acc S hx h => ?_) (fun acc S h => done acc S (by simpa using h)) _ [] (List.range n.toNat) [] S rfl (by simp [Iter.fuel]) h0
  obtain ⟨_, rfl, hl⟩ := range_at hx
  have := step pre.length acc S (by omega) h
  simpa using this
end
end Rf
local macro_rules
  | `(tactic| array_get_dec) => `(tactic| ((first
    | (with_reducible refine Rf.wp_itS ?_)
    | (with_reducible refine Rf.its_str ?_)
    | (with_reducible refine Rf.its_tup ?_)
    | (with_reducible refine Rf.its_lst ?_)
    | (with_reducible refine Rf.its_tw ?_)
    | (with_reducible refine Rf.its_lw ?_)
    | (with_reducible refine Rf.wp_conW ?_)
    | (with_reducible refine Rf.wp_mt ?_)
    | (with_reducible refine Rf.tyS ?_)
    | (with_reducible refine Rf.tyLd ?_)
    | (with_reducible refine Rf.tyLc (by assumption) ?_)
    | (with_reducible refine Rf.in_alpha ?_)
    | (with_reducible refine Rf.ifNT ?_)
    | (with_reducible refine Rf.wp_fld ?_)
    | (with_reducible refine Rf.wp_sFld ?_)
    | (with_reducible refine Rf.wp_sFldA ?_)
    | (with_reducible refine Rf.wp_meth ?_)
    | (with_reducible refine Rf.iadd_int ?_)
    | (with_reducible refine Rf.rt_app ?_)
    | ((with_reducible refine Rf.exRng1 ?_ ?_); omega)
    | ((with_reducible refine Rf.exRng2 ?_ ?_); omega)
    | (with_reducible refine Rf.ifNF ?_)
    | dsimp only [Rf.strB, Rf.intB, Rf.boolB, Rf.tupB, Rf.dicB, Rf.noneB]
    | (with_reducible refine Rf.wp_seq ?_)
    | (with_reducible refine Rf.wp_asg ?_)
    | (with_reducible refine Rf.wp_name ?_)
    | (with_reducible refine Rf.wp_ret ?_)
    | (with_reducible refine Rf.wp_sIf ?_)
    | (with_reducible refine Rf.wp_drop ?_)
    | (with_reducible refine Rf.wp_varD (by with_unfolding_all exact rfl) ?_)
    | (with_reducible refine Rf.wp_varL (by with_unfolding_all exact rfl) ?_)
    | (with_reducible refine Rf.wp_varT (by with_unfolding_all exact rfl) ?_)
    | (with_reducible refine Rf.wp_varLw (by with_unfolding_all exact rfl) ?_)
    | (with_reducible refine Rf.wp_varKt (by with_unfolding_all exact rfl) ?_)
    | (with_reducible refine Rf.wp_varK (by with_unfolding_all exact rfl) ?_)
    | (with_reducible refine Rf.wp_con ?_)
    | (with_reducible refine Rf.wp_bin ?_)
    | (with_reducible refine Rf.wp_B ?_)
    | (with_reducible refine Rf.isB_mk ?_)
    | (with_reducible refine Rf.wp_not ?_)
    | (with_reducible refine Rf.wp_if ?_)
    | (with_reducible refine Rf.wp_ok ?_)
    | (with_reducible refine Rf.nl_dat ?_)
    | (with_reducible refine Rf.nl_map ?_)
    | (with_reducible refine Rf.nl_cell ?_)
    | (with_reducible refine Rf.wp_yes ?_)
    | (with_reducible refine Rf.wp_tru ?_)
    | (with_reducible refine Rf.wp_andV ?_)
    | (with_reducible refine Rf.wp_orV ?_)
    | (with_reducible refine Rf.wp_notV ?_)
    | (with_reducible refine Rf.exTru (by with_unfolding_all exact rfl) ?_)
    | (with_reducible refine Rf.wp_neg ?_)
    | (with_reducible refine Rf.exInt ?_)
    | (with_reducible refine Rf.wp_chain ?_)
    | (with_reducible refine Rf.wp_cons ?_)
    | (with_reducible refine Rf.wp_nil ?_)
    | (with_reducible refine Rf.wp_tup ?_)
    | (with_reducible refine Rf.tp_dat (by with_unfolding_all exact rfl) (by with_unfolding_all exact rfl) ?_)
    | (with_reducible refine Rf.wp_lst ?_)
    | (with_reducible refine Rf.lp_dat (by with_unfolding_all exact rfl) (by with_unfolding_all exact rfl) ?_)
    | (with_reducible refine Rf.lp_cell (by with_unfolding_all exact rfl) ?_)
    | (with_reducible refine Rf.wp_CB ?_)
    | (with_reducible refine Rf.wp_call ?_)
    | (with_reducible refine Rf.wp_isi ?_)
    | (with_reducible refine Rf.isi_int ?_)
    | (with_reducible refine Rf.isi_bool ?_)
    | (with_reducible refine Rf.isi_tup ?_)
    | (with_reducible refine Rf.isi_str ?_)
    | (with_reducible refine Rf.isi_dic ?_)
    | (with_reducible refine Rf.wp_sl ?_)
    | (with_reducible refine Rf.wp_noPart ?_)
    | (with_reducible refine Rf.wp_part ?_)
    | (with_reducible refine Rf.wp_dic0t ?_)
    | (with_reducible refine Rf.wp_dic0f ?_)
    | (with_reducible refine Rf.wp_par ?_)
    | (with_reducible refine Rf.ex2 ?_)
    | (with_reducible refine Rf.wp_par3 ?_)
    | (with_reducible refine Rf.ex3 ?_)
    | (with_reducible refine Rf.wp_comp ?_)
    | (with_reducible refine Rf.wp_it ?_)
    | (with_reducible refine Rf.itd_tup ?_)
    | (with_reducible refine Rf.itd_lst ?_)
    | (with_reducible refine Rf.wp_for ?_)
    | (with_reducible refine Rf.wp_body ?_)
    | (with_reducible refine Rf.wp_rng1 ?_)
    | (with_reducible refine Rf.wp_rng2 ?_)
    | (with_reducible refine Rf.wp_sNil ?_)
    | (with_reducible refine Rf.wp_retN ?_)
    | (with_reducible refine Rf.wp_brk ?_)
    | (with_reducible refine Rf.wp_cnt ?_)
    | (with_reducible refine Rf.ifT ?_)
    | (with_reducible refine Rf.ifF ?_)
    | (with_reducible refine Rf.add_int ?_)
    | (with_reducible refine Rf.sub_int ?_)
    | ((with_reducible refine Rf.mod_int ?_ ?_); first | decide | omega)
    | ((with_reducible refine Rf.div_int ?_ ?_); first | decide | omega)
    | ((with_reducible refine Rf.mul_int ?_ ?_); first | (refine Rf.mulOk_l ?_; decide) | (refine Rf.mulOk_r ?_; decide) | (refine Rf.mulOk_l ?_; omega) | (refine Rf.mulOk_r ?_; omega))
    | (with_reducible refine Rf.lt_int ?_)
    | (with_reducible refine Rf.le_int ?_)
    | (with_reducible refine Rf.gt_int ?_)
    | (with_reducible refine Rf.ge_int ?_)
    | (with_reducible refine Rf.lt_str ?_)
    | (with_reducible refine Rf.eq_int ?_)
    | (with_reducible refine Rf.ne_int ?_)
    | (with_reducible refine Rf.eq_str ?_)
    | (with_reducible refine Rf.ne_str ?_)
    | (with_reducible refine Rf.isn_dat ?_)
    | (with_reducible refine Rf.isnt_dat ?_)
    | (with_reducible refine Rf.len_tup ?_)
    | (with_reducible refine Rf.len_lst ?_)
    | (with_reducible refine Rf.len_tw ?_)
    | (with_reducible refine Rf.len_lw ?_)
    | (with_reducible refine Rf.int_int ?_)
    | (with_reducible refine Rf.int_bool ?_)
    | (with_reducible refine Rf.abs_int ?_)
    | (with_reducible refine Rf.max_int ?_)
    | (with_reducible refine Rf.min_int ?_)
    | (with_reducible refine Rf.all_map ?_)
    | (with_reducible refine Rf.any_map ?_)
    | (with_reducible refine Rf.tuple_lst ?_)
    | (with_reducible refine Rf.tuple_tup ?_)
    | (with_reducible refine Rf.list_lst ?_)
    | (with_reducible refine Rf.list_tup ?_)
    | (with_reducible refine Rf.sl_tup ?_)
    | (with_reducible refine Rf.sl_lst ?_)
    | (with_reducible refine Rf.rt_same ?_)); repeat (first
    | (with_reducible refine Rf.wp_itS ?_)
    | (with_reducible refine Rf.its_str ?_)
    | (with_reducible refine Rf.its_tup ?_)
    | (with_reducible refine Rf.its_lst ?_)
    | (with_reducible refine Rf.its_tw ?_)
    | (with_reducible refine Rf.its_lw ?_)
    | (with_reducible refine Rf.wp_conW ?_)
    | (with_reducible refine Rf.wp_mt ?_)
    | (with_reducible refine Rf.tyS ?_)
    | (with_reducible refine Rf.tyLd ?_)
    | (with_reducible refine Rf.tyLc (by assumption) ?_)
    | (with_reducible refine Rf.in_alpha ?_)
    | (with_reducible refine Rf.ifNT ?_)
    | (with_reducible refine Rf.wp_fld ?_)
    | (with_reducible refine Rf.wp_sFld ?_)
    | (with_reducible refine Rf.wp_sFldA ?_)
    | (with_reducible refine Rf.wp_meth ?_)
    | (with_reducible refine Rf.iadd_int ?_)
    | (with_reducible refine Rf.rt_app ?_)
    | ((with_reducible refine Rf.exRng1 ?_ ?_); omega)
    | ((with_reducible refine Rf.exRng2 ?_ ?_); omega)
    | (with_reducible refine Rf.ifNF ?_)
    | dsimp only [Rf.strB, Rf.intB, Rf.boolB, Rf.tupB, Rf.dicB, Rf.noneB]
    | (with_reducible refine Rf.wp_seq ?_)
    | (with_reducible refine Rf.wp_asg ?_)
    | (with_reducible refine Rf.wp_name ?_)
    | (with_reducible refine Rf.wp_ret ?_)
    | (with_reducible refine Rf.wp_sIf ?_)
    | (with_reducible refine Rf.wp_drop ?_)
    | (with_reducible refine Rf.wp_varD (by with_unfolding_all exact rfl) ?_)
    | (with_reducible refine Rf.wp_varL (by with_unfolding_all exact rfl) ?_)
    | (with_reducible refine Rf.wp_varT (by with_unfolding_all exact rfl) ?_)
    | (with_reducible refine Rf.wp_varLw (by with_unfolding_all exact rfl) ?_)
    | (with_reducible refine Rf.wp_varKt (by with_unfolding_all exact rfl) ?_)
    | (with_reducible refine Rf.wp_varK (by with_unfolding_all exact rfl) ?_)
    | (with_reducible refine Rf.wp_con ?_)
    | (with_reducible refine Rf.wp_bin ?_)
    | (with_reducible refine Rf.wp_B ?_)
    | (with_reducible refine Rf.isB_mk ?_)
    | (with_reducible refine Rf.wp_not ?_)
    | (with_reducible refine Rf.wp_if ?_)
    | (with_reducible refine Rf.wp_ok ?_)
    | (with_reducible refine Rf.nl_dat ?_)
    | (with_reducible refine Rf.nl_map ?_)
    | (with_reducible refine Rf.nl_cell ?_)
    | (with_reducible refine Rf.wp_yes ?_)
    | (with_reducible refine Rf.wp_tru ?_)
    | (with_reducible refine Rf.wp_andV ?_)
    | (with_reducible refine Rf.wp_orV ?_)
    | (with_reducible refine Rf.wp_notV ?_)
    | (with_reducible refine Rf.exTru (by with_unfolding_all exact rfl) ?_)
    | (with_reducible refine Rf.wp_neg ?_)
    | (with_reducible refine Rf.exInt ?_)
    | (with_reducible refine Rf.wp_chain ?_)
    | (with_reducible refine Rf.wp_cons ?_)
    | (with_reducible refine Rf.wp_nil ?_)
    | (with_reducible refine Rf.wp_tup ?_)
    | (with_reducible refine Rf.tp_dat (by with_unfolding_all exact rfl) (by with_unfolding_all exact rfl) ?_)
    | (with_reducible refine Rf.wp_lst ?_)
    | (with_reducible refine Rf.lp_dat (by with_unfolding_all exact rfl) (by with_unfolding_all exact rfl) ?_)
    | (with_reducible refine Rf.lp_cell (by with_unfolding_all exact rfl) ?_)
    | (with_reducible refine Rf.wp_CB ?_)
    | (with_reducible refine Rf.wp_call ?_)
    | (with_reducible refine Rf.wp_isi ?_)
    | (with_reducible refine Rf.isi_int ?_)
    | (with_reducible refine Rf.isi_bool ?_)
    | (with_reducible refine Rf.isi_tup ?_)
    | (with_reducible refine Rf.isi_str ?_)
    | (with_reducible refine Rf.isi_dic ?_)
    | (with_reducible refine Rf.wp_sl ?_)
    | (with_reducible refine Rf.wp_noPart ?_)
    | (with_reducible refine Rf.wp_part ?_)
    | (with_reducible refine Rf.wp_dic0t ?_)
    | (with_reducible refine Rf.wp_dic0f ?_)
    | (with_reducible refine Rf.wp_par ?_)
    | (with_reducible refine Rf.ex2 ?_)
    | (with_reducible refine Rf.wp_par3 ?_)
    | (with_reducible refine Rf.ex3 ?_)
    | (with_reducible refine Rf.wp_comp ?_)
    | (with_reducible refine Rf.wp_it ?_)
    | (with_reducible refine Rf.itd_tup ?_)
    | (with_reducible refine Rf.itd_lst ?_)
    | (with_reducible refine Rf.wp_for ?_)
    | (with_reducible refine Rf.wp_body ?_)
    | (with_reducible refine Rf.wp_rng1 ?_)
    | (with_reducible refine Rf.wp_rng2 ?_)
    | (with_reducible refine Rf.wp_sNil ?_)
    | (with_reducible refine Rf.wp_retN ?_)
    | (with_reducible refine Rf.wp_brk ?_)
    | (with_reducible refine Rf.wp_cnt ?_)
    | (with_reducible refine Rf.ifT ?_)
    | (with_reducible refine Rf.ifF ?_)
    | (with_reducible refine Rf.add_int ?_)
    | (with_reducible refine Rf.sub_int ?_)
    | ((with_reducible refine Rf.mod_int ?_ ?_); first | decide | omega)
    | ((with_reducible refine Rf.div_int ?_ ?_); first | decide | omega)
    | ((with_reducible refine Rf.mul_int ?_ ?_); first | (refine Rf.mulOk_l ?_; decide) | (refine Rf.mulOk_r ?_; decide) | (refine Rf.mulOk_l ?_; omega) | (refine Rf.mulOk_r ?_; omega))
    | (with_reducible refine Rf.lt_int ?_)
    | (with_reducible refine Rf.le_int ?_)
    | (with_reducible refine Rf.gt_int ?_)
    | (with_reducible refine Rf.ge_int ?_)
    | (with_reducible refine Rf.lt_str ?_)
    | (with_reducible refine Rf.eq_int ?_)
    | (with_reducible refine Rf.ne_int ?_)
    | (with_reducible refine Rf.eq_str ?_)
    | (with_reducible refine Rf.ne_str ?_)
    | (with_reducible refine Rf.isn_dat ?_)
    | (with_reducible refine Rf.isnt_dat ?_)
    | (with_reducible refine Rf.len_tup ?_)
    | (with_reducible refine Rf.len_lst ?_)
    | (with_reducible refine Rf.len_tw ?_)
    | (with_reducible refine Rf.len_lw ?_)
    | (with_reducible refine Rf.int_int ?_)
    | (with_reducible refine Rf.int_bool ?_)
    | (with_reducible refine Rf.abs_int ?_)
    | (with_reducible refine Rf.max_int ?_)
    | (with_reducible refine Rf.min_int ?_)
    | (with_reducible refine Rf.all_map ?_)
    | (with_reducible refine Rf.any_map ?_)
    | (with_reducible refine Rf.tuple_lst ?_)
    | (with_reducible refine Rf.tuple_tup ?_)
    | (with_reducible refine Rf.list_lst ?_)
    | (with_reducible refine Rf.list_tup ?_)
    | (with_reducible refine Rf.sl_tup ?_)
    | (with_reducible refine Rf.sl_lst ?_)
    | (with_reducible refine Rf.rt_same ?_))))

namespace Rf
open PySem L2 Nm

/-! ### comprehensions of two generators -/
section
variable {α : Type} {bs : List Nat} {env : Env} {S : Store} {E : EK}
theorem wp_compCopy {ds : List PyData} {acc : List W} {i : Nat} {Q : List W → Store → Prop} (hi : i < env.length) (hl : acc.length + ds.length ≤ 100000) (q : Q (acc ++ ds.map .dat) S) : (compG (.items (ds.map W.dat)) (tName i) mYes (mVar i) (Iter.items (ds.map W.dat)).fuel 0 acc bs env S).wp Q E := by
  refine wp_compG (f := W.dat) (xs := ds) (fun pre a S' => a = acc ++ pre.map .dat ∧ S' = S) (fun pre post _ S hx _ => next_of hx) (fun pre x post a S' hx ⟨h1, h2⟩ => ?_) (fun a S' ⟨h1, h2⟩ => by subst h1 h2; exact q) _ [] ds acc S rfl (by simp [Iter.fuel]) ⟨by simp, rfl⟩
  subst h2
  have hx2 := congrArg List.length hx
  simp at hx2
  refine wp_name (wp_yes ⟨fun _ => ?_, fun z => (nomatch z)⟩)
  refine wp_varD (List.getElem?_set_self hi) ⟨?_, ?_, rfl⟩
  · rw [h1, List.length_append, List.length_map]; omega
  · rw [h1, List.map_append, List.append_assoc]; rfl
theorem wp_comp2 {k : Bool} {mi mi1 : M Iter} {vs vs1 : List Nat} {t t1 : TM} {c c1 : M Bool} {e : M W} {Q : W → Store → Prop} (h : (mi bs env S).wp (fun it S1 => (compG2 it t c mi1 vs1 t1 c1 e it.fuel 0 [] bs (wipeE env vs) S1).wp (fun ws S2 => NL k Q ws S2) E) E) : (mComp2 k mi vs t c mi1 vs1 t1 c1 e bs env S).wp Q E :=
  bind_wp (h.imp fun it S1 h1 => bind_wp h1)
end
/-! ### others -/
section
variable {bs : List Nat} {env : Env} {S : Store} {E : EK}
/-- x[::-1] of what is known later -/
def BK (k : Bool) (Q : W → Store → Prop) (w : W) (S : Store) : Prop := (mBack k (fun _ _ S => .ok w S) [] [] S).wp Q NoE
theorem wp_back {m : M W} {Q : W → Store → Prop} {k : Bool} (h : (m bs env S).wp (fun w S1 => BK k Q w S1) E) : (mBack k m bs env S).wp Q E := bind_wp (h.imp fun w S1 q => Out.wp.use (show Out.wp _ Q NoE from q) fun _ _ z => z)
theorem bk_lst {ds : List PyData} {Q : W → Store → Prop} (q : Q (.dat (.list ds.reverse)) S) : BK false Q (.dat (.list ds)) S := by
  show Out.wp (.ok (newL false (ds.map W.dat).reverse S).1 (newL false (ds.map W.dat).reverse S).2) Q NoE
  rw [← List.map_reverse]
  have : newL false (ds.reverse.map W.dat) S = (.dat (.list ds.reverse), S) := by
    show (mkLst (ds.reverse.map W.dat), S) = _
    rw [mkLst_dat]
  rw [this]; exact q
theorem bk_loc {n : Nat} {ds : List PyData} {Q : W → Store → Prop} (hs : S[n]? = some (.lst (ds.map .dat))) (q : Q (.dat (.list ds.reverse)) S) : BK false Q (.loc n) S := by
  have l : lstOf S (.loc n) = some (ds.map .dat) := by simp [lstOf, hs]
  show Out.wp (match tupOf (.loc n) with
    | some ws => .ok (mkTup ws.reverse) S
    | none => match lstOf S (.loc n) with
      | some ws => .ok (newL false ws.reverse S).1 (newL false ws.reverse S).2
      | none => .stuck) Q NoE
  rw [l]
  exact bk_lst q
end
end Rf
local macro_rules
  | `(tactic| array_get_dec) => `(tactic| ((first
    | (with_reducible refine Rf.wp_comp2 ?_)
    | (with_reducible refine Rf.wp_conIx ?_)
    | (with_reducible refine Rf.wp_back ?_)
    | (with_reducible refine Rf.bk_tup ?_)
    | (with_reducible refine Rf.bk_lst ?_)
    | (with_reducible refine Rf.wp_itS ?_)
    | (with_reducible refine Rf.its_str ?_)
    | (with_reducible refine Rf.its_tup ?_)
    | (with_reducible refine Rf.its_lst ?_)
    | (with_reducible refine Rf.its_tw ?_)
    | (with_reducible refine Rf.its_lw ?_)
    | (with_reducible refine Rf.wp_conW ?_)
    | (with_reducible refine Rf.wp_mt ?_)
    | (with_reducible refine Rf.tyS ?_)
    | (with_reducible refine Rf.tyLd ?_)
    | (with_reducible refine Rf.tyLc (by assumption) ?_)
    | (with_reducible refine Rf.in_alpha ?_)
    | (with_reducible refine Rf.ifNT ?_)
    | (with_reducible refine Rf.wp_fld ?_)
    | (with_reducible refine Rf.wp_sFld ?_)
    | (with_reducible refine Rf.wp_sFldA ?_)
    | (with_reducible refine Rf.wp_meth ?_)
    | (with_reducible refine Rf.iadd_int ?_)
    | (with_reducible refine Rf.rt_app ?_)
    | ((with_reducible refine Rf.exRng1 ?_ ?_); omega)
    | ((with_reducible refine Rf.exRng2 ?_ ?_); omega)
    | (with_reducible refine Rf.ifNF ?_)
    | dsimp only [Rf.strB, Rf.intB, Rf.boolB, Rf.tupB, Rf.dicB, Rf.noneB]
    | (with_reducible refine Rf.wp_seq ?_)
    | (with_reducible refine Rf.wp_asg ?_)
    | (with_reducible refine Rf.wp_name ?_)
    | (with_reducible refine Rf.wp_ret ?_)
    | (with_reducible refine Rf.wp_sIf ?_)
    | (with_reducible refine Rf.wp_drop ?_)
    | (with_reducible refine Rf.wp_varD (by with_unfolding_all exact rfl) ?_)
    | (with_reducible refine Rf.wp_varL (by with_unfolding_all exact rfl) ?_)
    | (with_reducible refine Rf.wp_varT (by with_unfolding_all exact rfl) ?_)
    | (with_reducible refine Rf.wp_varLw (by with_unfolding_all exact rfl) ?_)
    | (with_reducible refine Rf.wp_varKt (by with_unfolding_all exact rfl) ?_)
    | (with_reducible refine Rf.wp_varK (by with_unfolding_all exact rfl) ?_)
    | (with_reducible refine Rf.wp_con ?_)
    | (with_reducible refine Rf.wp_bin ?_)
    | (with_reducible refine Rf.wp_B ?_)
    | (with_reducible refine Rf.isB_mk ?_)
    | (with_reducible refine Rf.wp_not ?_)
    | (with_reducible refine Rf.wp_if ?_)
    | (with_reducible refine Rf.wp_ok ?_)
    | (with_reducible refine Rf.nl_dat ?_)
    | (with_reducible refine Rf.nl_map ?_)
    | (with_reducible refine Rf.nl_cell ?_)
    | (with_reducible refine Rf.wp_yes ?_)
    | (with_reducible refine Rf.wp_tru ?_)
    | (with_reducible refine Rf.wp_andV ?_)
    | (with_reducible refine Rf.wp_orV ?_)
    | (with_reducible refine Rf.wp_notV ?_)
    | (with_reducible refine Rf.exTru (by with_unfolding_all exact rfl) ?_)
    | (with_reducible refine Rf.wp_neg ?_)
    | (with_reducible refine Rf.exInt ?_)
    | (with_reducible refine Rf.wp_chain ?_)
    | (with_reducible refine Rf.wp_cons ?_)
    | (with_reducible refine Rf.wp_nil ?_)
    | (with_reducible refine Rf.wp_tup ?_)
    | (with_reducible refine Rf.tp_dat (by with_unfolding_all exact rfl) (by with_unfolding_all exact rfl) ?_)
    | (with_reducible refine Rf.wp_lst ?_)
    | (with_reducible refine Rf.lp_dat (by with_unfolding_all exact rfl) (by with_unfolding_all exact rfl) ?_)
    | (with_reducible refine Rf.lp_cell (by with_unfolding_all exact rfl) ?_)
    | (with_reducible refine Rf.wp_CB ?_)
    | (with_reducible refine Rf.wp_call ?_)
    | (with_reducible refine Rf.wp_isi ?_)
    | (with_reducible refine Rf.isi_int ?_)
    | (with_reducible refine Rf.isi_bool ?_)
    | (with_reducible refine Rf.isi_tup ?_)
    | (with_reducible refine Rf.isi_str ?_)
    | (with_reducible refine Rf.isi_dic ?_)
    | (with_reducible refine Rf.wp_sl ?_)
    | (with_reducible refine Rf.wp_noPart ?_)
    | (with_reducible refine Rf.wp_part ?_)
    | (with_reducible refine Rf.wp_dic0t ?_)
    | (with_reducible refine Rf.wp_dic0f ?_)
    | (with_reducible refine Rf.wp_par ?_)
    | (with_reducible refine Rf.ex2 ?_)
    | (with_reducible refine Rf.wp_par3 ?_)
    | (with_reducible refine Rf.ex3 ?_)
    | (with_reducible refine Rf.wp_comp ?_)
    | (with_reducible refine Rf.wp_it ?_)
    | (with_reducible refine Rf.itd_tup ?_)
    | (with_reducible refine Rf.itd_lst ?_)
    | (with_reducible refine Rf.wp_for ?_)
    | (with_reducible refine Rf.wp_body ?_)
    | (with_reducible refine Rf.wp_rng1 ?_)
    | (with_reducible refine Rf.wp_rng2 ?_)
    | (with_reducible refine Rf.wp_sNil ?_)
    | (with_reducible refine Rf.wp_retN ?_)
    | (with_reducible refine Rf.wp_brk ?_)
    | (with_reducible refine Rf.wp_cnt ?_)
    | (with_reducible refine Rf.ifT ?_)
    | (with_reducible refine Rf.ifF ?_)
    | (with_reducible refine Rf.add_int ?_)
    | (with_reducible refine Rf.sub_int ?_)
    | ((with_reducible refine Rf.mod_int ?_ ?_); first | decide | omega)
    | ((with_reducible refine Rf.div_int ?_ ?_); first | decide | omega)
    | ((with_reducible refine Rf.mul_int ?_ ?_); first | (refine Rf.mulOk_l ?_; decide) | (refine Rf.mulOk_r ?_; decide) | (refine Rf.mulOk_l ?_; omega) | (refine Rf.mulOk_r ?_; omega))
    | (with_reducible refine Rf.lt_int ?_)
    | (with_reducible refine Rf.le_int ?_)
    | (with_reducible refine Rf.gt_int ?_)
    | (with_reducible refine Rf.ge_int ?_)
    | (with_reducible refine Rf.lt_str ?_)
    | (with_reducible refine Rf.eq_int ?_)
    | (with_reducible refine Rf.ne_int ?_)
    | (with_reducible refine Rf.eq_str ?_)
    | (with_reducible refine Rf.ne_str ?_)
    | (with_reducible refine Rf.isn_dat ?_)
    | (with_reducible refine Rf.isnt_dat ?_)
    | (with_reducible refine Rf.len_tup ?_)
    | (with_reducible refine Rf.len_lst ?_)
    | (with_reducible refine Rf.len_tw ?_)
    | (with_reducible refine Rf.len_lw ?_)
    | (with_reducible refine Rf.int_int ?_)
    | (with_reducible refine Rf.int_bool ?_)
    | (with_reducible refine Rf.abs_int ?_)
    | (with_reducible refine Rf.max_int ?_)
    | (with_reducible refine Rf.min_int ?_)
    | (with_reducible refine Rf.all_map ?_)
    | (with_reducible refine Rf.any_map ?_)
    | (with_reducible refine Rf.tuple_lst ?_)
    | (with_reducible refine Rf.tuple_tup ?_)
    | (with_reducible refine Rf.list_lst ?_)
    | (with_reducible refine Rf.list_tup ?_)
    | (with_reducible refine Rf.sl_tup ?_)
    | (with_reducible refine Rf.sl_lst ?_)
    | (with_reducible refine Rf.rt_same ?_)); repeat (first
    | (with_reducible refine Rf.wp_comp2 ?_)
    | (with_reducible refine Rf.wp_conIx ?_)
    | (with_reducible refine Rf.wp_back ?_)
    | (with_reducible refine Rf.bk_tup ?_)
    | (with_reducible refine Rf.bk_lst ?_)
    | (with_reducible refine Rf.wp_itS ?_)
    | (with_reducible refine Rf.its_str ?_)
    | (with_reducible refine Rf.its_tup ?_)
    | (with_reducible refine Rf.its_lst ?_)
    | (with_reducible refine Rf.its_tw ?_)
    | (with_reducible refine Rf.its_lw ?_)
    | (with_reducible refine Rf.wp_conW ?_)
    | (with_reducible refine Rf.wp_mt ?_)
    | (with_reducible refine Rf.tyS ?_)
    | (with_reducible refine Rf.tyLd ?_)
    | (with_reducible refine Rf.tyLc (by assumption) ?_)
    | (with_reducible refine Rf.in_alpha ?_)
    | (with_reducible refine Rf.ifNT ?_)
    | (with_reducible refine Rf.wp_fld ?_)
    | (with_reducible refine Rf.wp_sFld ?_)
    | (with_reducible refine Rf.wp_sFldA ?_)
    | (with_reducible refine Rf.wp_meth ?_)
    | (with_reducible refine Rf.iadd_int ?_)
    | (with_reducible refine Rf.rt_app ?_)
    | ((with_reducible refine Rf.exRng1 ?_ ?_); omega)
    | ((with_reducible refine Rf.exRng2 ?_ ?_); omega)
    | (with_reducible refine Rf.ifNF ?_)
    | dsimp only [Rf.strB, Rf.intB, Rf.boolB, Rf.tupB, Rf.dicB, Rf.noneB]
    | (with_reducible refine Rf.wp_seq ?_)
    | (with_reducible refine Rf.wp_asg ?_)
    | (with_reducible refine Rf.wp_name ?_)
    | (with_reducible refine Rf.wp_ret ?_)
    | (with_reducible refine Rf.wp_sIf ?_)
    | (with_reducible refine Rf.wp_drop ?_)
    | (with_reducible refine Rf.wp_varD (by with_unfolding_all exact rfl) ?_)
    | (with_reducible refine Rf.wp_varL (by with_unfolding_all exact rfl) ?_)
    | (with_reducible refine Rf.wp_varT (by with_unfolding_all exact rfl) ?_)
    | (with_reducible refine Rf.wp_varLw (by with_unfolding_all exact rfl) ?_)
    | (with_reducible refine Rf.wp_varKt (by with_unfolding_all exact rfl) ?_)
    | (with_reducible refine Rf.wp_varK (by with_unfolding_all exact rfl) ?_)
    | (with_reducible refine Rf.wp_con ?_)
    | (with_reducible refine Rf.wp_bin ?_)
    | (with_reducible refine Rf.wp_B ?_)
    | (with_reducible refine Rf.isB_mk ?_)
    | (with_reducible refine Rf.wp_not ?_)
    | (with_reducible refine Rf.wp_if ?_)
    | (with_reducible refine Rf.wp_ok ?_)
    | (with_reducible refine Rf.nl_dat ?_)
    | (with_reducible refine Rf.nl_map ?_)
    | (with_reducible refine Rf.nl_cell ?_)
    | (with_reducible refine Rf.wp_yes ?_)
    | (with_reducible refine Rf.wp_tru ?_)
    | (with_reducible refine Rf.wp_andV ?_)
    | (with_reducible refine Rf.wp_orV ?_)
    | (with_reducible refine Rf.wp_notV ?_)
    | (with_reducible refine Rf.exTru (by with_unfolding_all exact rfl) ?_)
    | (with_reducible refine Rf.wp_neg ?_)
    | (with_reducible refine Rf.exInt ?_)
    | (with_reducible refine Rf.wp_chain ?_)
    | (with_reducible refine Rf.wp_cons ?_)
    | (with_reducible refine Rf.wp_nil ?_)
    | (with_reducible refine Rf.wp_tup ?_)
    | (with_reducible refine Rf.tp_dat (by with_unfolding_all exact rfl) (by with_unfolding_all exact rfl) ?_)
    | (with_reducible refine Rf.wp_lst ?_)
    | (with_reducible refine Rf.lp_dat (by with_unfolding_all exact rfl) (by with_unfolding_all exact rfl) ?_)
    | (with_reducible refine Rf.lp_cell (by with_unfolding_all exact rfl) ?_)
    | (with_reducible refine Rf.wp_CB ?_)
    | (with_reducible refine Rf.wp_call ?_)
    | (with_reducible refine Rf.wp_isi ?_)
    | (with_reducible refine Rf.isi_int ?_)
    | (with_reducible refine Rf.isi_bool ?_)
    | (with_reducible refine Rf.isi_tup ?_)
    | (with_reducible refine Rf.isi_str ?_)
    | (with_reducible refine Rf.isi_dic ?_)
    | (with_reducible refine Rf.wp_sl ?_)
    | (with_reducible refine Rf.wp_noPart ?_)
    | (with_reducible refine Rf.wp_part ?_)
    | (with_reducible refine Rf.wp_dic0t ?_)
    | (with_reducible refine Rf.wp_dic0f ?_)
    | (with_reducible refine Rf.wp_par ?_)
    | (with_reducible refine Rf.ex2 ?_)
    | (with_reducible refine Rf.wp_par3 ?_)
    | (with_reducible refine Rf.ex3 ?_)
    | (with_reducible refine Rf.wp_comp ?_)
    | (with_reducible refine Rf.wp_it ?_)
    | (with_reducible refine Rf.itd_tup ?_)
    | (with_reducible refine Rf.itd_lst ?_)
    | (with_reducible refine Rf.wp_for ?_)
    | (with_reducible refine Rf.wp_body ?_)
    | (with_reducible refine Rf.wp_rng1 ?_)
    | (with_reducible refine Rf.wp_rng2 ?_)
    | (with_reducible refine Rf.wp_sNil ?_)
    | (with_reducible refine Rf.wp_retN ?_)
    | (with_reducible refine Rf.wp_brk ?_)
    | (with_reducible refine Rf.wp_cnt ?_)
    | (with_reducible refine Rf.ifT ?_)
    | (with_reducible refine Rf.ifF ?_)
    | (with_reducible refine Rf.add_int ?_)
    | (with_reducible refine Rf.sub_int ?_)
    | ((with_reducible refine Rf.mod_int ?_ ?_); first | decide | omega)
    | ((with_reducible refine Rf.div_int ?_ ?_); first | decide | omega)
    | ((with_reducible refine Rf.mul_int ?_ ?_); first | (refine Rf.mulOk_l ?_; decide) | (refine Rf.mulOk_r ?_; decide) | (refine Rf.mulOk_l ?_; omega) | (refine Rf.mulOk_r ?_; omega))
    | (with_reducible refine Rf.lt_int ?_)
    | (with_reducible refine Rf.le_int ?_)
    | (with_reducible refine Rf.gt_int ?_)
    | (with_reducible refine Rf.ge_int ?_)
    | (with_reducible refine Rf.lt_str ?_)
    | (with_reducible refine Rf.eq_int ?_)
    | (with_reducible refine Rf.ne_int ?_)
    | (with_reducible refine Rf.eq_str ?_)
    | (with_reducible refine Rf.ne_str ?_)
    | (with_reducible refine Rf.isn_dat ?_)
    | (with_reducible refine Rf.isnt_dat ?_)
    | (with_reducible refine Rf.len_tup ?_)
    | (with_reducible refine Rf.len_lst ?_)
    | (with_reducible refine Rf.len_tw ?_)
    | (with_reducible refine Rf.len_lw ?_)
    | (with_reducible refine Rf.int_int ?_)
    | (with_reducible refine Rf.int_bool ?_)
    | (with_reducible refine Rf.abs_int ?_)
    | (with_reducible refine Rf.max_int ?_)
    | (with_reducible refine Rf.min_int ?_)
    | (with_reducible refine Rf.all_map ?_)
    | (with_reducible refine Rf.any_map ?_)
    | (with_reducible refine Rf.tuple_lst ?_)
    | (with_reducible refine Rf.tuple_tup ?_)
    | (with_reducible refine Rf.list_lst ?_)
    | (with_reducible refine Rf.list_tup ?_)
    | (with_reducible refine Rf.sl_tup ?_)
    | (with_reducible refine Rf.sl_lst ?_)
    | (with_reducible refine Rf.rt_same ?_))))

namespace Rf
open PySem L2 Nm

/-! ### draws: three whole numbers in a cell -/
def Vat (S : Store) (n : Nat) : Prop := ∃ a b c : Int, S[n]? = some (.lst [.int a, .int b, .int c])
/-- the same store but for the draws -/
structure Drawn (n : Nat) (S S' : Store) : Prop where
  len : S'.length = S.length
  vat : Vat S' n
  rest : ∀ m, m ≠ n → S'[m]? = S[m]?
theorem Drawn.trans {n : Nat} {S S1 S2 : Store} (a : Drawn n S S1) (b : Drawn n S1 S2) : Drawn n S S2 := ⟨b.len.trans a.len, b.vat, fun m h => (b.rest m h).trans (a.rest m h)⟩
theorem Vat.lt {S : Store} {n : Nat} (h : Vat S n) : n < S.length := by
  obtain ⟨a, b, c, e⟩ := h
  exact (List.getElem?_eq_some_iff.mp e).1
theorem drawn_set {S : Store} {n : Nat} (h : n < S.length) (a b c : Int) : Drawn n S (S.set n (.lst [.int a, .int b, .int c])) := ⟨by simp, ⟨a, b, c, by rw [List.getElem?_set_self h]⟩, fun m hm => by rw [List.getElem?_set_ne (Ne.symm hm)]⟩
/-- what an answer is that leaves the store but for the draws -/
def DW (n : Nat) (S : Store) (P : W → Prop) (w : W) (S' : Store) : Prop := P w ∧ Drawn n S S'
theorem cut_to {α : Type} (xs : List α) (j : Nat) : cutW xs none (some (j : Int)) = xs.take j := by
  unfold cutW
  rw [HT.sIx_none, HT.sIx_nat, List.drop_zero, Nat.sub_zero]
  by_cases h : j ≤ xs.length
  · rw [Nat.min_eq_left h]
  · rw [Nat.min_eq_right (by omega), List.take_of_length_le (Nat.le_refl _), List.take_of_length_le (by omega)]
theorem cut_from {α : Type} (xs : List α) (i : Nat) : cutW xs (some (i : Int)) none = xs.drop i := by
  unfold cutW
  rw [HT.sIx_none, HT.sIx_nat]
  by_cases h : i ≤ xs.length
  · rw [Nat.min_eq_left h, List.take_of_length_le (by simp)]
  · rw [Nat.min_eq_right (by omega), List.drop_eq_nil_of_le (Nat.le_refl _), List.drop_eq_nil_of_le (i := i) (by omega)]; simp
end Rf

namespace Rf
open PySem L2 Nm

/-! ### try, lambdas: weakest preconditions -/
section
variable {bs : List Nat} {env : Env} {S : Store} {E' : EK} {N : Env → Store → Prop} {R : W → Store → Prop} {B C : Env → Store → Prop} {E : Nat → List W → Env → Store → Prop}
/-- what follows an exception of a try's body -/
def XP (errs : List Nat) (cat : Nat → Nat → Bool) (hs : List Hd) (bs : List Nat) (N : Env → Store → Prop) (R : W → Store → Prop) (B C : Env → Store → Prop) (E : Nat → List W → Env → Store → Prop) (c : Nat) (ws : List W) (e : Env) (S : Store) : Prop :=
  c ∈ errs ∧ SO.wp (match hs.find? fun h => cat c h.c with
    | some h => sSuite h ws bs e S
    | none => .ex c ws e S) N R B C E
theorem wp_try {b : MS} {errs : List Nat} {cat : Nat → Nat → Bool} {hs : List Hd} (h : (b bs env S).wp N R B C (XP errs cat hs bs N R B C E)) : (sTry b errs cat hs bs env S).wp N R B C E := by
  unfold sTry
  generalize b bs env S = o at h
  cases o with
  | nx e S1 => exact h
  | rt w S1 => exact h
  | bk e S1 => exact h
  | ct e S1 => exact h
  | stuck => exact h
  | ex c ws e S1 =>
    show SO.wp (if c ∈ errs then (match hs.find? fun h => cat c h.c with
      | some h => sSuite h ws bs e S1
      | none => .ex c ws e S1) else .stuck) N R B C E
    have h' : XP errs cat hs bs N R B C E c ws e S1 := h
    rw [if_pos h'.1]; exact h'.2
/-- the clause that catches -/
theorem xp_hit {errs : List Nat} {cat : Nat → Nat → Bool} {hs : List Hd} {c : Nat} {ws : List W} {h : Hd} (hc : decide (c ∈ errs) = true) (hf : (hs.find? fun h => cat c h.c) = some h) (q : (sSuite h ws bs env S).wp N R B C E) : XP errs cat hs bs N R B C E c ws env S := by
  refine ⟨of_decide_eq_true hc, ?_⟩
  rw [hf]; exact q
theorem wp_suite {h : Hd} {ws : List W} (q : (h.m ws bs (clrO h.i env) S).wp (fun e S1 => N (clrO h.i e) S1) R (fun e S1 => B (clrO h.i e) S1) (fun e S1 => C (clrO h.i e) S1) (fun _ _ _ _ => False)) : (sSuite h ws bs env S).wp N R B C E := by
  unfold sSuite
  generalize h.m ws bs (clrO h.i env) S = o at q
  cases o with
  | nx e S1 => exact q
  | rt w S1 => exact q
  | bk e S1 => exact q
  | ct e S1 => exact q
  | ex c ws e S1 => exact q.elim
  | stuck => exact q.elim
theorem wp_thunk {lam : Lam} {Q : W → Store → Prop} (h : (lam bs S).wp Q E') : (mThunk lam bs env S).wp Q E' := h
theorem wp_lam {F : Lam → Lam} {m : M W} {Q : W → Store → Prop} (h : (F (fun bs' S' => m bs' env S') bs S).wp Q E') : (mLam F m bs env S).wp Q E' := h
theorem wp_raise {c : Nat} (h : E c [] env S) : (sRaise c bs env S).wp N R B C E := h
theorem wp_fnL {n : Nat} {m : Lam → MS} {lam : Lam} {Q : W → Store → Prop}
    (h : (m lam (S.length :: bs) (List.replicate n none) S).wp (fun _ S1 => Q (.dat .none) (S1.take S.length)) (RT S.length Q) (fun _ _ => False) (fun _ _ => False) fun c ws _ S1 => EX S.length E' c ws S1) : (fnL n m lam bs S).wp Q E' := by
  have := wp_fn (n := n) (p := 0) (m := m lam) (ws := []) (bs := bs) (S := S) (Q := Q) (E := E') rfl (by simpa [startE] using h)
  unfold fnM at this
  simpa [fnL, startE] using this
theorem ex_nil' {c : Nat} {E : EK} (q : E c [] S) : EX S.length E c [] S := by
  show E c [] (S.take S.length)
  rw [List.take_length]; exact q
/-- an answer or an exception that is known -/
theorem wp_exq {α : Type} {o : Out α} {c : Nat} {ws : List W} {Q : α → Store → Prop} {E : EK} (h : o = .ex c ws S) (q : E c ws S) : o.wp Q E := by rw [h]; exact q
theorem eq_ex_wp {α : Type} {o : Out α} {c : Nat} {ws : List W} (h : o.wp (fun _ _ => False) (fun c' ws' S' => c' = c ∧ ws' = ws ∧ S' = S)) : o = .ex c ws S := by
  cases o with
  | ok b T => exact h.elim
  | ex c' ws' T => obtain ⟨rfl, rfl, rfl⟩ := h; rfl
  | stuck => exact h.elim
end
end Rf
local macro_rules
  | `(tactic| array_get_dec) => `(tactic| ((first
    | (with_reducible refine Rf.wp_try ?_)
    | (with_reducible refine Rf.wp_suite ?_)
    | (with_reducible refine Rf.wp_thunk ?_)
    | (with_reducible refine Rf.wp_kept ?_)
    | (with_reducible refine Rf.wp_lam ?_)
    | (with_reducible refine Rf.wp_raise ?_)
    | (with_reducible refine Rf.wp_raise1 ?_)
    | (with_reducible refine Rf.ex1 ?_)
    | (with_reducible refine Rf.ex_nil' ?_)
    | (with_reducible refine Rf.ex_dat' ?_)
    | (with_reducible refine Rf.wp_comp2 ?_)
    | (with_reducible refine Rf.wp_conIx ?_)
    | (with_reducible refine Rf.wp_back ?_)
    | (with_reducible refine Rf.bk_tup ?_)
    | (with_reducible refine Rf.bk_lst ?_)
    | (with_reducible refine Rf.wp_itS ?_)
    | (with_reducible refine Rf.its_str ?_)
    | (with_reducible refine Rf.its_tup ?_)
    | (with_reducible refine Rf.its_lst ?_)
    | (with_reducible refine Rf.its_tw ?_)
    | (with_reducible refine Rf.its_lw ?_)
    | (with_reducible refine Rf.wp_conW ?_)
    | (with_reducible refine Rf.wp_mt ?_)
    | (with_reducible refine Rf.tyS ?_)
    | (with_reducible refine Rf.tyLd ?_)
    | (with_reducible refine Rf.tyLc (by assumption) ?_)
    | (with_reducible refine Rf.in_alpha ?_)
    | (with_reducible refine Rf.ifNT ?_)
    | (with_reducible refine Rf.wp_fld ?_)
    | (with_reducible refine Rf.wp_sFld ?_)
    | (with_reducible refine Rf.wp_sFldA ?_)
    | (with_reducible refine Rf.wp_meth ?_)
    | (with_reducible refine Rf.iadd_int ?_)
    | (with_reducible refine Rf.rt_app ?_)
    | ((with_reducible refine Rf.exRng1 ?_ ?_); omega)
    | ((with_reducible refine Rf.exRng2 ?_ ?_); omega)
    | (with_reducible refine Rf.ifNF ?_)
    | dsimp only [Rf.strB, Rf.intB, Rf.boolB, Rf.tupB, Rf.dicB, Rf.noneB]
    | (with_reducible refine Rf.wp_seq ?_)
    | (with_reducible refine Rf.wp_asg ?_)
    | (with_reducible refine Rf.wp_name ?_)
    | (with_reducible refine Rf.wp_ret ?_)
    | (with_reducible refine Rf.wp_sIf ?_)
    | (with_reducible refine Rf.wp_drop ?_)
    | (with_reducible refine Rf.wp_varD (by with_unfolding_all exact rfl) ?_)
    | (with_reducible refine Rf.wp_varL (by with_unfolding_all exact rfl) ?_)
    | (with_reducible refine Rf.wp_varT (by with_unfolding_all exact rfl) ?_)
    | (with_reducible refine Rf.wp_varLw (by with_unfolding_all exact rfl) ?_)
    | (with_reducible refine Rf.wp_varKt (by with_unfolding_all exact rfl) ?_)
    | (with_reducible refine Rf.wp_varK (by with_unfolding_all exact rfl) ?_)
    | (with_reducible refine Rf.wp_con ?_)
    | (with_reducible refine Rf.wp_bin ?_)
    | (with_reducible refine Rf.wp_B ?_)
    | (with_reducible refine Rf.isB_mk ?_)
    | (with_reducible refine Rf.wp_not ?_)
    | (with_reducible refine Rf.wp_if ?_)
    | (with_reducible refine Rf.wp_ok ?_)
    | (with_reducible refine Rf.nl_dat ?_)
    | (with_reducible refine Rf.nl_map ?_)
    | (with_reducible refine Rf.nl_cell ?_)
    | (with_reducible refine Rf.wp_yes ?_)
    | (with_reducible refine Rf.wp_tru ?_)
    | (with_reducible refine Rf.wp_andV ?_)
    | (with_reducible refine Rf.wp_orV ?_)
    | (with_reducible refine Rf.wp_notV ?_)
    | (with_reducible refine Rf.exTru (by with_unfolding_all exact rfl) ?_)
    | (with_reducible refine Rf.wp_neg ?_)
    | (with_reducible refine Rf.exInt ?_)
    | (with_reducible refine Rf.wp_chain ?_)
    | (with_reducible refine Rf.wp_cons ?_)
    | (with_reducible refine Rf.wp_nil ?_)
    | (with_reducible refine Rf.wp_tup ?_)
    | (with_reducible refine Rf.tp_dat (by with_unfolding_all exact rfl) (by with_unfolding_all exact rfl) ?_)
    | (with_reducible refine Rf.wp_lst ?_)
    | (with_reducible refine Rf.lp_dat (by with_unfolding_all exact rfl) (by with_unfolding_all exact rfl) ?_)
    | (with_reducible refine Rf.lp_cell (by with_unfolding_all exact rfl) ?_)
    | (with_reducible refine Rf.wp_CB ?_)
    | (with_reducible refine Rf.wp_call ?_)
    | (with_reducible refine Rf.wp_isi ?_)
    | (with_reducible refine Rf.isi_int ?_)
    | (with_reducible refine Rf.isi_bool ?_)
    | (with_reducible refine Rf.isi_tup ?_)
    | (with_reducible refine Rf.isi_str ?_)
    | (with_reducible refine Rf.isi_dic ?_)
    | (with_reducible refine Rf.wp_sl ?_)
    | (with_reducible refine Rf.wp_noPart ?_)
    | (with_reducible refine Rf.wp_part ?_)
    | (with_reducible refine Rf.wp_dic0t ?_)
    | (with_reducible refine Rf.wp_dic0f ?_)
    | (with_reducible refine Rf.wp_par ?_)
    | (with_reducible refine Rf.ex2 ?_)
    | (with_reducible refine Rf.wp_par3 ?_)
    | (with_reducible refine Rf.ex3 ?_)
    | (with_reducible refine Rf.wp_comp ?_)
    | (with_reducible refine Rf.wp_it ?_)
    | (with_reducible refine Rf.itd_tup ?_)
    | (with_reducible refine Rf.itd_lst ?_)
    | (with_reducible refine Rf.wp_for ?_)
    | (with_reducible refine Rf.wp_body ?_)
    | (with_reducible refine Rf.wp_rng1 ?_)
    | (with_reducible refine Rf.wp_rng2 ?_)
    | (with_reducible refine Rf.wp_sNil ?_)
    | (with_reducible refine Rf.wp_retN ?_)
    | (with_reducible refine Rf.wp_brk ?_)
    | (with_reducible refine Rf.wp_cnt ?_)
    | (with_reducible refine Rf.ifT ?_)
    | (with_reducible refine Rf.ifF ?_)
    | (with_reducible refine Rf.add_int ?_)
    | (with_reducible refine Rf.sub_int ?_)
    | ((with_reducible refine Rf.mod_int ?_ ?_); first | decide | omega)
    | ((with_reducible refine Rf.div_int ?_ ?_); first | decide | omega)
    | ((with_reducible refine Rf.mul_int ?_ ?_); first | (refine Rf.mulOk_l ?_; decide) | (refine Rf.mulOk_r ?_; decide) | (refine Rf.mulOk_l ?_; omega) | (refine Rf.mulOk_r ?_; omega))
    | (with_reducible refine Rf.lt_int ?_)
    | (with_reducible refine Rf.le_int ?_)
    | (with_reducible refine Rf.gt_int ?_)
    | (with_reducible refine Rf.ge_int ?_)
    | (with_reducible refine Rf.lt_str ?_)
    | (with_reducible refine Rf.eq_int ?_)
    | (with_reducible refine Rf.ne_int ?_)
    | (with_reducible refine Rf.eq_str ?_)
    | (with_reducible refine Rf.ne_str ?_)
    | (with_reducible refine Rf.isn_dat ?_)
    | (with_reducible refine Rf.isnt_dat ?_)
    | (with_reducible refine Rf.len_tup ?_)
    | (with_reducible refine Rf.len_lst ?_)
    | (with_reducible refine Rf.len_tw ?_)
    | (with_reducible refine Rf.len_lw ?_)
    | (with_reducible refine Rf.int_int ?_)
    | (with_reducible refine Rf.int_bool ?_)
    | (with_reducible refine Rf.abs_int ?_)
    | (with_reducible refine Rf.max_int ?_)
    | (with_reducible refine Rf.min_int ?_)
    | (with_reducible refine Rf.all_map ?_)
    | (with_reducible refine Rf.any_map ?_)
    | (with_reducible refine Rf.tuple_lst ?_)
    | (with_reducible refine Rf.tuple_tup ?_)
    | (with_reducible refine Rf.list_lst ?_)
    | (with_reducible refine Rf.list_tup ?_)
    | (with_reducible refine Rf.sl_tup ?_)
    | (with_reducible refine Rf.sl_lst ?_)
    | (with_reducible refine Rf.rt_same ?_)); repeat (first
    | (with_reducible refine Rf.wp_try ?_)
    | (with_reducible refine Rf.wp_suite ?_)
    | (with_reducible refine Rf.wp_thunk ?_)
    | (with_reducible refine Rf.wp_kept ?_)
    | (with_reducible refine Rf.wp_lam ?_)
    | (with_reducible refine Rf.wp_raise ?_)
    | (with_reducible refine Rf.wp_raise1 ?_)
    | (with_reducible refine Rf.ex1 ?_)
    | (with_reducible refine Rf.ex_nil' ?_)
    | (with_reducible refine Rf.ex_dat' ?_)
    | (with_reducible refine Rf.wp_comp2 ?_)
    | (with_reducible refine Rf.wp_conIx ?_)
    | (with_reducible refine Rf.wp_back ?_)
    | (with_reducible refine Rf.bk_tup ?_)
    | (with_reducible refine Rf.bk_lst ?_)
    | (with_reducible refine Rf.wp_itS ?_)
    | (with_reducible refine Rf.its_str ?_)
    | (with_reducible refine Rf.its_tup ?_)
    | (with_reducible refine Rf.its_lst ?_)
    | (with_reducible refine Rf.its_tw ?_)
    | (with_reducible refine Rf.its_lw ?_)
    | (with_reducible refine Rf.wp_conW ?_)
    | (with_reducible refine Rf.wp_mt ?_)
    | (with_reducible refine Rf.tyS ?_)
    | (with_reducible refine Rf.tyLd ?_)
    | (with_reducible refine Rf.tyLc (by assumption) ?_)
    | (with_reducible refine Rf.in_alpha ?_)
    | (with_reducible refine Rf.ifNT ?_)
    | (with_reducible refine Rf.wp_fld ?_)
    | (with_reducible refine Rf.wp_sFld ?_)
    | (with_reducible refine Rf.wp_sFldA ?_)
    | (with_reducible refine Rf.wp_meth ?_)
    | (with_reducible refine Rf.iadd_int ?_)
    | (with_reducible refine Rf.rt_app ?_)
    | ((with_reducible refine Rf.exRng1 ?_ ?_); omega)
    | ((with_reducible refine Rf.exRng2 ?_ ?_); omega)
    | (with_reducible refine Rf.ifNF ?_)
    | dsimp only [Rf.strB, Rf.intB, Rf.boolB, Rf.tupB, Rf.dicB, Rf.noneB]
    | (with_reducible refine Rf.wp_seq ?_)
    | (with_reducible refine Rf.wp_asg ?_)
    | (with_reducible refine Rf.wp_name ?_)
    | (with_reducible refine Rf.wp_ret ?_)
    | (with_reducible refine Rf.wp_sIf ?_)
    | (with_reducible refine Rf.wp_drop ?_)
    | (with_reducible refine Rf.wp_varD (by with_unfolding_all exact rfl) ?_)
    | (with_reducible refine Rf.wp_varL (by with_unfolding_all exact rfl) ?_)
    | (with_reducible refine Rf.wp_varT (by with_unfolding_all exact rfl) ?_)
    | (with_reducible refine Rf.wp_varLw (by with_unfolding_all exact rfl) ?_)
    | (with_reducible refine Rf.wp_varKt (by with_unfolding_all exact rfl) ?_)
    | (with_reducible refine Rf.wp_varK (by with_unfolding_all exact rfl) ?_)
    | (with_reducible refine Rf.wp_con ?_)
    | (with_reducible refine Rf.wp_bin ?_)
    | (with_reducible refine Rf.wp_B ?_)
    | (with_reducible refine Rf.isB_mk ?_)
    | (with_reducible refine Rf.wp_not ?_)
    | (with_reducible refine Rf.wp_if ?_)
    | (with_reducible refine Rf.wp_ok ?_)
    | (with_reducible refine Rf.nl_dat ?_)
    | (with_reducible refine Rf.nl_map ?_)
    | (with_reducible refine Rf.nl_cell ?_)
    | (with_reducible refine Rf.wp_yes ?_)
    | (with_reducible refine Rf.wp_tru ?_)
    | (with_reducible refine Rf.wp_andV ?_)
    | (with_reducible refine Rf.wp_orV ?_)
    | (with_reducible refine Rf.wp_notV ?_)
    | (with_reducible refine Rf.exTru (by with_unfolding_all exact rfl) ?_)
    | (with_reducible refine Rf.wp_neg ?_)
    | (with_reducible refine Rf.exInt ?_)
    | (with_reducible refine Rf.wp_chain ?_)
    | (with_reducible refine Rf.wp_cons ?_)
    | (with_reducible refine Rf.wp_nil ?_)
    | (with_reducible refine Rf.wp_tup ?_)
    | (with_reducible refine Rf.tp_dat (by with_unfolding_all exact rfl) (by with_unfolding_all exact rfl) ?_)
    | (with_reducible refine Rf.wp_lst ?_)
    | (with_reducible refine Rf.lp_dat (by with_unfolding_all exact rfl) (by with_unfolding_all exact rfl) ?_)
    | (with_reducible refine Rf.lp_cell (by with_unfolding_all exact rfl) ?_)
    | (with_reducible refine Rf.wp_CB ?_)
    | (with_reducible refine Rf.wp_call ?_)
    | (with_reducible refine Rf.wp_isi ?_)
    | (with_reducible refine Rf.isi_int ?_)
    | (with_reducible refine Rf.isi_bool ?_)
    | (with_reducible refine Rf.isi_tup ?_)
    | (with_reducible refine Rf.isi_str ?_)
    | (with_reducible refine Rf.isi_dic ?_)
    | (with_reducible refine Rf.wp_sl ?_)
    | (with_reducible refine Rf.wp_noPart ?_)
    | (with_reducible refine Rf.wp_part ?_)
    | (with_reducible refine Rf.wp_dic0t ?_)
    | (with_reducible refine Rf.wp_dic0f ?_)
    | (with_reducible refine Rf.wp_par ?_)
    | (with_reducible refine Rf.ex2 ?_)
    | (with_reducible refine Rf.wp_par3 ?_)
    | (with_reducible refine Rf.ex3 ?_)
    | (with_reducible refine Rf.wp_comp ?_)
    | (with_reducible refine Rf.wp_it ?_)
    | (with_reducible refine Rf.itd_tup ?_)
    | (with_reducible refine Rf.itd_lst ?_)
    | (with_reducible refine Rf.wp_for ?_)
    | (with_reducible refine Rf.wp_body ?_)
    | (with_reducible refine Rf.wp_rng1 ?_)
    | (with_reducible refine Rf.wp_rng2 ?_)
    | (with_reducible refine Rf.wp_sNil ?_)
    | (with_reducible refine Rf.wp_retN ?_)
    | (with_reducible refine Rf.wp_brk ?_)
    | (with_reducible refine Rf.wp_cnt ?_)
    | (with_reducible refine Rf.ifT ?_)
    | (with_reducible refine Rf.ifF ?_)
    | (with_reducible refine Rf.add_int ?_)
    | (with_reducible refine Rf.sub_int ?_)
    | ((with_reducible refine Rf.mod_int ?_ ?_); first | decide | omega)
    | ((with_reducible refine Rf.div_int ?_ ?_); first | decide | omega)
    | ((with_reducible refine Rf.mul_int ?_ ?_); first | (refine Rf.mulOk_l ?_; decide) | (refine Rf.mulOk_r ?_; decide) | (refine Rf.mulOk_l ?_; omega) | (refine Rf.mulOk_r ?_; omega))
    | (with_reducible refine Rf.lt_int ?_)
    | (with_reducible refine Rf.le_int ?_)
    | (with_reducible refine Rf.gt_int ?_)
    | (with_reducible refine Rf.ge_int ?_)
    | (with_reducible refine Rf.lt_str ?_)
    | (with_reducible refine Rf.eq_int ?_)
    | (with_reducible refine Rf.ne_int ?_)
    | (with_reducible refine Rf.eq_str ?_)
    | (with_reducible refine Rf.ne_str ?_)
    | (with_reducible refine Rf.isn_dat ?_)
    | (with_reducible refine Rf.isnt_dat ?_)
    | (with_reducible refine Rf.len_tup ?_)
    | (with_reducible refine Rf.len_lst ?_)
    | (with_reducible refine Rf.len_tw ?_)
    | (with_reducible refine Rf.len_lw ?_)
    | (with_reducible refine Rf.int_int ?_)
    | (with_reducible refine Rf.int_bool ?_)
    | (with_reducible refine Rf.abs_int ?_)
    | (with_reducible refine Rf.max_int ?_)
    | (with_reducible refine Rf.min_int ?_)
    | (with_reducible refine Rf.all_map ?_)
    | (with_reducible refine Rf.any_map ?_)
    | (with_reducible refine Rf.tuple_lst ?_)
    | (with_reducible refine Rf.tuple_tup ?_)
    | (with_reducible refine Rf.list_lst ?_)
    | (with_reducible refine Rf.list_tup ?_)
    | (with_reducible refine Rf.sl_tup ?_)
    | (with_reducible refine Rf.sl_lst ?_)
    | (with_reducible refine Rf.rt_same ?_))))
namespace Rf
theorem ifBF {c : Bool} {A B : Prop} (h : c = false) (q : B) : (c = true → A) ∧ (c = false → B) := ⟨fun z => (by rw [h] at z; cases z), fun _ => q⟩
end Rf

namespace Rf
open PySem L2 Nm

/-! ### plain data: how deep, when equal -/
def PD (n : Nat) (d : PyData) : Prop := d.plain = true ∧ d.depth ≤ n
theorem PD.mono {m n : Nat} {d : PyData} (h : PD m d) (hmn : m ≤ n) : PD n d := ⟨h.1, Nat.le_trans h.2 hmn⟩
theorem pd_str {n : Nat} (z : Str) : PD n (.str z) := ⟨rfl, by simp [PyData.depth]⟩
theorem pd_int {n : Nat} (z : Int) : PD n (.int z) := ⟨rfl, by simp [PyData.depth]⟩
theorem pd_bool {n : Nat} (z : Bool) : PD n (.bool z) := ⟨rfl, by simp [PyData.depth]⟩
theorem pd_non {n : Nat} : PD n .none := ⟨rfl, by simp [PyData.depth]⟩
theorem pd_all {n : Nat} : ∀ {xs : List PyData}, (∀ x ∈ xs, PD n x) → PyData.plainAll xs = true ∧ PyData.depthAll xs ≤ n
  | [], _ => by simp [PyData.plainAll, PyData.depthAll]
  | x :: xs, h => by
    obtain ⟨a, b⟩ := h x (by simp)
    obtain ⟨c, d⟩ := pd_all (xs := xs) fun y hy => h y (by simp [hy])
    refine ⟨by simp [PyData.plainAll, a, c], ?_⟩
    simp only [PyData.depthAll]
    omega
theorem pd_tup {n : Nat} {xs : List PyData} (h : ∀ x ∈ xs, PD n x) : PD (n + 1) (.tuple xs) := by
  obtain ⟨a, b⟩ := pd_all h
  exact ⟨by rw [PyData.plain]; exact a, by rw [PyData.depth]; omega⟩
theorem pd_lst {n : Nat} {xs : List PyData} (h : ∀ x ∈ xs, PD n x) : PD (n + 1) (.list xs) := by
  obtain ⟨a, b⟩ := pd_all h
  exact ⟨by rw [PyData.plain]; exact a, by rw [PyData.depth]; omega⟩
theorem eqv_self {d : PyData} (h : d.plain = true) : PyData.eqv d d = true := SeqAt.eqv_refl_plain d h
mutual
/-- no truth values, no dicts -/
def strictD : PyData → Bool
  | .none => true
  | .int _ => true
  | .str _ => true
  | .list xs => strictAll xs
  | .tuple xs => strictAll xs
  | _ => false
def strictAll : List PyData → Bool
  | [] => true
  | x :: xs => strictD x && strictAll xs
end
mutual
theorem strict_eq : ∀ {d e : PyData}, strictD d = true → strictD e = true → PyData.eqv d e = true → d = e
  | .none, e, _, he, h => by cases e <;> simp_all [PyData.eqv, strictD]
  | .int i, e, _, he, h => by cases e <;> simp_all [PyData.eqv, strictD]
  | .str x, e, _, he, h => by cases e <;> simp_all [PyData.eqv, strictD]
  | .list xs, .list ys, hd, he, h => by
    rw [PyData.eqv] at h
    rw [strict_eqAll (by rw [strictD] at hd; exact hd) (by rw [strictD] at he; exact he) h]
  | .tuple xs, .tuple ys, hd, he, h => by
    rw [PyData.eqv] at h
    rw [strict_eqAll (by rw [strictD] at hd; exact hd) (by rw [strictD] at he; exact he) h]
  | .list xs, .none, _, _, h => by simp [PyData.eqv] at h
  | .list xs, .int _, _, _, h => by simp [PyData.eqv] at h
  | .list xs, .str _, _, _, h => by simp [PyData.eqv] at h
  | .list xs, .bool _, _, _, h => by simp [PyData.eqv] at h
  | .list xs, .tuple _, _, _, h => by simp [PyData.eqv] at h
  | .list xs, .dict _, _, _, h => by simp [PyData.eqv] at h
  | .tuple xs, .none, _, _, h => by simp [PyData.eqv] at h
  | .tuple xs, .int _, _, _, h => by simp [PyData.eqv] at h
  | .tuple xs, .str _, _, _, h => by simp [PyData.eqv] at h
  | .tuple xs, .bool _, _, _, h => by simp [PyData.eqv] at h
  | .tuple xs, .list _, _, _, h => by simp [PyData.eqv] at h
  | .tuple xs, .dict _, _, _, h => by simp [PyData.eqv] at h
  | .bool _, _, hd, _, _ => by simp [strictD] at hd
  | .dict _, _, hd, _, _ => by simp [strictD] at hd
theorem strict_eqAll : ∀ {xs ys : List PyData}, strictAll xs = true → strictAll ys = true → PyData.eqvAll xs ys = true → xs = ys
  | [], [], _, _, _ => rfl
  | x :: xs, y :: ys, hd, he, h => by
    rw [PyData.eqvAll, Bool.and_eq_true] at h
    rw [strictAll, Bool.and_eq_true] at hd he
    rw [strict_eq hd.1 he.1 h.1, strict_eqAll hd.2 he.2 h.2]
  | [], _ :: _, _, _, h => by simp [PyData.eqvAll] at h
  | _ :: _, [], _, _, h => by simp [PyData.eqvAll] at h
end
mutual
theorem strict_plain : ∀ {d : PyData}, strictD d = true → d.plain = true
  | .none, _ => rfl
  | .int _, _ => rfl
  | .str _, _ => rfl
  | .list xs, h => by rw [PyData.plain]; exact strict_plainAll (by rw [strictD] at h; exact h)
  | .tuple xs, h => by rw [PyData.plain]; exact strict_plainAll (by rw [strictD] at h; exact h)
  | .bool _, _ => rfl
  | .dict _, h => by simp [strictD] at h
theorem strict_plainAll : ∀ {xs : List PyData}, strictAll xs = true → PyData.plainAll xs = true
  | [], _ => rfl
  | x :: xs, h => by
    rw [strictAll, Bool.and_eq_true] at h
    rw [PyData.plainAll, strict_plain h.1, strict_plainAll h.2]; rfl
end
section
variable {bs : List Nat} {S : Store} {Q : W → Store → Prop}
theorem eq_pd {neg : Bool} {m n : Nat} {d e : PyData} (hd : PD m d) (he : PD n e) (hm : m ≤ 64) (q : Q (.dat (.bool (PyData.eqv d e != neg))) S) : wpo (eqF neg bs (.dat d) (.dat e) S) Q := eq_view rfl rfl hd.1 he.1 (Nat.le_trans hd.2 hm) q
/-- equal, and known so -/
theorem eq_same {neg : Bool} {n : Nat} {d : PyData} (hd : PD n d) (hn : n ≤ 64) (q : Q (.dat (.bool (!neg))) S) : wpo (eqF neg bs (.dat d) (.dat d) S) Q := eq_pd hd hd hn (by rw [eqv_self hd.1]; cases neg <;> exact q)
end
end Rf

namespace Rf
open PySem L2 Nm
section
variable {bs : List Nat} {S : Store} {Q : W → Store → Prop} {x y : W}
end
end Rf
local macro_rules
  | `(tactic| array_get_dec) => `(tactic| ((first
    | (with_reducible refine Rf.eqA_tup ?_)
    | (with_reducible refine Rf.eqA_lst ?_)
    | (with_reducible refine Rf.wp_try ?_)
    | (with_reducible refine Rf.wp_suite ?_)
    | (with_reducible refine Rf.wp_thunk ?_)
    | (with_reducible refine Rf.wp_kept ?_)
    | (with_reducible refine Rf.wp_lam ?_)
    | (with_reducible refine Rf.wp_raise ?_)
    | (with_reducible refine Rf.wp_raise1 ?_)
    | (with_reducible refine Rf.ex1 ?_)
    | (with_reducible refine Rf.ex_nil' ?_)
    | (with_reducible refine Rf.ex_dat' ?_)
    | (with_reducible refine Rf.wp_comp2 ?_)
    | (with_reducible refine Rf.wp_conIx ?_)
    | (with_reducible refine Rf.wp_back ?_)
    | (with_reducible refine Rf.bk_tup ?_)
    | (with_reducible refine Rf.bk_lst ?_)
    | (with_reducible refine Rf.wp_itS ?_)
    | (with_reducible refine Rf.its_str ?_)
    | (with_reducible refine Rf.its_tup ?_)
    | (with_reducible refine Rf.its_lst ?_)
    | (with_reducible refine Rf.its_tw ?_)
    | (with_reducible refine Rf.its_lw ?_)
    | (with_reducible refine Rf.wp_conW ?_)
    | (with_reducible refine Rf.wp_mt ?_)
    | (with_reducible refine Rf.tyS ?_)
    | (with_reducible refine Rf.tyLd ?_)
    | (with_reducible refine Rf.tyLc (by assumption) ?_)
    | (with_reducible refine Rf.in_alpha ?_)
    | (with_reducible refine Rf.ifNT ?_)
    | (with_reducible refine Rf.wp_fld ?_)
    | (with_reducible refine Rf.wp_sFld ?_)
    | (with_reducible refine Rf.wp_sFldA ?_)
    | (with_reducible refine Rf.wp_meth ?_)
    | (with_reducible refine Rf.iadd_int ?_)
    | (with_reducible refine Rf.rt_app ?_)
    | ((with_reducible refine Rf.exRng1 ?_ ?_); omega)
    | ((with_reducible refine Rf.exRng2 ?_ ?_); omega)
    | (with_reducible refine Rf.ifNF ?_)
    | dsimp only [Rf.strB, Rf.intB, Rf.boolB, Rf.tupB, Rf.dicB, Rf.noneB]
    | (with_reducible refine Rf.wp_seq ?_)
    | (with_reducible refine Rf.wp_asg ?_)
    | (with_reducible refine Rf.wp_name ?_)
    | (with_reducible refine Rf.wp_ret ?_)
    | (with_reducible refine Rf.wp_sIf ?_)
    | (with_reducible refine Rf.wp_drop ?_)
    | (with_reducible refine Rf.wp_varD (by with_unfolding_all exact rfl) ?_)
    | (with_reducible refine Rf.wp_varL (by with_unfolding_all exact rfl) ?_)
    | (with_reducible refine Rf.wp_varT (by with_unfolding_all exact rfl) ?_)
    | (with_reducible refine Rf.wp_varLw (by with_unfolding_all exact rfl) ?_)
    | (with_reducible refine Rf.wp_varKt (by with_unfolding_all exact rfl) ?_)
    | (with_reducible refine Rf.wp_varK (by with_unfolding_all exact rfl) ?_)
    | (with_reducible refine Rf.wp_con ?_)
    | (with_reducible refine Rf.wp_bin ?_)
    | (with_reducible refine Rf.wp_B ?_)
    | (with_reducible refine Rf.isB_mk ?_)
    | (with_reducible refine Rf.wp_not ?_)
    | (with_reducible refine Rf.wp_if ?_)
    | (with_reducible refine Rf.wp_ok ?_)
    | (with_reducible refine Rf.nl_dat ?_)
    | (with_reducible refine Rf.nl_map ?_)
    | (with_reducible refine Rf.nl_cell ?_)
    | (with_reducible refine Rf.wp_yes ?_)
    | (with_reducible refine Rf.wp_tru ?_)
    | (with_reducible refine Rf.wp_andV ?_)
    | (with_reducible refine Rf.wp_orV ?_)
    | (with_reducible refine Rf.wp_notV ?_)
    | (with_reducible refine Rf.exTru (by with_unfolding_all exact rfl) ?_)
    | (with_reducible refine Rf.wp_neg ?_)
    | (with_reducible refine Rf.exInt ?_)
    | (with_reducible refine Rf.wp_chain ?_)
    | (with_reducible refine Rf.wp_cons ?_)
    | (with_reducible refine Rf.wp_nil ?_)
    | (with_reducible refine Rf.wp_tup ?_)
    | (with_reducible refine Rf.tp_dat (by with_unfolding_all exact rfl) (by with_unfolding_all exact rfl) ?_)
    | (with_reducible refine Rf.wp_lst ?_)
    | (with_reducible refine Rf.lp_dat (by with_unfolding_all exact rfl) (by with_unfolding_all exact rfl) ?_)
    | (with_reducible refine Rf.lp_cell (by with_unfolding_all exact rfl) ?_)
    | (with_reducible refine Rf.wp_CB ?_)
    | (with_reducible refine Rf.wp_call ?_)
    | (with_reducible refine Rf.wp_isi ?_)
    | (with_reducible refine Rf.isi_int ?_)
    | (with_reducible refine Rf.isi_bool ?_)
    | (with_reducible refine Rf.isi_tup ?_)
    | (with_reducible refine Rf.isi_str ?_)
    | (with_reducible refine Rf.isi_dic ?_)
    | (with_reducible refine Rf.wp_sl ?_)
    | (with_reducible refine Rf.wp_noPart ?_)
    | (with_reducible refine Rf.wp_part ?_)
    | (with_reducible refine Rf.wp_dic0t ?_)
    | (with_reducible refine Rf.wp_dic0f ?_)
    | (with_reducible refine Rf.wp_par ?_)
    | (with_reducible refine Rf.ex2 ?_)
    | (with_reducible refine Rf.wp_par3 ?_)
    | (with_reducible refine Rf.ex3 ?_)
    | (with_reducible refine Rf.wp_comp ?_)
    | (with_reducible refine Rf.wp_it ?_)
    | (with_reducible refine Rf.itd_tup ?_)
    | (with_reducible refine Rf.itd_lst ?_)
    | (with_reducible refine Rf.wp_for ?_)
    | (with_reducible refine Rf.wp_body ?_)
    | (with_reducible refine Rf.wp_rng1 ?_)
    | (with_reducible refine Rf.wp_rng2 ?_)
    | (with_reducible refine Rf.wp_sNil ?_)
    | (with_reducible refine Rf.wp_retN ?_)
    | (with_reducible refine Rf.wp_brk ?_)
    | (with_reducible refine Rf.wp_cnt ?_)
    | (with_reducible refine Rf.ifT ?_)
    | (with_reducible refine Rf.ifF ?_)
    | (with_reducible refine Rf.add_int ?_)
    | (with_reducible refine Rf.sub_int ?_)
    | ((with_reducible refine Rf.mod_int ?_ ?_); first | decide | omega)
    | ((with_reducible refine Rf.div_int ?_ ?_); first | decide | omega)
    | ((with_reducible refine Rf.mul_int ?_ ?_); first | (refine Rf.mulOk_l ?_; decide) | (refine Rf.mulOk_r ?_; decide) | (refine Rf.mulOk_l ?_; omega) | (refine Rf.mulOk_r ?_; omega))
    | (with_reducible refine Rf.lt_int ?_)
    | (with_reducible refine Rf.le_int ?_)
    | (with_reducible refine Rf.gt_int ?_)
    | (with_reducible refine Rf.ge_int ?_)
    | (with_reducible refine Rf.lt_str ?_)
    | (with_reducible refine Rf.eq_int ?_)
    | (with_reducible refine Rf.ne_int ?_)
    | (with_reducible refine Rf.eq_str ?_)
    | (with_reducible refine Rf.ne_str ?_)
    | (with_reducible refine Rf.isn_dat ?_)
    | (with_reducible refine Rf.isnt_dat ?_)
    | (with_reducible refine Rf.len_tup ?_)
    | (with_reducible refine Rf.len_lst ?_)
    | (with_reducible refine Rf.len_tw ?_)
    | (with_reducible refine Rf.len_lw ?_)
    | (with_reducible refine Rf.int_int ?_)
    | (with_reducible refine Rf.int_bool ?_)
    | (with_reducible refine Rf.abs_int ?_)
    | (with_reducible refine Rf.max_int ?_)
    | (with_reducible refine Rf.min_int ?_)
    | (with_reducible refine Rf.all_map ?_)
    | (with_reducible refine Rf.any_map ?_)
    | (with_reducible refine Rf.tuple_lst ?_)
    | (with_reducible refine Rf.tuple_tup ?_)
    | (with_reducible refine Rf.list_lst ?_)
    | (with_reducible refine Rf.list_tup ?_)
    | (with_reducible refine Rf.sl_tup ?_)
    | (with_reducible refine Rf.sl_lst ?_)
    | (with_reducible refine Rf.rt_same ?_)); repeat (first
    | (with_reducible refine Rf.eqA_tup ?_)
    | (with_reducible refine Rf.eqA_lst ?_)
    | (with_reducible refine Rf.wp_try ?_)
    | (with_reducible refine Rf.wp_suite ?_)
    | (with_reducible refine Rf.wp_thunk ?_)
    | (with_reducible refine Rf.wp_kept ?_)
    | (with_reducible refine Rf.wp_lam ?_)
    | (with_reducible refine Rf.wp_raise ?_)
    | (with_reducible refine Rf.wp_raise1 ?_)
    | (with_reducible refine Rf.ex1 ?_)
    | (with_reducible refine Rf.ex_nil' ?_)
    | (with_reducible refine Rf.ex_dat' ?_)
    | (with_reducible refine Rf.wp_comp2 ?_)
    | (with_reducible refine Rf.wp_conIx ?_)
    | (with_reducible refine Rf.wp_back ?_)
    | (with_reducible refine Rf.bk_tup ?_)
    | (with_reducible refine Rf.bk_lst ?_)
    | (with_reducible refine Rf.wp_itS ?_)
    | (with_reducible refine Rf.its_str ?_)
    | (with_reducible refine Rf.its_tup ?_)
    | (with_reducible refine Rf.its_lst ?_)
    | (with_reducible refine Rf.its_tw ?_)
    | (with_reducible refine Rf.its_lw ?_)
    | (with_reducible refine Rf.wp_conW ?_)
    | (with_reducible refine Rf.wp_mt ?_)
    | (with_reducible refine Rf.tyS ?_)
    | (with_reducible refine Rf.tyLd ?_)
    | (with_reducible refine Rf.tyLc (by assumption) ?_)
    | (with_reducible refine Rf.in_alpha ?_)
    | (with_reducible refine Rf.ifNT ?_)
    | (with_reducible refine Rf.wp_fld ?_)
    | (with_reducible refine Rf.wp_sFld ?_)
    | (with_reducible refine Rf.wp_sFldA ?_)
    | (with_reducible refine Rf.wp_meth ?_)
    | (with_reducible refine Rf.iadd_int ?_)
    | (with_reducible refine Rf.rt_app ?_)
    | ((with_reducible refine Rf.exRng1 ?_ ?_); omega)
    | ((with_reducible refine Rf.exRng2 ?_ ?_); omega)
    | (with_reducible refine Rf.ifNF ?_)
    | dsimp only [Rf.strB, Rf.intB, Rf.boolB, Rf.tupB, Rf.dicB, Rf.noneB]
    | (with_reducible refine Rf.wp_seq ?_)
    | (with_reducible refine Rf.wp_asg ?_)
    | (with_reducible refine Rf.wp_name ?_)
    | (with_reducible refine Rf.wp_ret ?_)
    | (with_reducible refine Rf.wp_sIf ?_)
    | (with_reducible refine Rf.wp_drop ?_)
    | (with_reducible refine Rf.wp_varD (by with_unfolding_all exact rfl) ?_)
    | (with_reducible refine Rf.wp_varL (by with_unfolding_all exact rfl) ?_)
    | (with_reducible refine Rf.wp_varT (by with_unfolding_all exact rfl) ?_)
    | (with_reducible refine Rf.wp_varLw (by with_unfolding_all exact rfl) ?_)
    | (with_reducible refine Rf.wp_varKt (by with_unfolding_all exact rfl) ?_)
    | (with_reducible refine Rf.wp_varK (by with_unfolding_all exact rfl) ?_)
    | (with_reducible refine Rf.wp_con ?_)
    | (with_reducible refine Rf.wp_bin ?_)
    | (with_reducible refine Rf.wp_B ?_)
    | (with_reducible refine Rf.isB_mk ?_)
    | (with_reducible refine Rf.wp_not ?_)
    | (with_reducible refine Rf.wp_if ?_)
    | (with_reducible refine Rf.wp_ok ?_)
    | (with_reducible refine Rf.nl_dat ?_)
    | (with_reducible refine Rf.nl_map ?_)
    | (with_reducible refine Rf.nl_cell ?_)
    | (with_reducible refine Rf.wp_yes ?_)
    | (with_reducible refine Rf.wp_tru ?_)
    | (with_reducible refine Rf.wp_andV ?_)
    | (with_reducible refine Rf.wp_orV ?_)
    | (with_reducible refine Rf.wp_notV ?_)
    | (with_reducible refine Rf.exTru (by with_unfolding_all exact rfl) ?_)
    | (with_reducible refine Rf.wp_neg ?_)
    | (with_reducible refine Rf.exInt ?_)
    | (with_reducible refine Rf.wp_chain ?_)
    | (with_reducible refine Rf.wp_cons ?_)
    | (with_reducible refine Rf.wp_nil ?_)
    | (with_reducible refine Rf.wp_tup ?_)
    | (with_reducible refine Rf.tp_dat (by with_unfolding_all exact rfl) (by with_unfolding_all exact rfl) ?_)
    | (with_reducible refine Rf.wp_lst ?_)
    | (with_reducible refine Rf.lp_dat (by with_unfolding_all exact rfl) (by with_unfolding_all exact rfl) ?_)
    | (with_reducible refine Rf.lp_cell (by with_unfolding_all exact rfl) ?_)
    | (with_reducible refine Rf.wp_CB ?_)
    | (with_reducible refine Rf.wp_call ?_)
    | (with_reducible refine Rf.wp_isi ?_)
    | (with_reducible refine Rf.isi_int ?_)
    | (with_reducible refine Rf.isi_bool ?_)
    | (with_reducible refine Rf.isi_tup ?_)
    | (with_reducible refine Rf.isi_str ?_)
    | (with_reducible refine Rf.isi_dic ?_)
    | (with_reducible refine Rf.wp_sl ?_)
    | (with_reducible refine Rf.wp_noPart ?_)
    | (with_reducible refine Rf.wp_part ?_)
    | (with_reducible refine Rf.wp_dic0t ?_)
    | (with_reducible refine Rf.wp_dic0f ?_)
    | (with_reducible refine Rf.wp_par ?_)
    | (with_reducible refine Rf.ex2 ?_)
    | (with_reducible refine Rf.wp_par3 ?_)
    | (with_reducible refine Rf.ex3 ?_)
    | (with_reducible refine Rf.wp_comp ?_)
    | (with_reducible refine Rf.wp_it ?_)
    | (with_reducible refine Rf.itd_tup ?_)
    | (with_reducible refine Rf.itd_lst ?_)
    | (with_reducible refine Rf.wp_for ?_)
    | (with_reducible refine Rf.wp_body ?_)
    | (with_reducible refine Rf.wp_rng1 ?_)
    | (with_reducible refine Rf.wp_rng2 ?_)
    | (with_reducible refine Rf.wp_sNil ?_)
    | (with_reducible refine Rf.wp_retN ?_)
    | (with_reducible refine Rf.wp_brk ?_)
    | (with_reducible refine Rf.wp_cnt ?_)
    | (with_reducible refine Rf.ifT ?_)
    | (with_reducible refine Rf.ifF ?_)
    | (with_reducible refine Rf.add_int ?_)
    | (with_reducible refine Rf.sub_int ?_)
    | ((with_reducible refine Rf.mod_int ?_ ?_); first | decide | omega)
    | ((with_reducible refine Rf.div_int ?_ ?_); first | decide | omega)
    | ((with_reducible refine Rf.mul_int ?_ ?_); first | (refine Rf.mulOk_l ?_; decide) | (refine Rf.mulOk_r ?_; decide) | (refine Rf.mulOk_l ?_; omega) | (refine Rf.mulOk_r ?_; omega))
    | (with_reducible refine Rf.lt_int ?_)
    | (with_reducible refine Rf.le_int ?_)
    | (with_reducible refine Rf.gt_int ?_)
    | (with_reducible refine Rf.ge_int ?_)
    | (with_reducible refine Rf.lt_str ?_)
    | (with_reducible refine Rf.eq_int ?_)
    | (with_reducible refine Rf.ne_int ?_)
    | (with_reducible refine Rf.eq_str ?_)
    | (with_reducible refine Rf.ne_str ?_)
    | (with_reducible refine Rf.isn_dat ?_)
    | (with_reducible refine Rf.isnt_dat ?_)
    | (with_reducible refine Rf.len_tup ?_)
    | (with_reducible refine Rf.len_lst ?_)
    | (with_reducible refine Rf.len_tw ?_)
    | (with_reducible refine Rf.len_lw ?_)
    | (with_reducible refine Rf.int_int ?_)
    | (with_reducible refine Rf.int_bool ?_)
    | (with_reducible refine Rf.abs_int ?_)
    | (with_reducible refine Rf.max_int ?_)
    | (with_reducible refine Rf.min_int ?_)
    | (with_reducible refine Rf.all_map ?_)
    | (with_reducible refine Rf.any_map ?_)
    | (with_reducible refine Rf.tuple_lst ?_)
    | (with_reducible refine Rf.tuple_tup ?_)
    | (with_reducible refine Rf.list_lst ?_)
    | (with_reducible refine Rf.list_tup ?_)
    | (with_reducible refine Rf.sl_tup ?_)
    | (with_reducible refine Rf.sl_lst ?_)
    | (with_reducible refine Rf.rt_same ?_))))
namespace Rf
end Rf

namespace Rf
open PySem L2
section
variable {bs : List Nat} {E : EK} {N : Env → Store → Prop} {R : W → Store → Prop} {B C : Env → Store → Prop} {E' : Nat → List W → Env → Store → Prop}
theorem zip_at (a b : List W) (S : Store) (i : Nat) : (Iter.zip (.items a) (.items b)).next i S = some (((a.zip b)[i]?).map fun p => mkTup [p.1, p.2]) := by
  have e : (a.zip b)[i]? = match a[i]?, b[i]? with | some x, some y => some (x, y) | _, _ => none := by
    rw [List.zip, List.getElem?_zipWith]
    cases a[i]? <;> cases b[i]? <;> rfl
  rw [e]
  show (match some a[i]?, some b[i]? with | some (some x), some (some y) => _ | some none, some _ => _ | some _, some none => _ | _, _ => _) = _
  cases a[i]? <;> cases b[i]? <;> rfl
theorem zip_next_of {a b : List W} {pre post : List (W × W)} {S : Store} (h : a.zip b = pre ++ post) : (Iter.zip (.items a) (.items b)).next pre.length S = some (post.head?.map fun p => mkTup [p.1, p.2]) := by
  rw [zip_at, h]
  cases post <;> simp
theorem wp_compZ {a b : List W} {t : TM} {c : M Bool} {e : M W} {env : Env} {S : Store} {Q : List W → Store → Prop} (g : W × W → Option W) (hl : a.length ≤ 100000)
    (step : ∀ p ∈ a.zip b, (t (mkTup [p.1, p.2]) bs env S).wp (fun env1 S1 => (c bs env1 S1).wp (fun z S2 => (z = true → (e bs env1 S2).wp (fun y S3 => g p = some y ∧ S3 = S) NoE) ∧ (z = false → g p = none ∧ S2 = S)) NoE) NoE)
    (q : Q ((a.zip b).filterMap g) S) : (compG (.zip (.items a) (.items b)) t c e (Iter.zip (.items a) (.items b)).fuel 0 [] bs env S).wp Q E := by
  have lz : (a.zip b).length ≤ a.length := by rw [List.length_zip]; omega
  refine wp_compG (f := fun p : W × W => mkTup [p.1, p.2]) (xs := a.zip b) (fun pre acc S' => acc = pre.filterMap g ∧ S' = S) (fun pre post acc S hx _ => zip_next_of hx) (fun pre x post acc S' hx ⟨h1, h2⟩ => ?_) (fun acc S' ⟨h1, h2⟩ => by subst h1 h2; exact q) _ [] (a.zip b) [] S rfl (by show (a.zip b).length < a.length + 1; omega) ⟨rfl, rfl⟩
  subst h2
  have hm : x ∈ a.zip b := by rw [hx]; simp
  refine (step x hm).imp fun env1 S1 h3 => h3.imp fun z S2 h4 => ⟨fun hb => (h4.1 hb).imp fun y S3 ⟨h5, h6⟩ => ⟨?_, ?_, h6⟩, fun hb => ⟨?_, (h4.2 hb).2⟩⟩
  · have l2 : (pre.filterMap g).length ≤ pre.length := List.length_filterMap_le ..
    have l3 : pre.length < (a.zip b).length := by rw [hx]; simp
    rw [h1]; omega
  · rw [List.filterMap_append, h1]; simp [h5]
  · rw [List.filterMap_append, h1]; simp [(h4.2 hb).1]
theorem ge_str {a b : Str} {S : Store} {Q : W → Store → Prop} (q : Q (.dat (.bool (Ord.ge.str a b))) S) : wpo (ordF .ge bs (.dat (.str a)) (.dat (.str b)) S) Q := q
def ZP (S : Store) (x y : W) (Q : Iter → Prop) : Prop := ∃ it, zipO S x y = some it ∧ Q it
theorem zp_tup {xs ys : List PyData} {S : Store} {Q : Iter → Prop} (q : Q (.zip (.items (xs.map .dat)) (.items (ys.map .dat)))) : ZP S (.dat (.tuple xs)) (.dat (.tuple ys)) Q := ⟨_, rfl, q⟩
theorem wp_mZip {ms : M (List W)} {env : Env} {S : Store} {Q : Iter → Store → Prop} (h : (ms bs env S).wp (fun ws S1 => ∃ x y, ws = [x, y] ∧ ZP S1 x y fun it => Q it S1) E) : (mZip ms bs env S).wp Q E := bind_wp (h.imp fun ws S1 ⟨x, y, e, it, e2, q⟩ => by
  subst e
  dsimp only
  rw [e2]; exact q)
/-- two generators, nothing changed -/
theorem wp_comp2U {α : Type} {f : α → W} {t t1 : TM} {c c1 : M Bool} {mi1 : M Iter} {vs1 : List Nat} {e : M W} {env : Env} {S : Store} (g : α → List W) {xs : List α} (hl : (xs.map g).flatten.length ≤ 100000)
    (step : ∀ x ∈ xs, ∀ acc : List W, acc.length + (g x).length ≤ 100000 → (t (f x) bs env S).wp (fun env1 S1 => (c bs env1 S1).wp (fun b S2 => b = true ∧ (mi1 bs env1 S2).wp (fun it1 S3 => (compG it1 t1 c1 e it1.fuel 0 acc bs (wipeE env1 vs1) S3).wp (fun a S4 => a = acc ++ g x ∧ S4 = S) NoE) NoE) NoE) NoE)
    {Q : List W → Store → Prop} (q : Q (xs.map g).flatten S) :
    ∀ (fuel : Nat) (pre post : List α), xs = pre ++ post → post.length < fuel → (compG2 (.items (xs.map f)) t c mi1 vs1 t1 c1 e fuel pre.length (pre.map g).flatten bs env S).wp Q E
  | 0, pre, post, hx, hf => by omega
  | fuel + 1, pre, post, hx, hf => by
    unfold compG2
    have hn : (Iter.items (xs.map f)).next pre.length S = some (post.head?.map f) := next_of hx
    simp only [hn]
    cases post with
    | nil =>
      rw [List.append_nil] at hx
      subst hx
      exact q
    | cons x post =>
      have hm : x ∈ xs := by rw [hx]; simp
      have e1 : (pre.map g).flatten.length + (g x).length ≤ 100000 := by
        have : ((xs.map g).flatten).length = (pre.map g).flatten.length + ((g x).length + ((post.map g).flatten).length) := by rw [hx]; simp
        omega
      refine bindC_wp ((step x hm _ e1).imp fun env1 S1 h1 => bindC_wp (h1.imp fun b S2 ⟨hb, h2⟩ => ?_))
      rw [if_pos hb]
      refine bindC_wp (h2.imp fun it1 S3 h3 => bindC_wp (h3.imp fun a S4 ⟨ha, hS⟩ => ?_))
      rw [ha, hS]
      have := wp_comp2U g hl step q fuel (pre ++ [x]) post (by simp [hx]) (by simp at hf; omega)
      simpa using this
theorem wp_comp2T {α : Type} {f : α → W} {t t1 : TM} {c c1 : M Bool} {mi1 : M Iter} {vs1 : List Nat} {e : M W} {env : Env} {S : Store} (g : α → List W) {xs : List α} (hl : (xs.map g).flatten.length ≤ 100000)
    (step : ∀ x ∈ xs, ∀ acc : List W, acc.length + (g x).length ≤ 100000 → (t (f x) bs env S).wp (fun env1 S1 => (c bs env1 S1).wp (fun b S2 => b = true ∧ (mi1 bs env1 S2).wp (fun it1 S3 => (compG it1 t1 c1 e it1.fuel 0 acc bs (wipeE env1 vs1) S3).wp (fun a S4 => a = acc ++ g x ∧ S4 = S) NoE) NoE) NoE) NoE)
    {Q : List W → Store → Prop} (q : Q (xs.map g).flatten S) : (compG2 (.items (xs.map f)) t c mi1 vs1 t1 c1 e (Iter.items (xs.map f)).fuel 0 [] bs env S).wp Q E :=
  wp_comp2U g hl step q _ [] xs rfl (by simp [Iter.fuel])
/-- the inner items are copied -/
theorem wp_copyTo {ds : List PyData} {acc : List W} {i : Nat} {env : Env} {S : Store} (hi : i < env.length) (hl : acc.length + (ds.map W.dat).length ≤ 100000) : (compG (.items (ds.map W.dat)) (tName i) mYes (mVar i) (Iter.items (ds.map W.dat)).fuel 0 acc bs env S).wp (fun a S4 => a = acc ++ ds.map .dat ∧ S4 = S) NoE :=
  wp_compCopy hi (by rw [List.length_map] at hl; exact hl) ⟨rfl, rfl⟩
/-- ranges -/
def RG3 (Q : Int → Int → Int → Store → Prop) (ws : List W) (S : Store) : Prop := ∃ i j d, ws = [.dat (.int i), .dat (.int j), .dat (.int d)] ∧ L2.RgC i j d (rgN i j d) ∧ Q i j d S
theorem rg3_mk {i j d : Int} {Q : Int → Int → Int → Store → Prop} {S : Store} (ok : L2.RgC i j d (rgN i j d)) (q : Q i j d S) : RG3 Q [.dat (.int i), .dat (.int j), .dat (.int d)] S := ⟨i, j, d, rfl, ok, q⟩
def RGW (Q : Int → Int → Int → Store → Prop) (w : W) (S : Store) : Prop := ∃ i j d, w = .rg i j d ∧ L2.RgC i j d (rgN i j d) ∧ Q i j d S
theorem rgw_mk {i j d : Int} {Q : Int → Int → Int → Store → Prop} {S : Store} (ok : L2.RgC i j d (rgN i j d)) (q : Q i j d S) : RGW Q (.rg i j d) S := ⟨i, j, d, rfl, ok, q⟩
theorem wp_rgV3 {ms : M (List W)} {env : Env} {S : Store} {Q : W → Store → Prop} (h : (ms bs env S).wp (fun ws S1 => RG3 (fun i j d S => Q (.rg i j d) S) ws S1) E) : (mRngV3 ms bs env S).wp Q E := bind_wp (h.imp fun ws S1 ⟨i, j, d, e, ok, q⟩ => by
  subst e
  dsimp only
  rw [if_pos ok]; exact q)
theorem wp_itR {m : M W} {env : Env} {S : Store} {Q : Iter → Store → Prop} (h : (m bs env S).wp (fun w S1 => RGW (fun i j d S => Q (.items (stepW i d (rgN i j d))) S) w S1) E) : (mItR m bs env S).wp Q E := bind_wp (h.imp fun w S1 ⟨i, j, d, e, ok, q⟩ => by
  subst e
  dsimp only
  rw [if_pos ok]; exact q)
theorem wp_rng3 {ms : M (List W)} {env : Env} {S : Store} {Q : Iter → Store → Prop} (h : (ms bs env S).wp (fun ws S1 => RG3 (fun i j d S => Q (.items (stepW i d (rgN i j d))) S) ws S1) E) : (mRng3 ms bs env S).wp Q E := bind_wp (h.imp fun ws S1 ⟨i, j, d, e, ok, q⟩ => by
  subst e
  dsimp only
  rw [if_pos ok]; exact q)
theorem wp_varRg {i : Nat} {x y z : Int} {env : Env} {S : Store} {Q : W → Store → Prop} (h : env[i]? = some (some (.rg x y z))) (q : Q (.rg x y z) S) : (mVar i bs env S).wp Q E := wp_var h q
end
end Rf

namespace V
open PySem L2 PyProof.Rows Rf
def top (i : Nat) : Stmt := PySem.Challenge.pw_everycut_k51_whole_heads_and_their_cells.main.body.getD i (.Pass ⟨0, 0, 0, 0⟩)
def errsV : List Nat := [50, 51, 52, 53]
def clsV : List Nat := [53]
def catV (k c : Nat) : Bool := decide ((k, c) ∈ ([(53, 53)] : List (Nat × Nat)))
structure Txt (g : Gx) (mg : Str → Option Value) (base : Heap) (a : Nat → Addr) (fd : Nat → FuncData) : Prop where
  b_isinstance : mg "isinstance" = none
  b_bool : mg "bool" = none
  b_int : mg "int" = none
  b_len : mg "len" = none
  c_MAX_NAME : ∃ u, mg "MAX_NAME" = some u ∧ RelV (.int 8) u
  b_str : mg "str" = none
  c_LETTERS : ∃ u, mg "LETTERS" = some u ∧ RelV (.str "abcdefghijklmnopqrstuvwxyz") u
  b_all : mg "all" = none
  c_MAX_CELL : ∃ u, mg "MAX_CELL" = some u ∧ RelV (.int 999999999999999999) u
  b_tuple : mg "tuple" = none
  b_range : mg "range" = none
  c_BASE : ∃ u, mg "BASE" = some u ∧ RelV (.int 27) u
  c_MOST_CELLS : ∃ u, mg "MOST_CELLS" = some u ∧ RelV (.int 52) u
  c_MOST_BLOCKS : ∃ u, mg "MOST_BLOCKS" = some u ∧ RelV (.int 240) u
  c_LEAST_BLOCKS : ∃ u, mg "LEAST_BLOCKS" = some u ∧ RelV (.int 24) u
  c_HEADS : ∃ u, mg "HEADS" = some u ∧ RelV (.int 2) u
  c_MAX_SHOTS : ∃ u, mg "MAX_SHOTS" = some u ∧ RelV (.int 6) u
  c_LEAST_HEAD : ∃ u, mg "LEAST_HEAD" = some u ∧ RelV (.int 5) u
  c_LEAST_SHELF : ∃ u, mg "LEAST_SHELF" = some u ∧ RelV (.int 16) u
  c_MAX_LOG : ∃ u, mg "MAX_LOG" = some u ∧ RelV (.int 40) u
  b_min : mg "min" = none
  c_LEAST_LOG : ∃ u, mg "LEAST_LOG" = some u ∧ RelV (.int 4) u
  b_abs : mg "abs" = none
  b_max : mg "max" = none
  b_zip : mg "zip" = none
  b_sorted : mg "sorted" = none
  b_set : mg "set" = none
  b_list : mg "list" = none
  f_is_number : Fun g.K "is_number" "is_number" (top 7) (a 0) (fd 0)
  n_is_number : Binds g.K (fd 0) ["value", "low", "high"] []
  g_is_number : mg "is_number" = some (.ref (a 0))
  f_check_number : Fun g.K "check_number" "check_number" (top 8) (a 1) (fd 1)
  n_check_number : Binds g.K (fd 1) ["value", "low", "high"] []
  g_check_number : mg "check_number" = some (.ref (a 1))
  f_is_name : Fun g.K "is_name" "is_name" (top 14) (a 2) (fd 2)
  n_is_name : Binds g.K (fd 2) ["value"] []
  g_is_name : mg "is_name" = some (.ref (a 2))
  f_is_cell : Fun g.K "is_cell" "is_cell" (top 15) (a 3) (fd 3)
  n_is_cell : Binds g.K (fd 3) ["value"] []
  g_is_cell : mg "is_cell" = some (.ref (a 3))
  f_are_cells : Fun g.K "are_cells" "are_cells" (top 16) (a 4) (fd 4)
  n_are_cells : Binds g.K (fd 4) ["value", "most"] []
  g_are_cells : mg "are_cells" = some (.ref (a 4))
  f_name_cell : Fun g.K "name_cell" "name_cell" (top 17) (a 5) (fd 5)
  n_name_cell : Binds g.K (fd 5) ["name"] []
  g_name_cell : mg "name_cell" = some (.ref (a 5))
  f__letters_of : Fun g.K "_letters_of" "_letters_of" (top 19) (a 7) (fd 7)
  n__letters_of : Binds g.K (fd 7) ["cell"] []
  g__letters_of : mg "_letters_of" = some (.ref (a 7))
  f_name_of_cell : Fun g.K "name_of_cell" "name_of_cell" (top 18) (a 6) (fd 6)
  n_name_of_cell : Binds g.K (fd 6) ["cell"] []
  g_name_of_cell : mg "name_of_cell" = some (.ref (a 6))
  f_check_cells : Fun g.K "check_cells" "check_cells" (top 24) (a 8) (fd 8)
  n_check_cells : Binds g.K (fd 8) ["cells"] []
  g_check_cells : mg "check_cells" = some (.ref (a 8))
  f__check_size : Fun g.K "_check_size" "_check_size" (top 32) (a 9) (fd 9)
  n__check_size : Binds g.K (fd 9) ["size"] []
  g__check_size : mg "_check_size" = some (.ref (a 9))
  f__is_root : Fun g.K "_is_root" "_is_root" (top 33) (a 10) (fd 10)
  n__is_root : Binds g.K (fd 10) ["size", "log", "value"] []
  g__is_root : mg "_is_root" = some (.ref (a 10))
  f__are_shots : Fun g.K "_are_shots" "_are_shots" (top 34) (a 11) (fd 11)
  n__are_shots : Binds g.K (fd 11) ["size", "log", "value"] []
  g__are_shots : mg "_are_shots" = some (.ref (a 11))
  f__fits : Fun g.K "_fits" "_fits" (top 35) (a 12) (fd 12)
  n__fits : Binds g.K (fd 12) ["size", "value"] []
  g__fits : mg "_fits" = some (.ref (a 12))
  f__check_head : Fun g.K "_check_head" "_check_head" (top 36) (a 13) (fd 13)
  n__check_head : Binds g.K (fd 13) ["size", "head"] []
  g__check_head : mg "_check_head" = some (.ref (a 13))
  f_is_head : Fun g.K "is_head" "is_head" (top 37) (a 14) (fd 14)
  n_is_head : Binds g.K (fd 14) ["size", "value"] []
  g_is_head : mg "is_head" = some (.ref (a 14))
  f__cells_of : Fun g.K "_cells_of" "_cells_of" (top 39) (a 16) (fd 16)
  n__cells_of : Binds g.K (fd 16) ["head"] []
  g__cells_of : mg "_cells_of" = some (.ref (a 16))
  f_head_cells : Fun g.K "head_cells" "head_cells" (top 38) (a 15) (fd 15)
  n_head_cells : Binds g.K (fd 15) ["size", "head"] []
  g_head_cells : mg "head_cells" = some (.ref (a 15))
  f__head_in : Fun g.K "_head_in" "_head_in" (top 40) (a 17) (fd 17)
  n__head_in : Binds g.K (fd 17) ["size", "cells"] []
  g__head_in : mg "_head_in" = some (.ref (a 17))
  f_head_of : Fun g.K "head_of" "head_of" (top 41) (a 18) (fd 18)
  n_head_of : Binds g.K (fd 18) ["size", "cells"] []
  g_head_of : mg "head_of" = some (.ref (a 18))
  f_next_head : Fun g.K "next_head" "next_head" (top 42) (a 19) (fd 19)
  n_next_head : Binds g.K (fd 19) ["size", "head", "number", "root", "shots"] []
  g_next_head : mg "next_head" = some (.ref (a 19))
  f__law_chest : Fun g.K "_law_chest" "_law_chest" (top 44) (a 20) (fd 20)
  n__law_chest : Binds g.K (fd 20) ["script", "spot"] []
  g__law_chest : mg "_law_chest" = some (.ref (a 20))
  f__law_draw : Fun g.K "_law_draw" "_law_draw" (top 45) (a 21) (fd 21)
  n__law_draw : Binds g.K (fd 21) ["chest", "total"] []
  g__law_draw : mg "_law_draw" = some (.ref (a 21))
  f__law_take : Fun g.K "_law_take" "_law_take" (top 46) (a 22) (fd 22)
  n__law_take : Binds g.K (fd 22) ["chest", "items"] []
  g__law_take : mg "_law_take" = some (.ref (a 22))
  f__law_name_cell : Fun g.K "_law_name_cell" "_law_name_cell" (top 47) (a 23) (fd 23)
  n__law_name_cell : Binds g.K (fd 23) ["name"] []
  g__law_name_cell : mg "_law_name_cell" = some (.ref (a 23))
  f__law_cell_name : Fun g.K "_law_cell_name" "_law_cell_name" (top 48) (a 24) (fd 24)
  n__law_cell_name : Binds g.K (fd 24) ["cell"] []
  g__law_cell_name : mg "_law_cell_name" = some (.ref (a 24))
  f__law_cells : Fun g.K "_law_cells" "_law_cells" (top 49) (a 25) (fd 25)
  n__law_cells : Binds g.K (fd 25) ["head"] []
  g__law_cells : mg "_law_cells" = some (.ref (a 25))
  f__law_is_cell : Fun g.K "_law_is_cell" "_law_is_cell" (top 50) (a 26) (fd 26)
  n__law_is_cell : Binds g.K (fd 26) ["value", "least", "most"] []
  g__law_is_cell : mg "_law_is_cell" = some (.ref (a 26))
  f__law_is_name : Fun g.K "_law_is_name" "_law_is_name" (top 51) (a 27) (fd 27)
  n__law_is_name : Binds g.K (fd 27) ["value"] []
  g__law_is_name : mg "_law_is_name" = some (.ref (a 27))
  f__law_is_head : Fun g.K "_law_is_head" "_law_is_head" (top 52) (a 28) (fd 28)
  n__law_is_head : Binds g.K (fd 28) ["size", "value"] []
  g__law_is_head : mg "_law_is_head" = some (.ref (a 28))
  f__law_of_cells : Fun g.K "_law_of_cells" "_law_of_cells" (top 53) (a 29) (fd 29)
  n__law_of_cells : Binds g.K (fd 29) ["size", "cells"] []
  g__law_of_cells : mg "_law_of_cells" = some (.ref (a 29))
  f__law_head : Fun g.K "_law_head" "_law_head" (top 54) (a 30) (fd 30)
  n__law_head : Binds g.K (fd 30) ["chest", "size", "turn"] []
  g__law_head : mg "_law_head" = some (.ref (a 30))
  f__law_near : Fun g.K "_law_near" "_law_near" (top 55) (a 31) (fd 31)
  n__law_near : Binds g.K (fd 31) ["chest", "size", "head"] []
  g__law_near : mg "_law_near" = some (.ref (a 31))
  f__law_other_cells : Fun g.K "_law_other_cells" "_law_other_cells" (top 56) (a 32) (fd 32)
  n__law_other_cells : Binds g.K (fd 32) ["chest", "cells"] []
  g__law_other_cells : mg "_law_other_cells" = some (.ref (a 32))
  f__law_next : Fun g.K "_law_next" "_law_next" (top 57) (a 33) (fd 33)
  n__law_next : Binds g.K (fd 33) ["call"] []
  g__law_next : mg "_law_next" = some (.ref (a 33))
  f__law_right : Fun g.K "_law_right" "_law_right" (top 58) (a 34) (fd 34)
  l__law_right : ∃ co Pt, (fd 34).code = .ref co ∧ LamX.TabB base mg co Pt ∧ (Pt, (("_law_right" : Str) ++ ".<locals>." ++ "<lambda>")) ∈ g.T ∧ ∀ p ∈ g.T, p.1 = Pt → p.2 = (("_law_right" : Str) ++ ".<locals>." ++ "<lambda>")
  n__law_right : Binds g.K (fd 34) ["chest"] []
  g__law_right : mg "_law_right" = some (.ref (a 34))
  f_law : Fun g.K "law" "law" (top 59) (a 35) (fd 35)
  l_law : ∃ co Pt, (fd 35).code = .ref co ∧ LamX.TabB base mg co Pt ∧ (Pt, (("law" : Str) ++ ".<locals>." ++ "<lambda>")) ∈ g.T ∧ ∀ p ∈ g.T, p.1 = Pt → p.2 = (("law" : Str) ++ ".<locals>." ++ "<lambda>")
  n_law : Binds g.K (fd 35) ["script"] []
  g_law : mg "law" = some (.ref (a 35))
  gx_InvalidNumber : mg "InvalidNumber" = some (.ref (g.cls 50))
  kx_InvalidNumber : PySem.W.keepIn g.K (.ref (g.cls 50)) = true
  bx_InvalidNumber : PySem.W.subIn g.K (.ref (g.cls 50)) (.type "BaseException") = some true
  tx_InvalidNumber : PySem.W.typeIn g.K (.ref (g.cls 50)) = some (.type "type")
  gx_InvalidName : mg "InvalidName" = some (.ref (g.cls 51))
  kx_InvalidName : PySem.W.keepIn g.K (.ref (g.cls 51)) = true
  qx_InvalidName : PySem.W.excIn g.K (g.cls 51) [.type "ValueError", .type "Exception", .type "BaseException", .type "object"] "ValueError.__new__" = true
  bx_InvalidName : PySem.W.subIn g.K (.ref (g.cls 51)) (.type "BaseException") = some true
  tx_InvalidName : PySem.W.typeIn g.K (.ref (g.cls 51)) = some (.type "type")
  gx_InvalidBlock : mg "InvalidBlock" = some (.ref (g.cls 52))
  kx_InvalidBlock : PySem.W.keepIn g.K (.ref (g.cls 52)) = true
  qx_InvalidBlock : PySem.W.excIn g.K (g.cls 52) [.type "ValueError", .type "Exception", .type "BaseException", .type "object"] "ValueError.__new__" = true
  bx_InvalidBlock : PySem.W.subIn g.K (.ref (g.cls 52)) (.type "BaseException") = some true
  tx_InvalidBlock : PySem.W.typeIn g.K (.ref (g.cls 52)) = some (.type "type")
  gx_InvalidOperation : mg "InvalidOperation" = some (.ref (g.cls 53))
  kx_InvalidOperation : PySem.W.keepIn g.K (.ref (g.cls 53)) = true
  qx_InvalidOperation : PySem.W.excIn g.K (g.cls 53) [.type "ValueError", .type "Exception", .type "BaseException", .type "object"] "ValueError.__new__" = true
  bx_InvalidOperation : PySem.W.subIn g.K (.ref (g.cls 53)) (.type "BaseException") = some true
  tx_InvalidOperation : PySem.W.typeIn g.K (.ref (g.cls 53)) = some (.type "type")
  lo_InvalidNumber : ∃ fi, PySem.ExInvalidNumber.Txt g.K mg (g.cls 50) fi
  fl_InvalidNumber : g.fld 50 = "given"
  xf_InvalidNumber : XfC g.K (g.cls 50)
  xn_InvalidNumber : PySem.W.findIn g.K (.ref (g.cls 50)) "given" = some none
  xm : ∀ c ∈ clsV, ∀ k ∈ errsV, PySem.W.exmOne g.K (.ref (g.cls k)) (.ref (g.cls c)) = some (catV k c)
theorem pinT {g : Gx} {mg : Str → Option Value} {base : Heap} {a : Nat → Addr} {fd : Nat → FuncData} (T : Txt g mg base a fd) {P : List Addr → Hp → Prop} {hP : Stays P} : Txt (g.pin P hP) mg base a fd := ⟨T.b_isinstance, T.b_bool, T.b_int, T.b_len, T.c_MAX_NAME, T.b_str, T.c_LETTERS, T.b_all, T.c_MAX_CELL, T.b_tuple, T.b_range, T.c_BASE, T.c_MOST_CELLS, T.c_MOST_BLOCKS, T.c_LEAST_BLOCKS, T.c_HEADS, T.c_MAX_SHOTS, T.c_LEAST_HEAD, T.c_LEAST_SHELF, T.c_MAX_LOG, T.b_min, T.c_LEAST_LOG, T.b_abs, T.b_max, T.b_zip, T.b_sorted, T.b_set, T.b_list, T.f_is_number, T.n_is_number, T.g_is_number, T.f_check_number, T.n_check_number, T.g_check_number, T.f_is_name, T.n_is_name, T.g_is_name, T.f_is_cell, T.n_is_cell, T.g_is_cell, T.f_are_cells, T.n_are_cells, T.g_are_cells, T.f_name_cell, T.n_name_cell, T.g_name_cell, T.f__letters_of, T.n__letters_of, T.g__letters_of, T.f_name_of_cell, T.n_name_of_cell, T.g_name_of_cell, T.f_check_cells, T.n_check_cells, T.g_check_cells, T.f__check_size, T.n__check_size, T.g__check_size, T.f__is_root, T.n__is_root, T.g__is_root, T.f__are_shots, T.n__are_shots, T.g__are_shots, T.f__fits, T.n__fits, T.g__fits, T.f__check_head, T.n__check_head, T.g__check_head, T.f_is_head, T.n_is_head, T.g_is_head, T.f__cells_of, T.n__cells_of, T.g__cells_of, T.f_head_cells, T.n_head_cells, T.g_head_cells, T.f__head_in, T.n__head_in, T.g__head_in, T.f_head_of, T.n_head_of, T.g_head_of, T.f_next_head, T.n_next_head, T.g_next_head, T.f__law_chest, T.n__law_chest, T.g__law_chest, T.f__law_draw, T.n__law_draw, T.g__law_draw, T.f__law_take, T.n__law_take, T.g__law_take, T.f__law_name_cell, T.n__law_name_cell, T.g__law_name_cell, T.f__law_cell_name, T.n__law_cell_name, T.g__law_cell_name, T.f__law_cells, T.n__law_cells, T.g__law_cells, T.f__law_is_cell, T.n__law_is_cell, T.g__law_is_cell, T.f__law_is_name, T.n__law_is_name, T.g__law_is_name, T.f__law_is_head, T.n__law_is_head, T.g__law_is_head, T.f__law_of_cells, T.n__law_of_cells, T.g__law_of_cells, T.f__law_head, T.n__law_head, T.g__law_head, T.f__law_near, T.n__law_near, T.g__law_near, T.f__law_other_cells, T.n__law_other_cells, T.g__law_other_cells, T.f__law_next, T.n__law_next, T.g__law_next, T.f__law_right, T.l__law_right, T.n__law_right, T.g__law_right, T.f_law, T.l_law, T.n_law, T.g_law, T.gx_InvalidNumber, T.kx_InvalidNumber, T.bx_InvalidNumber, T.tx_InvalidNumber, T.gx_InvalidName, T.kx_InvalidName, T.qx_InvalidName, T.bx_InvalidName, T.tx_InvalidName, T.gx_InvalidBlock, T.kx_InvalidBlock, T.qx_InvalidBlock, T.bx_InvalidBlock, T.tx_InvalidBlock, T.gx_InvalidOperation, T.kx_InvalidOperation, T.qx_InvalidOperation, T.bx_InvalidOperation, T.tx_InvalidOperation, T.lo_InvalidNumber, T.fl_InvalidNumber, T.xf_InvalidNumber, T.xn_InvalidNumber, T.xm⟩
section
variable {P : Program} {w : World} {g : Gx} {mg : Str → Option Value} {base : Heap} {a : Nat → Addr} {fd : Nat → FuncData}
theorem sc_is_number : FnScope ["value", "low", "high"] ["value", "low", "high"] (defScope (top 7)) := ⟨rfl, rfl, rfl, by decide +kernel, rfl, by decide +kernel, by decide +kernel⟩
def m_is_number : MS := (sRet (mAndV (mIsi "int" (mVar 0)) (mAndV (mNotV (mIsi "bool" (mVar 0))) (mChain (ordF .le) (ordF .le) (mVar 1) (mVar 0) (mVar 2)))))
def F_is_number : FnT := fnM 3 3 m_is_number
theorem ok_is_number (T : Txt g mg base a fd) : FnG P w g.K mg base 1 (a 0) (fd 0) ["value", "low", "high"] (spF g F_is_number) := fn_ok T.f_is_number sc_is_number fun cdv A outer s H E hr hc =>
  (rss_one (rs_ret (re_and rfl (re_isi rfl rfl T.b_isinstance rfl (re_var (i := 0)) rfl T.b_int rfl) (re_and rfl (re_not rfl (re_isi rfl rfl T.b_isinstance rfl (re_var (i := 0)) rfl T.b_bool rfl)) (re_one (re_chain (ro_ord .le rfl (un100 hr)) (ro_ord .le rfl (un100 hr)) (re_var (i := 1)) (re_var (i := 0)) (re_var (i := 2))))))))
theorem sc_check_number : FnScope ["value", "low", "high"] ["value", "low", "high"] (defScope (top 8)) := ⟨rfl, rfl, rfl, by decide +kernel, rfl, by decide +kernel, by decide +kernel⟩
def m_check_number : MS := (sIf (mNot (mTru (mCall F_is_number (mCons (mVar 0) (mCons (mVar 1) (mCons (mVar 2) mNil)))))) (sRaise1 50 (mCons (mVar 0) mNil)) sNil)
def F_check_number : FnT := fnM 3 3 m_check_number
theorem ok_check_number (T : Txt g mg base a fd) : FnG P w g.K mg base 2 (a 1) (fd 1) ["value", "low", "high"] (spF g F_check_number) := fn_ok T.f_check_number sc_check_number fun cdv A outer s H E hr hc =>
  (rss_one (rs_if (rt_not (rt_tru rfl (re_call (takes_of rfl rfl rfl rfl) (ok_is_number T) (hr.mono (by decide)) rfl T.g_is_number T.f_is_number.kp T.n_is_number (ra_cons (re_var (i := 0)) (ra_cons (re_var (i := 1)) (ra_cons (re_var (i := 2)) ra_nil)))))) (rss_one (rs_raise1f (c := 50) T.fl_InvalidNumber (ps_raise_InvalidNumber rfl T.lo_InvalidNumber.choose_spec hr.rm (takes_of rfl rfl rfl rfl) (ra_cons (re_var (i := 0)) ra_nil)))) rss_nil))
theorem sc_is_name : FnScope ["value", "letter"] ["value"] (defScope (top 14)) := ⟨rfl, rfl, rfl, by decide +kernel, rfl, by decide +kernel, by decide +kernel⟩
def m_is_name : MS := (sSeq (sIf (mOr (mNot (mTru (mIsi "str" (mVar 0)))) (mNot (mB (mChain (ordF .le) (ordF .le) (mCon (.int 1)) (mCB (un lenW) (mCons (mVar 0) mNil)) (mCon (.int 8)))))) (sRet (mCon (.bool false))) sNil) (sRet (mCB (un allF) (mCons (mComp false (mItS (mVar 0)) [1] (tName 1) mYes (mBin (inAF false) (mVar 1) (mCon (.str "abcdefghijklmnopqrstuvwxyz")))) mNil))))
def F_is_name : FnT := fnM 2 1 m_is_name
theorem ok_is_name (T : Txt g mg base a fd) : FnG P w g.K mg base 1 (a 2) (fd 2) ["value"] (spF g F_is_name) := fn_ok T.f_is_name sc_is_name fun cdv A outer s H E hr hc =>
  (rss_cons (rs_if (PW.pt (rw_or (rt_not (rt_tru rfl (re_isi rfl rfl T.b_isinstance rfl (re_var (i := 0)) rfl T.b_str rfl))) (rw_or1 (rt_not (rt_chain (ro_ord .le rfl (un100 hr)) (ro_ord .le rfl (un100 hr)) re_int (re_callB (rc_len rfl) rfl T.b_len rfl (ra_cons (re_var (i := 0)) ra_nil)) (re_globE rfl T.c_MAX_NAME fun _ => .int _)))))) (rss_one (rs_ret re_bl)) rss_nil)
    (rss_one (rs_ret (re_callB (rc_all rfl rfl) rfl T.b_all rfl (ra_cons (re_lc (k := false) rfl sc_is_name.nd (own := [("letter", 1)]) (blkOk_by (by rfl)) (ri_all rfl (re_var (i := 0))) (fun s H C cl fp => (rc_name (i := 1) sc_is_name.nd)) (fun s H C cl fp => rts_nil) (fun s H C cl fp => (re_cmp (ro_inA rfl (un100 hr)) (re_var (i := 1)) (re_globE rfl T.c_LETTERS fun _ => .str _)))) ra_nil)))))
theorem sc_is_cell : FnScope ["value"] ["value"] (defScope (top 15)) := ⟨rfl, rfl, rfl, by decide +kernel, rfl, by decide +kernel, by decide +kernel⟩
def m_is_cell : MS := (sRet (mAndV (mIsi "int" (mVar 0)) (mAndV (mNotV (mIsi "bool" (mVar 0))) (mChain (ordF .le) (ordF .le) (mCon (.int 0)) (mVar 0) (mCon (.int 999999999999999999))))))
def F_is_cell : FnT := fnM 1 1 m_is_cell
theorem ok_is_cell (T : Txt g mg base a fd) : FnG P w g.K mg base 1 (a 3) (fd 3) ["value"] (spF g F_is_cell) := fn_ok T.f_is_cell sc_is_cell fun cdv A outer s H E hr hc =>
  (rss_one (rs_ret (re_and rfl (re_isi rfl rfl T.b_isinstance rfl (re_var (i := 0)) rfl T.b_int rfl) (re_and rfl (re_not rfl (re_isi rfl rfl T.b_isinstance rfl (re_var (i := 0)) rfl T.b_bool rfl)) (re_one (re_chain (ro_ord .le rfl (un100 hr)) (ro_ord .le rfl (un100 hr)) re_int (re_var (i := 0)) (re_globE rfl T.c_MAX_CELL fun _ => .int _)))))))
theorem sc_are_cells : FnScope ["value", "most", "cell"] ["value", "most"] (defScope (top 16)) := ⟨rfl, rfl, rfl, by decide +kernel, rfl, by decide +kernel, by decide +kernel⟩
def m_are_cells : MS := (sSeq (sIf (mOr (mNot (mTru (mIsi "tuple" (mVar 0)))) (mB (mBin (ordF .gt) (mCB (un lenW) (mCons (mVar 0) mNil)) (mVar 1)))) (sRet (mCon (.bool false))) sNil) (sRet (mCB (un allF) (mCons (mComp false (mItS (mVar 0)) [2] (tName 2) mYes (mCall F_is_cell (mCons (mVar 2) mNil))) mNil))))
def F_are_cells : FnT := fnM 3 2 m_are_cells
theorem ok_are_cells (T : Txt g mg base a fd) : FnG P w g.K mg base 2 (a 4) (fd 4) ["value", "most"] (spF g F_are_cells) := fn_ok T.f_are_cells sc_are_cells fun cdv A outer s H E hr hc =>
  (rss_cons (rs_if (PW.pt (rw_or (rt_not (rt_tru rfl (re_isi rfl rfl T.b_isinstance rfl (re_var (i := 0)) rfl T.b_tuple rfl))) (rw_or1 (rt_cmp (ro_ord .gt rfl (un100 hr)) (re_callB (rc_len rfl) rfl T.b_len rfl (ra_cons (re_var (i := 0)) ra_nil)) (re_var (i := 1)))))) (rss_one (rs_ret re_bl)) rss_nil)
    (rss_one (rs_ret (re_callB (rc_all rfl rfl) rfl T.b_all rfl (ra_cons (re_lc (k := false) rfl sc_are_cells.nd (own := [("cell", 2)]) (blkOk_by (by rfl)) (ri_all rfl (re_var (i := 0))) (fun s H C cl fp => (rc_name (i := 2) sc_are_cells.nd)) (fun s H C cl fp => rts_nil) (fun s H C cl fp => (re_call takes0 (ok_is_cell T) (hr.mono (by decide)) rfl T.g_is_cell T.f_is_cell.kp T.n_is_cell (ra_cons (re_var (i := 2)) ra_nil)))) ra_nil)))))
theorem sc_name_cell : FnScope ["name", "cell", "at", "figure"] ["name"] (defScope (top 17)) := ⟨rfl, rfl, rfl, by decide +kernel, rfl, by decide +kernel, by decide +kernel⟩
def m_name_cell : MS := (sSeq (sIf (mNot (mTru (mCall F_is_name (mCons (mVar 0) mNil)))) (sRaise 51) sNil) (sSeq (sAsg (mCon (.int 0)) (tName 1)) (sSeq (sFor (mRng1 (mCons (mCon (.int 8)) mNil)) (tName 2) (sSeq (sAsg (mIf (mB (mBin (ordF .lt) (mVar 2) (mCB (un lenW) (mCons (mVar 0) mNil)))) (mBin (addF false) (mMt .str sindF (mCon (.str "abcdefghijklmnopqrstuvwxyz")) (mCons (mBin ixF (mVar 0) (mVar 2)) mNil)) (mCon (.int 1))) (mCon (.int 0))) (tName 3)) (sAsg (mBin (addF false) (mBin (mulF false) (mVar 1) (mCon (.int 27))) (mVar 3)) (tName 1)))) (sRet (mVar 1)))))
def F_name_cell : FnT := fnM 4 1 m_name_cell
theorem ok_name_cell (T : Txt g mg base a fd) : FnG P w g.K mg base 2 (a 5) (fd 5) ["name"] (spF g F_name_cell) := fn_ok T.f_name_cell sc_name_cell fun cdv A outer s H E hr hc =>
  (rss_cons (rs_if (rt_not (rt_tru rfl (re_call (takes_of rfl rfl rfl rfl) (ok_is_name T) (hr.mono (by decide)) rfl T.g_is_name T.f_is_name.kp T.n_is_name (ra_cons (re_var (i := 0)) ra_nil)))) (rss_one (rs_raiseT (c := 51) rfl (takes_of rfl rfl rfl rfl) PySem.F.excBase_ValueError T.qx_InvalidName T.gx_InvalidName T.kx_InvalidName (raises_own T.bx_InvalidName T.tx_InvalidName) rfl)) rss_nil)
    (rss_cons (rs_set sc_name_cell.nd re_int)
    (rss_cons (rs_for (passes_of rfl) rfl (ri_range1 rfl T.b_range (ra_cons (re_globE rfl T.c_MAX_NAME fun _ => .int _) ra_nil)) (rg_name (i := 2) sc_name_cell.nd) (rss_cons (rs_set sc_name_cell.nd (re_ife (rt_cmp (ro_ord .lt rfl (un100 hr)) (re_var (i := 2)) (re_callB (rc_len rfl) rfl T.b_len rfl (ra_cons (re_var (i := 0)) ra_nil))) (re_bin (ro_add rfl) (re_mt rfl (T := .str) PySem.F.plainAttrs_str PySem.F.slot_str_index PySem.F.type_str_index (mt_sind) (re_globE rfl T.c_LETTERS fun _ => .str _) (ra_cons (re_ix rfl (un100 hr) (re_var (i := 0)) (re_var (i := 2))) ra_nil)) re_int) re_int))
    (rss_one (rs_set sc_name_cell.nd (re_bin (ro_add rfl) (re_bin (ro_mul (k := false) rfl) (re_var (i := 1)) (re_globE rfl T.c_BASE fun _ => .int _)) (re_var (i := 3)))))))
    (rss_one (rs_ret (re_var (i := 1)))))))
theorem sc__letters_of : FnScope ["cell", "name", "left", "_", "figure"] ["cell"] (defScope (top 19)) := ⟨rfl, rfl, rfl, by decide +kernel, rfl, by decide +kernel, by decide +kernel⟩
def m__letters_of : MS := (sSeq (sAsg (mCon (.str "")) (tName 1)) (sSeq (sAsg (mVar 0) (tName 2)) (sSeq (sFor (mRng1 (mCons (mCon (.int 8)) mNil)) (tName 3) (sSeq (sAsg (mBin modF (mVar 2) (mCon (.int 27))) (tName 4)) (sSeq (sAsg (mBin fdivF (mVar 2) (mCon (.int 27))) (tName 2)) (sIf (mB (mBin (ordF .gt) (mVar 4) (mCon (.int 0)))) (sAsg (mBin (addF false) (mBin ixF (mCon (.str "abcdefghijklmnopqrstuvwxyz")) (mBin subF (mVar 4) (mCon (.int 1)))) (mVar 1)) (tName 1)) sNil)))) (sRet (mVar 1)))))
def F__letters_of : FnT := fnM 5 1 m__letters_of
theorem ok__letters_of (T : Txt g mg base a fd) : FnG P w g.K mg base 1 (a 7) (fd 7) ["cell"] (spF g F__letters_of) := fn_ok T.f__letters_of sc__letters_of fun cdv A outer s H E hr hc =>
  (rss_cons (rs_set sc__letters_of.nd re_str)
    (rss_cons (rs_set sc__letters_of.nd (re_var (i := 0)))
    (rss_cons (rs_for (passes_of rfl) rfl (ri_range1 rfl T.b_range (ra_cons (re_globE rfl T.c_MAX_NAME fun _ => .int _) ra_nil)) (rg_name (i := 3) sc__letters_of.nd) (rss_cons (rs_set sc__letters_of.nd (re_bin ro_mod (re_var (i := 2)) (re_globE rfl T.c_BASE fun _ => .int _)))
    (rss_cons (rs_set sc__letters_of.nd (re_bin ro_fdiv (re_var (i := 2)) (re_globE rfl T.c_BASE fun _ => .int _)))
    (rss_one (rs_if (rt_cmp (ro_ord .gt rfl (un100 hr)) (re_var (i := 4)) re_int) (rss_one (rs_set sc__letters_of.nd (re_bin (ro_add rfl) (re_ix rfl (un100 hr) (re_globE rfl T.c_LETTERS fun _ => .str _) (re_bin ro_sub (re_var (i := 4)) re_int)) (re_var (i := 1))))) rss_nil)))))
    (rss_one (rs_ret (re_var (i := 1)))))))
theorem sc_name_of_cell : FnScope ["cell", "name"] ["cell"] (defScope (top 18)) := ⟨rfl, rfl, rfl, by decide +kernel, rfl, by decide +kernel, by decide +kernel⟩
def m_name_of_cell : MS := (sSeq (sAsg (mCall F__letters_of (mCons (mVar 0) mNil)) (tName 1)) (sRet (mIf (mAnd (mTru (mCall F_is_name (mCons (mVar 1) mNil))) (mB (mBin (eqF false) (mCall F_name_cell (mCons (mVar 1) mNil)) (mVar 0)))) (mVar 1) (mCon .none))))
def F_name_of_cell : FnT := fnM 2 1 m_name_of_cell
theorem ok_name_of_cell (T : Txt g mg base a fd) : FnG P w g.K mg base 3 (a 6) (fd 6) ["cell"] (spF g F_name_of_cell) := fn_ok T.f_name_of_cell sc_name_of_cell fun cdv A outer s H E hr hc =>
  (rss_cons (rs_set sc_name_of_cell.nd (re_call (takes_of rfl rfl rfl rfl) (ok__letters_of T) (hr.mono (by decide)) rfl T.g__letters_of T.f__letters_of.kp T.n__letters_of (ra_cons (re_var (i := 0)) ra_nil)))
    (rss_one (rs_ret (re_ife (PW.pt (rw_and (rt_tru rfl (re_call (takes_of rfl rfl rfl rfl) (ok_is_name T) (hr.mono (by decide)) rfl T.g_is_name T.f_is_name.kp T.n_is_name (ra_cons (re_var (i := 1)) ra_nil))) (rw_and1 (rt_cmp (ro_eq rfl (un100 hr)) (re_call (takes_of rfl rfl rfl rfl) (ok_name_cell T) (hr.mono (by decide)) rfl T.g_name_cell T.f_name_cell.kp T.n_name_cell (ra_cons (re_var (i := 1)) ra_nil)) (re_var (i := 0)))))) (re_var (i := 1)) re_non))))
theorem sc_check_cells : FnScope ["cells"] ["cells"] (defScope (top 24)) := ⟨rfl, rfl, rfl, by decide +kernel, rfl, by decide +kernel, by decide +kernel⟩
def m_check_cells : MS := (sIf (mNot (mTru (mCall F_are_cells (mCons (mVar 0) (mCons (mCon (.int 52)) mNil))))) (sRaise 52) sNil)
def F_check_cells : FnT := fnM 1 1 m_check_cells
theorem ok_check_cells (T : Txt g mg base a fd) : FnG P w g.K mg base 3 (a 8) (fd 8) ["cells"] (spF g F_check_cells) := fn_ok T.f_check_cells sc_check_cells fun cdv A outer s H E hr hc =>
  (rss_one (rs_if (rt_not (rt_tru rfl (re_call (takes_of rfl rfl rfl rfl) (ok_are_cells T) (hr.mono (by decide)) rfl T.g_are_cells T.f_are_cells.kp T.n_are_cells (ra_cons (re_var (i := 0)) (ra_cons (re_globE rfl T.c_MOST_CELLS fun _ => .int _) ra_nil))))) (rss_one (rs_raiseT (c := 52) rfl (takes_of rfl rfl rfl rfl) PySem.F.excBase_ValueError T.qx_InvalidBlock T.gx_InvalidBlock T.kx_InvalidBlock (raises_own T.bx_InvalidBlock T.tx_InvalidBlock) rfl)) rss_nil))
theorem sc__check_size : FnScope ["size"] ["size"] (defScope (top 32)) := ⟨rfl, rfl, rfl, by decide +kernel, rfl, by decide +kernel, by decide +kernel⟩
def m__check_size : MS := (sDrop (mCall F_check_number (mCons (mVar 0) (mCons (mCon (.int 24)) (mCons (mCon (.int 240)) mNil)))))
def F__check_size : FnT := fnM 1 1 m__check_size
theorem ok__check_size (T : Txt g mg base a fd) : FnG P w g.K mg base 3 (a 9) (fd 9) ["size"] (spF g F__check_size) := fn_ok T.f__check_size sc__check_size fun cdv A outer s H E hr hc =>
  (rss_one (rs_expr (re_call (takes_of rfl rfl rfl rfl) (ok_check_number T) (hr.mono (by decide)) rfl T.g_check_number T.f_check_number.kp T.n_check_number (ra_cons (re_var (i := 0)) (ra_cons (re_globE rfl T.c_LEAST_BLOCKS fun _ => .int _) (ra_cons (re_globE rfl T.c_MOST_BLOCKS fun _ => .int _) ra_nil))))))
theorem sc__is_root : FnScope ["size", "log", "value"] ["size", "log", "value"] (defScope (top 33)) := ⟨rfl, rfl, rfl, by decide +kernel, rfl, by decide +kernel, by decide +kernel⟩
def m__is_root : MS := (sRet (mOrV (mCall F_is_number (mCons (mVar 2) (mCons (mCon (.int 0)) (mCons (mCon (.int 0)) mNil)))) (mCall F_is_number (mCons (mVar 2) (mCons (mBin (addF false) (mCon (.int 2)) (mVar 1)) (mCons (mBin subF (mVar 0) (mCon (.int 1))) mNil))))))
def F__is_root : FnT := fnM 3 3 m__is_root
theorem ok__is_root (T : Txt g mg base a fd) : FnG P w g.K mg base 2 (a 10) (fd 10) ["size", "log", "value"] (spF g F__is_root) := fn_ok T.f__is_root sc__is_root fun cdv A outer s H E hr hc =>
  (rss_one (rs_ret (re_or rfl (re_call (takes_of rfl rfl rfl rfl) (ok_is_number T) (hr.mono (by decide)) rfl T.g_is_number T.f_is_number.kp T.n_is_number (ra_cons (re_var (i := 2)) (ra_cons re_int (ra_cons re_int ra_nil)))) (re_one (re_call (takes_of rfl rfl rfl rfl) (ok_is_number T) (hr.mono (by decide)) rfl T.g_is_number T.f_is_number.kp T.n_is_number (ra_cons (re_var (i := 2)) (ra_cons (re_bin (ro_add rfl) (re_globE rfl T.c_HEADS fun _ => .int _) (re_var (i := 1))) (ra_cons (re_bin ro_sub (re_var (i := 0)) re_int) ra_nil))))))))
theorem sc__are_shots : FnScope ["size", "log", "value", "shot", "at"] ["size", "log", "value"] (defScope (top 34)) := ⟨rfl, rfl, rfl, by decide +kernel, rfl, by decide +kernel, by decide +kernel⟩
def m__are_shots : MS := (sSeq (sIf (mOr (mNot (mTru (mIsi "tuple" (mVar 2)))) (mB (mBin (ordF .gt) (mCB (un lenW) (mCons (mVar 2) mNil)) (mCon (.int 6))))) (sRet (mCon (.bool false))) sNil) (sSeq (sFor (mItS (mVar 2)) (tName 3) (sSeq (sIf (mOr (mNot (mTru (mIsi "tuple" (mVar 3)))) (mB (mBin (eqF true) (mCB (un lenW) (mCons (mVar 3) mNil)) (mCon (.int 2))))) (sRet (mCon (.bool false))) sNil) (sIf (mOr (mNot (mTru (mCall F_is_name (mCons (mBin ixF (mVar 3) (mCon (.int 0))) mNil)))) (mNot (mTru (mCall F__is_root (mCons (mVar 0) (mCons (mVar 1) (mCons (mBin ixF (mVar 3) (mCon (.int 1))) mNil))))))) (sRet (mCon (.bool false))) sNil))) (sRet (mCB (un allF) (mCons (mComp false (mRng2 (mCons (mCon (.int 1)) (mCons (mCB (un lenW) (mCons (mVar 2) mNil)) mNil))) [4] (tName 4) mYes (mBin (ordF .lt) (mBin ixF (mBin ixF (mVar 2) (mBin subF (mVar 4) (mCon (.int 1)))) (mCon (.int 0))) (mBin ixF (mBin ixF (mVar 2) (mVar 4)) (mCon (.int 0))))) mNil)))))
def F__are_shots : FnT := fnM 5 3 m__are_shots
theorem ok__are_shots (T : Txt g mg base a fd) : FnG P w g.K mg base 3 (a 11) (fd 11) ["size", "log", "value"] (spF g F__are_shots) := fn_ok T.f__are_shots sc__are_shots fun cdv A outer s H E hr hc =>
  (rss_cons (rs_if (PW.pt (rw_or (rt_not (rt_tru rfl (re_isi rfl rfl T.b_isinstance rfl (re_var (i := 2)) rfl T.b_tuple rfl))) (rw_or1 (rt_cmp (ro_ord .gt rfl (un100 hr)) (re_callB (rc_len rfl) rfl T.b_len rfl (ra_cons (re_var (i := 2)) ra_nil)) (re_globE rfl T.c_MAX_SHOTS fun _ => .int _))))) (rss_one (rs_ret re_bl)) rss_nil)
    (rss_cons (rs_for (passes_of rfl) rfl (ri_all rfl (re_var (i := 2))) (rg_name (i := 3) sc__are_shots.nd) (rss_cons (rs_if (PW.pt (rw_or (rt_not (rt_tru rfl (re_isi rfl rfl T.b_isinstance rfl (re_var (i := 3)) rfl T.b_tuple rfl))) (rw_or1 (rt_cmp (ro_ne rfl (un100 hr)) (re_callB (rc_len rfl) rfl T.b_len rfl (ra_cons (re_var (i := 3)) ra_nil)) re_int)))) (rss_one (rs_ret re_bl)) rss_nil)
    (rss_one (rs_if (PW.pt (rw_or (rt_not (rt_tru rfl (re_call (takes_of rfl rfl rfl rfl) (ok_is_name T) (hr.mono (by decide)) rfl T.g_is_name T.f_is_name.kp T.n_is_name (ra_cons (re_ix rfl (un100 hr) (re_var (i := 3)) re_int) ra_nil)))) (rw_or1 (rt_not (rt_tru rfl (re_call (takes_of rfl rfl rfl rfl) (ok__is_root T) (hr.mono (by decide)) rfl T.g__is_root T.f__is_root.kp T.n__is_root (ra_cons (re_var (i := 0)) (ra_cons (re_var (i := 1)) (ra_cons (re_ix rfl (un100 hr) (re_var (i := 3)) re_int) ra_nil))))))))) (rss_one (rs_ret re_bl)) rss_nil))))
    (rss_one (rs_ret (re_callB (rc_all rfl rfl) rfl T.b_all rfl (ra_cons (re_lc (k := false) rfl sc__are_shots.nd (own := [("at", 4)]) (blkOk_by (by rfl)) (ri_range2 rfl T.b_range (ra_cons re_int (ra_cons (re_callB (rc_len rfl) rfl T.b_len rfl (ra_cons (re_var (i := 2)) ra_nil)) ra_nil))) (fun s H C cl fp => (rc_name (i := 4) sc__are_shots.nd)) (fun s H C cl fp => rts_nil) (fun s H C cl fp => (re_cmp (ro_ord .lt rfl (un100 hr)) (re_ix rfl (un100 hr) (re_ix rfl (un100 hr) (re_var (i := 2)) (re_bin ro_sub (re_var (i := 4)) re_int)) re_int) (re_ix rfl (un100 hr) (re_ix rfl (un100 hr) (re_var (i := 2)) (re_var (i := 4))) re_int)))) ra_nil))))))
theorem sc__fits : FnScope ["size", "value", "turn", "log", "number", "root", "shots"] ["size", "value"] (defScope (top 35)) := ⟨rfl, rfl, rfl, by decide +kernel, rfl, by decide +kernel, by decide +kernel⟩
def m__fits : MS := (sSeq (sIf (mOr (mNot (mTru (mIsi "tuple" (mVar 1)))) (mB (mBin (eqF true) (mCB (un lenW) (mCons (mVar 1) mNil)) (mCon (.int 5))))) (sRet (mCon (.bool false))) sNil) (sSeq (sAsg (mVar 1) (tTup 5 (tCons (tName 2) (tCons (tName 3) (tCons (tName 4) (tCons (tName 5) (tCons (tName 6) tNil))))))) (sSeq (sIf (mOr (mNot (mTru (mCall F_is_number (mCons (mVar 2) (mCons (mCon (.int 1)) (mCons (mCon (.int 999999999999999999)) mNil)))))) (mNot (mTru (mCall F_is_number (mCons (mVar 4) (mCons (mCon (.int 1)) (mCons (mCon (.int 999999999999999999)) mNil))))))) (sRet (mCon (.bool false))) sNil) (sSeq (sIf (mNot (mTru (mCall F_is_number (mCons (mVar 3) (mCons (mCon (.int 4)) (mCons (mCB (min2F) (mCons (mCon (.int 40)) (mCons (mBin subF (mBin subF (mVar 0) (mCon (.int 2))) (mCon (.int 16))) mNil))) mNil)))))) (sRet (mCon (.bool false))) sNil) (sRet (mAndV (mCall F__is_root (mCons (mVar 0) (mCons (mVar 3) (mCons (mVar 5) mNil)))) (mCall F__are_shots (mCons (mVar 0) (mCons (mVar 3) (mCons (mVar 6) mNil))))))))))
def F__fits : FnT := fnM 7 2 m__fits
theorem ok__fits (T : Txt g mg base a fd) : FnG P w g.K mg base 4 (a 12) (fd 12) ["size", "value"] (spF g F__fits) := fn_ok T.f__fits sc__fits fun cdv A outer s H E hr hc =>
  (rss_cons (rs_if (PW.pt (rw_or (rt_not (rt_tru rfl (re_isi rfl rfl T.b_isinstance rfl (re_var (i := 1)) rfl T.b_tuple rfl))) (rw_or1 (rt_cmp (ro_ne rfl (un100 hr)) (re_callB (rc_len rfl) rfl T.b_len rfl (ra_cons (re_var (i := 1)) ra_nil)) (re_globE rfl T.c_LEAST_HEAD fun _ => .int _))))) (rss_one (rs_ret re_bl)) rss_nil)
    (rss_cons (rs_asg (re_var (i := 1)) (rg_tup rfl rfl (rgs_cons (rg_name (i := 2) sc__fits.nd) (rgs_cons (rg_name (i := 3) sc__fits.nd) (rgs_cons (rg_name (i := 4) sc__fits.nd) (rgs_cons (rg_name (i := 5) sc__fits.nd) (rgs_cons (rg_name (i := 6) sc__fits.nd) rgs_nil calm_nil) (calm_cons calm_name calm_nil)) (calm_cons calm_name (calm_cons calm_name calm_nil))) (calm_cons calm_name (calm_cons calm_name (calm_cons calm_name calm_nil)))) (calm_cons calm_name (calm_cons calm_name (calm_cons calm_name (calm_cons calm_name calm_nil)))))))
    (rss_cons (rs_if (PW.pt (rw_or (rt_not (rt_tru rfl (re_call (takes_of rfl rfl rfl rfl) (ok_is_number T) (hr.mono (by decide)) rfl T.g_is_number T.f_is_number.kp T.n_is_number (ra_cons (re_var (i := 2)) (ra_cons re_int (ra_cons (re_globE rfl T.c_MAX_CELL fun _ => .int _) ra_nil)))))) (rw_or1 (rt_not (rt_tru rfl (re_call (takes_of rfl rfl rfl rfl) (ok_is_number T) (hr.mono (by decide)) rfl T.g_is_number T.f_is_number.kp T.n_is_number (ra_cons (re_var (i := 4)) (ra_cons re_int (ra_cons (re_globE rfl T.c_MAX_CELL fun _ => .int _) ra_nil))))))))) (rss_one (rs_ret re_bl)) rss_nil)
    (rss_cons (rs_if (rt_not (rt_tru rfl (re_call (takes_of rfl rfl rfl rfl) (ok_is_number T) (hr.mono (by decide)) rfl T.g_is_number T.f_is_number.kp T.n_is_number (ra_cons (re_var (i := 3)) (ra_cons (re_globE rfl T.c_LEAST_LOG fun _ => .int _) (ra_cons (re_callB (rc_min2 rfl) rfl T.b_min rfl (ra_cons (re_globE rfl T.c_MAX_LOG fun _ => .int _) (ra_cons (re_bin ro_sub (re_bin ro_sub (re_var (i := 0)) (re_globE rfl T.c_HEADS fun _ => .int _)) (re_globE rfl T.c_LEAST_SHELF fun _ => .int _)) ra_nil))) ra_nil)))))) (rss_one (rs_ret re_bl)) rss_nil)
    (rss_one (rs_ret (re_and rfl (re_call (takes_of rfl rfl rfl rfl) (ok__is_root T) (hr.mono (by decide)) rfl T.g__is_root T.f__is_root.kp T.n__is_root (ra_cons (re_var (i := 0)) (ra_cons (re_var (i := 3)) (ra_cons (re_var (i := 5)) ra_nil)))) (re_one (re_call (takes_of rfl rfl rfl rfl) (ok__are_shots T) (hr.mono (by decide)) rfl T.g__are_shots T.f__are_shots.kp T.n__are_shots (ra_cons (re_var (i := 0)) (ra_cons (re_var (i := 3)) (ra_cons (re_var (i := 6)) ra_nil))))))))))))
theorem sc__check_head : FnScope ["size", "head"] ["size", "head"] (defScope (top 36)) := ⟨rfl, rfl, rfl, by decide +kernel, rfl, by decide +kernel, by decide +kernel⟩
def m__check_head : MS := (sIf (mNot (mTru (mCall F__fits (mCons (mVar 0) (mCons (mVar 1) mNil))))) (sRaise 53) sNil)
def F__check_head : FnT := fnM 2 2 m__check_head
theorem ok__check_head (T : Txt g mg base a fd) : FnG P w g.K mg base 5 (a 13) (fd 13) ["size", "head"] (spF g F__check_head) := fn_ok T.f__check_head sc__check_head fun cdv A outer s H E hr hc =>
  (rss_one (rs_if (rt_not (rt_tru rfl (re_call (takes_of rfl rfl rfl rfl) (ok__fits T) (hr.mono (by decide)) rfl T.g__fits T.f__fits.kp T.n__fits (ra_cons (re_var (i := 0)) (ra_cons (re_var (i := 1)) ra_nil))))) (rss_one (rs_raiseT (c := 53) rfl (takes_of rfl rfl rfl rfl) PySem.F.excBase_ValueError T.qx_InvalidOperation T.gx_InvalidOperation T.kx_InvalidOperation (raises_own T.bx_InvalidOperation T.tx_InvalidOperation) rfl)) rss_nil))
theorem sc_is_head : FnScope ["size", "value"] ["size", "value"] (defScope (top 37)) := ⟨rfl, rfl, rfl, by decide +kernel, rfl, by decide +kernel, by decide +kernel⟩
def m_is_head : MS := (sSeq (sDrop (mCall F__check_size (mCons (mVar 0) mNil))) (sRet (mCall F__fits (mCons (mVar 0) (mCons (mVar 1) mNil)))))
def F_is_head : FnT := fnM 2 2 m_is_head
theorem ok_is_head (T : Txt g mg base a fd) : FnG P w g.K mg base 5 (a 14) (fd 14) ["size", "value"] (spF g F_is_head) := fn_ok T.f_is_head sc_is_head fun cdv A outer s H E hr hc =>
  (rss_cons (rs_expr (re_call (takes_of rfl rfl rfl rfl) (ok__check_size T) (hr.mono (by decide)) rfl T.g__check_size T.f__check_size.kp T.n__check_size (ra_cons (re_var (i := 0)) ra_nil)))
    (rss_one (rs_ret (re_call (takes_of rfl rfl rfl rfl) (ok__fits T) (hr.mono (by decide)) rfl T.g__fits T.f__fits.kp T.n__fits (ra_cons (re_var (i := 0)) (ra_cons (re_var (i := 1)) ra_nil))))))
theorem sc__cells_of : FnScope ["head", "shots", "cell", "name", "root"] ["head"] (defScope (top 39)) := ⟨rfl, rfl, rfl, by decide +kernel, rfl, by decide +kernel, by decide +kernel⟩
def m__cells_of : MS := (sSeq (sAsg (mComp2 false (mItS (mBin ixF (mVar 0) (mCon (.int 4)))) [3, 4, 2] (tTup 2 (tCons (tName 3) (tCons (tName 4) tNil))) mYes (mItS (mTup (mCons (mCall F_name_cell (mCons (mVar 3) mNil)) (mCons (mVar 4) mNil)))) [2] (tName 2) mYes (mVar 2)) (tName 1)) (sRet (mBin (addF false) (mBin (addF false) (mSl (slF false) (mVar 0) mNoPart (mPart (mCon (.int 4)))) (mTup (mCons (mCB (un lenW) (mCons (mBin ixF (mVar 0) (mCon (.int 4))) mNil)) mNil))) (mCB (tupleF) (mCons (mVar 1) mNil)))))
def F__cells_of : FnT := fnM 5 1 m__cells_of
theorem ok__cells_of (T : Txt g mg base a fd) : FnG P w g.K mg base 3 (a 16) (fd 16) ["head"] (spF g F__cells_of) := fn_ok T.f__cells_of sc__cells_of fun cdv A outer s H E hr hc =>
  (rss_cons (rs_setLc2 (k := false) rfl sc__cells_of.nd rfl rfl rfl (own := [("name", 3), ("root", 4), ("cell", 2)]) (vs1 := [2]) (blkOk_by (by rfl)) (ri_all rfl (re_ix rfl (un100 hr) (re_var (i := 0)) re_int)) (fun s H C cl fp => (rc_tup rfl rfl (rcs_cons (rc_name (i := 3) sc__cells_of.nd) (rcs_cons (rc_name (i := 4) sc__cells_of.nd) rcs_nil calm_nil) (calm_cons calm_name calm_nil)))) (fun s H C cl fp => rts_nil) (fun s H C cl fp => (ri_all rfl (re_tup (ra_cons (re_call takes0 (ok_name_cell T) (hr.mono (by decide)) rfl T.g_name_cell T.f_name_cell.kp T.n_name_cell (ra_cons (re_var (i := 3)) ra_nil)) (ra_cons (re_var (i := 4)) ra_nil))))) (fun s H C cl fp => (rc_name (i := 2) sc__cells_of.nd)) (fun s H C cl fp => rts_nil) (fun s H C cl fp => (re_var (i := 2))))
    (rss_one (rs_ret (re_bin (ro_add rfl) (re_bin (ro_add rfl) (re_sl (slr rfl) (re_var (i := 0)) ro_noPart (ro_part re_int)) (re_tup (ra_cons (re_callB (rc_len rfl) rfl T.b_len rfl (ra_cons (re_ix rfl (un100 hr) (re_var (i := 0)) re_int) ra_nil)) ra_nil))) (re_callTy (rc_tuple rfl) rfl T.b_tuple rfl (ra_cons (re_var (i := 1)) ra_nil))))))
theorem sc_head_cells : FnScope ["size", "head"] ["size", "head"] (defScope (top 38)) := ⟨rfl, rfl, rfl, by decide +kernel, rfl, by decide +kernel, by decide +kernel⟩
def m_head_cells : MS := (sSeq (sDrop (mCall F__check_size (mCons (mVar 0) mNil))) (sSeq (sDrop (mCall F__check_head (mCons (mVar 0) (mCons (mVar 1) mNil)))) (sRet (mCall F__cells_of (mCons (mVar 1) mNil)))))
def F_head_cells : FnT := fnM 2 2 m_head_cells
theorem ok_head_cells (T : Txt g mg base a fd) : FnG P w g.K mg base 6 (a 15) (fd 15) ["size", "head"] (spF g F_head_cells) := fn_ok T.f_head_cells sc_head_cells fun cdv A outer s H E hr hc =>
  (rss_cons (rs_expr (re_call (takes_of rfl rfl rfl rfl) (ok__check_size T) (hr.mono (by decide)) rfl T.g__check_size T.f__check_size.kp T.n__check_size (ra_cons (re_var (i := 0)) ra_nil)))
    (rss_cons (rs_expr (re_call (takes_of rfl rfl rfl rfl) (ok__check_head T) (hr.mono (by decide)) rfl T.g__check_head T.f__check_head.kp T.n__check_head (ra_cons (re_var (i := 0)) (ra_cons (re_var (i := 1)) ra_nil))))
    (rss_one (rs_ret (re_call (takes_of rfl rfl rfl rfl) (ok__cells_of T) (hr.mono (by decide)) rfl T.g__cells_of T.f__cells_of.kp T.n__cells_of (ra_cons (re_var (i := 1)) ra_nil))))))
theorem sc__head_in : FnScope ["size", "cells", "places", "shots", "head", "at"] ["size", "cells"] (defScope (top 40)) := ⟨rfl, rfl, rfl, by decide +kernel, rfl, by decide +kernel, by decide +kernel⟩
def m__head_in : MS := (sSeq (sIf (mOr (mB (mBin (ordF .lt) (mCB (un lenW) (mCons (mVar 1) mNil)) (mCon (.int 5)))) (mB (mBin (eqF true) (mCB (un lenW) (mCons (mVar 1) mNil)) (mBin (addF false) (mCon (.int 5)) (mBin (mulF false) (mCon (.int 2)) (mBin ixF (mVar 1) (mCon (.int 4)))))))) (sRet (mCon .none)) sNil) (sSeq (sAsg (mRngV3 (mCons (mCon (.int 5)) (mCons (mCB (un lenW) (mCons (mVar 1) mNil)) (mCons (mCon (.int 2)) mNil)))) (tName 2)) (sSeq (sAsg (mCB (tupleF) (mCons (mComp false (mItR (mVar 2)) [5] (tName 5) mYes (mTup (mCons (mCall F_name_of_cell (mCons (mBin ixF (mVar 1) (mVar 5)) mNil)) (mCons (mBin ixF (mVar 1) (mBin (addF false) (mVar 5) (mCon (.int 1)))) mNil)))) mNil)) (tName 3)) (sSeq (sAsg (mBin (addF false) (mSl (slF false) (mVar 1) mNoPart (mPart (mCon (.int 4)))) (mTup (mCons (mVar 3) mNil))) (tName 4)) (sRet (mIf (mTru (mCall F__fits (mCons (mVar 0) (mCons (mVar 4) mNil)))) (mVar 4) (mCon .none)))))))
def F__head_in : FnT := fnM 6 2 m__head_in
theorem ok__head_in (T : Txt g mg base a fd) : FnG P w g.K mg base 5 (a 17) (fd 17) ["size", "cells"] (spF g F__head_in) := fn_ok T.f__head_in sc__head_in fun cdv A outer s H E hr hc =>
  (rss_cons (rs_if (PW.pt (rw_or (rt_cmp (ro_ord .lt rfl (un100 hr)) (re_callB (rc_len rfl) rfl T.b_len rfl (ra_cons (re_var (i := 1)) ra_nil)) (re_globE rfl T.c_LEAST_HEAD fun _ => .int _)) (rw_or1 (rt_cmp (ro_ne rfl (un100 hr)) (re_callB (rc_len rfl) rfl T.b_len rfl (ra_cons (re_var (i := 1)) ra_nil)) (re_bin (ro_add rfl) (re_globE rfl T.c_LEAST_HEAD fun _ => .int _) (re_bin (ro_mul (k := false) rfl) re_int (re_ix rfl (un100 hr) (re_var (i := 1)) re_int))))))) (rss_one (rs_ret re_non)) rss_nil)
    (rss_cons (rs_set sc__head_in.nd (re_range3 rfl T.b_range (ra_cons (re_globE rfl T.c_LEAST_HEAD fun _ => .int _) (ra_cons (re_callB (rc_len rfl) rfl T.b_len rfl (ra_cons (re_var (i := 1)) ra_nil)) (ra_cons re_int ra_nil)))))
    (rss_cons (rs_set sc__head_in.nd (re_callTy (rc_tuple rfl) rfl T.b_tuple rfl (ra_cons (re_lc (k := false) rfl sc__head_in.nd (own := [("at", 5)]) (blkOk_by (by rfl)) (ri_rg (re_var (i := 2))) (fun s H C cl fp => (rc_name (i := 5) sc__head_in.nd)) (fun s H C cl fp => rts_nil) (fun s H C cl fp => (re_tup (ra_cons (re_call takes0 (ok_name_of_cell T) (hr.mono (by decide)) rfl T.g_name_of_cell T.f_name_of_cell.kp T.n_name_of_cell (ra_cons (re_ix rfl (un100 hr) (re_var (i := 1)) (re_var (i := 5))) ra_nil)) (ra_cons (re_ix rfl (un100 hr) (re_var (i := 1)) (re_bin (ro_add rfl) (re_var (i := 5)) re_int)) ra_nil))))) ra_nil)))
    (rss_cons (rs_set sc__head_in.nd (re_bin (ro_add rfl) (re_sl (slr rfl) (re_var (i := 1)) ro_noPart (ro_part re_int)) (re_tup (ra_cons (re_var (i := 3)) ra_nil))))
    (rss_one (rs_ret (re_ife (rt_tru rfl (re_call (takes_of rfl rfl rfl rfl) (ok__fits T) (hr.mono (by decide)) rfl T.g__fits T.f__fits.kp T.n__fits (ra_cons (re_var (i := 0)) (ra_cons (re_var (i := 4)) ra_nil)))) (re_var (i := 4)) re_non)))))))
theorem sc_head_of : FnScope ["size", "cells"] ["size", "cells"] (defScope (top 41)) := ⟨rfl, rfl, rfl, by decide +kernel, rfl, by decide +kernel, by decide +kernel⟩
def m_head_of : MS := (sSeq (sDrop (mCall F__check_size (mCons (mVar 0) mNil))) (sSeq (sDrop (mCall F_check_cells (mCons (mVar 1) mNil))) (sRet (mCall F__head_in (mCons (mVar 0) (mCons (mVar 1) mNil))))))
def F_head_of : FnT := fnM 2 2 m_head_of
theorem ok_head_of (T : Txt g mg base a fd) : FnG P w g.K mg base 6 (a 18) (fd 18) ["size", "cells"] (spF g F_head_of) := fn_ok T.f_head_of sc_head_of fun cdv A outer s H E hr hc =>
  (rss_cons (rs_expr (re_call (takes_of rfl rfl rfl rfl) (ok__check_size T) (hr.mono (by decide)) rfl T.g__check_size T.f__check_size.kp T.n__check_size (ra_cons (re_var (i := 0)) ra_nil)))
    (rss_cons (rs_expr (re_call (takes_of rfl rfl rfl rfl) (ok_check_cells T) (hr.mono (by decide)) rfl T.g_check_cells T.f_check_cells.kp T.n_check_cells (ra_cons (re_var (i := 1)) ra_nil)))
    (rss_one (rs_ret (re_call (takes_of rfl rfl rfl rfl) (ok__head_in T) (hr.mono (by decide)) rfl T.g__head_in T.f__head_in.kp T.n__head_in (ra_cons (re_var (i := 0)) (ra_cons (re_var (i := 1)) ra_nil)))))))
theorem sc_next_head : FnScope ["size", "head", "number", "root", "shots", "behind"] ["size", "head", "number", "root", "shots"] (defScope (top 42)) := ⟨rfl, rfl, rfl, by decide +kernel, rfl, by decide +kernel, by decide +kernel⟩
def m_next_head : MS := (sSeq (sDrop (mCall F__check_size (mCons (mVar 0) mNil))) (sSeq (sDrop (mCall F__check_head (mCons (mVar 0) (mCons (mVar 1) mNil)))) (sSeq (sAsg (mTup (mCons (mBin (addF false) (mBin ixF (mVar 1) (mCon (.int 0))) (mCon (.int 1))) (mCons (mBin ixF (mVar 1) (mCon (.int 1))) (mCons (mVar 2) (mCons (mVar 3) (mCons (mVar 4) mNil)))))) (tName 5)) (sSeq (sDrop (mCall F__check_head (mCons (mVar 0) (mCons (mVar 5) mNil)))) (sRet (mVar 5))))))
def F_next_head : FnT := fnM 6 5 m_next_head
theorem ok_next_head (T : Txt g mg base a fd) : FnG P w g.K mg base 6 (a 19) (fd 19) ["size", "head", "number", "root", "shots"] (spF g F_next_head) := fn_ok T.f_next_head sc_next_head fun cdv A outer s H E hr hc =>
  (rss_cons (rs_expr (re_call (takes_of rfl rfl rfl rfl) (ok__check_size T) (hr.mono (by decide)) rfl T.g__check_size T.f__check_size.kp T.n__check_size (ra_cons (re_var (i := 0)) ra_nil)))
    (rss_cons (rs_expr (re_call (takes_of rfl rfl rfl rfl) (ok__check_head T) (hr.mono (by decide)) rfl T.g__check_head T.f__check_head.kp T.n__check_head (ra_cons (re_var (i := 0)) (ra_cons (re_var (i := 1)) ra_nil))))
    (rss_cons (rs_set sc_next_head.nd (re_tup (ra_cons (re_bin (ro_add rfl) (re_ix rfl (un100 hr) (re_var (i := 1)) re_int) re_int) (ra_cons (re_ix rfl (un100 hr) (re_var (i := 1)) re_int) (ra_cons (re_var (i := 2)) (ra_cons (re_var (i := 3)) (ra_cons (re_var (i := 4)) ra_nil)))))))
    (rss_cons (rs_expr (re_call (takes_of rfl rfl rfl rfl) (ok__check_head T) (hr.mono (by decide)) rfl T.g__check_head T.f__check_head.kp T.n__check_head (ra_cons (re_var (i := 0)) (ra_cons (re_var (i := 5)) ra_nil))))
    (rss_one (rs_ret (re_var (i := 5))))))))
theorem sc__law_chest : FnScope ["script", "spot", "cell", "great", "mixed"] ["script", "spot"] (defScope (top 44)) := ⟨rfl, rfl, rfl, by decide +kernel, rfl, by decide +kernel, by decide +kernel⟩
def m__law_chest : MS := (sSeq (sAsg (mIf (mB (mBin (ordF .lt) (mVar 1) (mCB (un lenW) (mCons (mVar 0) mNil)))) (mCB (un intW) (mCons (mBin ixF (mVar 0) (mVar 1)) mNil)) (mBin (addF false) (mBin (mulF false) (mCon (.int 233)) (mVar 1)) (mCon (.int 61)))) (tName 2)) (sSeq (sAsg (mBin modF (mCB (un intW) (mCons (mCB (un absW) (mCons (mVar 2) mNil)) mNil)) (mBin powF (mBin powF (mCon (.int 10)) (mCon (.int 52))) (mCon (.int 7)))) (tName 3)) (sSeq (sAsg (mCB (un intW) (mCons (mBin (addF false) (mBin (addF false) (mBin (addF false) (mBin (mulF false) (mBin modF (mVar 3) (mCon (.int 2305843009213693921))) (mCon (.int 31642))) (mBin (mulF false) (mCon (.int 678)) (mVar 1))) (mBin (mulF false) (mCon (.int 41)) (mCB (un intW) (mCons (mBin (ordF .lt) (mVar 2) (mCon (.int 0))) mNil)))) (mCon (.int 113))) mNil)) (tName 4)) (sRet (mLst true (mCons (mCB (max2F) (mCons (mCon (.int 0)) (mCons (mBin subF (mVar 3) (mBin powF (mCon (.int 10)) (mCon (.int 16)))) mNil))) (mCons (mBin modF (mVar 4) (mCon (.int 2305843009213693951))) (mCons (mCon (.int 0)) mNil))))))))
def F__law_chest : FnT := fnM 5 2 m__law_chest
theorem ok__law_chest (T : Txt g mg base a fd) : FnG P w g.K mg base 1 (a 20) (fd 20) ["script", "spot"] (spF g F__law_chest) := fn_ok T.f__law_chest sc__law_chest fun cdv A outer s H E hr hc =>
  (rss_cons (rs_set sc__law_chest.nd (re_ife (rt_cmp (ro_ord .lt rfl (un100 hr)) (re_var (i := 1)) (re_callB (rc_len rfl) rfl T.b_len rfl (ra_cons (re_var (i := 0)) ra_nil))) (re_callTy (rc_int) rfl T.b_int rfl (ra_cons (re_ix rfl (un100 hr) (re_var (i := 0)) (re_var (i := 1))) ra_nil)) (re_bin (ro_add rfl) (re_bin (ro_mul (k := false) rfl) re_int (re_var (i := 1))) re_int)))
    (rss_cons (rs_set sc__law_chest.nd (re_bin ro_mod (re_callTy (rc_int) rfl T.b_int rfl (ra_cons (re_callB (rc_abs) rfl T.b_abs rfl (ra_cons (re_var (i := 2)) ra_nil)) ra_nil)) (re_bin ro_pow (re_bin ro_pow re_int re_int) re_int)))
    (rss_cons (rs_set sc__law_chest.nd (re_callTy (rc_int) rfl T.b_int rfl (ra_cons (re_bin (ro_add rfl) (re_bin (ro_add rfl) (re_bin (ro_add rfl) (re_bin (ro_mul (k := false) rfl) (re_bin ro_mod (re_var (i := 3)) re_int) re_int) (re_bin (ro_mul (k := false) rfl) re_int (re_var (i := 1)))) (re_bin (ro_mul (k := false) rfl) re_int (re_callTy (rc_int) rfl T.b_int rfl (ra_cons (re_cmp (ro_ord .lt rfl (un100 hr)) (re_var (i := 2)) re_int) ra_nil)))) re_int) ra_nil)))
    (rss_one (rs_ret (re_lst (k := true) (ra_cons (re_callB (rc_max2 rfl) rfl T.b_max rfl (ra_cons re_int (ra_cons (re_bin ro_sub (re_var (i := 3)) (re_bin ro_pow re_int re_int)) ra_nil))) (ra_cons (re_bin ro_mod (re_var (i := 4)) re_int) (ra_cons re_int ra_nil)))))))))
theorem sc__law_draw : FnScope ["chest", "total", "one", "two", "found"] ["chest", "total"] (defScope (top 45)) := ⟨rfl, rfl, rfl, by decide +kernel, rfl, by decide +kernel, by decide +kernel⟩
def m__law_draw : MS := (sSeq (sIf (mB (mBin (ordF .gt) (mBin ixF (mVar 0) (mCon (.int 0))) (mCon (.int 0)))) (sSeq (sAsg (mBin modF (mCB (un intW) (mCons (mBin ixF (mVar 0) (mCon (.int 0))) mNil)) (mVar 1)) (tName 4)) (sSeq (sAsg (mBin fdivF (mBin ixF (mVar 0) (mCon (.int 0))) (mVar 1)) (tSub (mVar 0) (mCon (.int 0)) setF)) (sRet (mVar 4)))) sNil) (sSeq (sAsg (mBin (addF false) (mBin ixF (mVar 0) (mCon (.int 2))) (mCon (.int 1))) (tSub (mVar 0) (mCon (.int 2)) setF)) (sSeq (sAsg (mBin modF (mCB (un intW) (mCons (mBin (addF false) (mBin ixF (mVar 0) (mCon (.int 1))) (mBin (mulF false) (mCon (.int 15486096)) (mBin ixF (mVar 0) (mCon (.int 2))))) mNil)) (mCon (.int 2305843009213693907))) (tName 2)) (sSeq (sAsg (mBin (addF false) (mBin (mulF false) (mBin modF (mCB (un intW) (mCons (mBin (addF false) (mBin (mulF false) (mVar 2) (mVar 2)) (mBin (mulF false) (mCon (.int 64)) (mBin ixF (mVar 0) (mCon (.int 2))))) mNil)) (mCon (.int 2305843009213693951))) (mCon (.int 49979687))) (mVar 2)) (tName 3)) (sRet (mBin modF (mCB (un intW) (mCons (mBin fdivF (mVar 3) (mCon (.int 65536))) mNil)) (mVar 1)))))))
def F__law_draw : FnT := fnM 5 2 m__law_draw
theorem ok__law_draw (T : Txt g mg base a fd) : FnG P w g.K mg base 1 (a 21) (fd 21) ["chest", "total"] (spF g F__law_draw) := fn_ok T.f__law_draw sc__law_draw fun cdv A outer s H E hr hc =>
  (rss_cons (rs_if (rt_cmp (ro_ord .gt rfl (un100 hr)) (re_ix rfl (un100 hr) (re_var (i := 0)) re_int) re_int) (rss_cons (rs_set sc__law_draw.nd (re_bin ro_mod (re_callTy (rc_int) rfl T.b_int rfl (ra_cons (re_ix rfl (un100 hr) (re_var (i := 0)) re_int) ra_nil)) (re_var (i := 1))))
    (rss_cons (rs_asg (re_bin ro_fdiv (re_ix rfl (un100 hr) (re_var (i := 0)) re_int) (re_var (i := 1))) (rg_sub (re_var (i := 0)) re_int (set_ok (un1 hr))))
    (rss_one (rs_ret (re_var (i := 4)))))) rss_nil)
    (rss_cons (rs_asg (re_bin (ro_add rfl) (re_ix rfl (un100 hr) (re_var (i := 0)) re_int) re_int) (rg_sub (re_var (i := 0)) re_int (set_ok (un1 hr))))
    (rss_cons (rs_set sc__law_draw.nd (re_bin ro_mod (re_callTy (rc_int) rfl T.b_int rfl (ra_cons (re_bin (ro_add rfl) (re_ix rfl (un100 hr) (re_var (i := 0)) re_int) (re_bin (ro_mul (k := false) rfl) re_int (re_ix rfl (un100 hr) (re_var (i := 0)) re_int))) ra_nil)) re_int))
    (rss_cons (rs_set sc__law_draw.nd (re_bin (ro_add rfl) (re_bin (ro_mul (k := false) rfl) (re_bin ro_mod (re_callTy (rc_int) rfl T.b_int rfl (ra_cons (re_bin (ro_add rfl) (re_bin (ro_mul (k := false) rfl) (re_var (i := 2)) (re_var (i := 2))) (re_bin (ro_mul (k := false) rfl) re_int (re_ix rfl (un100 hr) (re_var (i := 0)) re_int))) ra_nil)) re_int) re_int) (re_var (i := 2))))
    (rss_one (rs_ret (re_bin ro_mod (re_callTy (rc_int) rfl T.b_int rfl (ra_cons (re_bin ro_fdiv (re_var (i := 3)) re_int) ra_nil)) (re_var (i := 1)))))))))
theorem sc__law_take : FnScope ["chest", "items"] ["chest", "items"] (defScope (top 46)) := ⟨rfl, rfl, rfl, by decide +kernel, rfl, by decide +kernel, by decide +kernel⟩
def m__law_take : MS := (sRet (mBin ixF (mVar 1) (mCall F__law_draw (mCons (mVar 0) (mCons (mCB (un lenW) (mCons (mVar 1) mNil)) mNil)))))
def F__law_take : FnT := fnM 2 2 m__law_take
theorem ok__law_take (T : Txt g mg base a fd) : FnG P w g.K mg base 2 (a 22) (fd 22) ["chest", "items"] (spF g F__law_take) := fn_ok T.f__law_take sc__law_take fun cdv A outer s H E hr hc =>
  (rss_one (rs_ret (re_ix rfl (un100 hr) (re_var (i := 1)) (re_call (takes_of rfl rfl rfl rfl) (ok__law_draw T) (hr.mono (by decide)) rfl T.g__law_draw T.f__law_draw.kp T.n__law_draw (ra_cons (re_var (i := 0)) (ra_cons (re_callB (rc_len rfl) rfl T.b_len rfl (ra_cons (re_var (i := 1)) ra_nil)) ra_nil))))))
theorem sc__law_name_cell : FnScope ["name", "found", "at"] ["name"] (defScope (top 47)) := ⟨rfl, rfl, rfl, by decide +kernel, rfl, by decide +kernel, by decide +kernel⟩
def m__law_name_cell : MS := (sSeq (sAsg (mCon (.int 0)) (tName 1)) (sSeq (sFor (mRng1 (mCons (mCon (.int 8)) mNil)) (tName 2) (sAsg (mBin (addF false) (mBin (mulF false) (mCon (.int 27)) (mVar 1)) (mIf (mB (mBin (ordF .lt) (mVar 2) (mCB (un lenW) (mCons (mVar 0) mNil)))) (mBin (addF false) (mMt .str sindF (mCon (.str "abcdefghijklmnopqrstuvwxyz")) (mCons (mBin ixF (mVar 0) (mVar 2)) mNil)) (mCon (.int 1))) (mCon (.int 0)))) (tName 1))) (sRet (mVar 1))))
def F__law_name_cell : FnT := fnM 3 1 m__law_name_cell
theorem ok__law_name_cell (T : Txt g mg base a fd) : FnG P w g.K mg base 1 (a 23) (fd 23) ["name"] (spF g F__law_name_cell) := fn_ok T.f__law_name_cell sc__law_name_cell fun cdv A outer s H E hr hc =>
  (rss_cons (rs_set sc__law_name_cell.nd re_int)
    (rss_cons (rs_for (passes_of rfl) rfl (ri_range1 rfl T.b_range (ra_cons re_int ra_nil)) (rg_name (i := 2) sc__law_name_cell.nd) (rss_one (rs_set sc__law_name_cell.nd (re_bin (ro_add rfl) (re_bin (ro_mul (k := false) rfl) re_int (re_var (i := 1))) (re_ife (rt_cmp (ro_ord .lt rfl (un100 hr)) (re_var (i := 2)) (re_callB (rc_len rfl) rfl T.b_len rfl (ra_cons (re_var (i := 0)) ra_nil))) (re_bin (ro_add rfl) (re_mt rfl (T := .str) PySem.F.plainAttrs_str PySem.F.slot_str_index PySem.F.type_str_index (mt_sind) re_str (ra_cons (re_ix rfl (un100 hr) (re_var (i := 0)) (re_var (i := 2))) ra_nil)) re_int) re_int)))))
    (rss_one (rs_ret (re_var (i := 1))))))
theorem sc__law_cell_name : FnScope ["cell", "at", "word", "figures", "left", "figure"] ["cell"] (defScope (top 48)) := ⟨rfl, rfl, rfl, by decide +kernel, rfl, by decide +kernel, by decide +kernel⟩
def m__law_cell_name : MS := (sSeq (sPar 3 4 (mCons (mLst true mNil) (mCons (mVar 0) mNil))) (sSeq (sFor (mRng1 (mCons (mCon (.int 8)) mNil)) (tName 1) (sSeq (sDrop (mMt .lst appF (mVar 3) (mCons (mBin modF (mVar 4) (mCon (.int 27))) mNil))) (sAsg (mBin fdivF (mVar 4) (mCon (.int 27))) (tName 4)))) (sSeq (sAsg (mMt .str joinF (mCon (.str "")) (mCons (mComp false (mItS (mBack false (mVar 3))) [5] (tName 5) (mB (mBin (ordF .gt) (mVar 5) (mCon (.int 0)))) (mBin ixF (mCon (.str "abcdefghijklmnopqrstuvwxyz")) (mBin subF (mVar 5) (mCon (.int 1))))) mNil)) (tName 2)) (sRet (mIf (mAnd (mB (mBin (eqF false) (mVar 4) (mCon (.int 0)))) (mAnd (mB (mBin (eqF true) (mVar 2) (mCon (.str "")))) (mB (mBin (eqF false) (mCall F__law_name_cell (mCons (mVar 2) mNil)) (mVar 0))))) (mVar 2) (mCon .none))))))
def F__law_cell_name : FnT := fnM 6 1 m__law_cell_name
theorem ok__law_cell_name (T : Txt g mg base a fd) : FnG P w g.K mg base 2 (a 24) (fd 24) ["cell"] (spF g F__law_cell_name) := fn_ok T.f__law_cell_name sc__law_cell_name fun cdv A outer s H E hr hc =>
  (rss_cons (rs_par rfl sc__law_cell_name.nd (i := 3) (j := 4) rfl rfl (by decide) rfl rfl (ra_cons (re_lst (k := true) ra_nil) (ra_cons (re_var (i := 0)) ra_nil)) rfl)
    (rss_cons (rs_for (passes_of rfl) rfl (ri_range1 rfl T.b_range (ra_cons re_int ra_nil)) (rg_name (i := 1) sc__law_cell_name.nd) (rss_cons (rs_expr (re_mt rfl (T := .lst) PySem.F.plainAttrs_list PySem.F.slot_list_append PySem.F.type_list_append (mt_app) (re_var (i := 3)) (ra_cons (re_bin ro_mod (re_var (i := 4)) re_int) ra_nil)))
    (rss_one (rs_set sc__law_cell_name.nd (re_bin ro_fdiv (re_var (i := 4)) re_int)))))
    (rss_cons (rs_set sc__law_cell_name.nd (re_mt rfl (T := .str) PySem.F.plainAttrs_str PySem.F.slot_str_join PySem.F.type_str_join (mt_joinR rfl) re_str (ra_cons (re_lc (k := false) rfl sc__law_cell_name.nd (own := [("figure", 5)]) (blkOk_by (by rfl)) (ri_all rfl (re_back (k := false) rfl (re_var (i := 3)))) (fun s H C cl fp => (rc_name (i := 5) sc__law_cell_name.nd)) (fun s H C cl fp => (rts_one (rt_cmp (ro_ord .gt rfl (un100 hr)) (re_var (i := 5)) re_int))) (fun s H C cl fp => (re_ix rfl (un100 hr) re_str (re_bin ro_sub (re_var (i := 5)) re_int)))) ra_nil)))
    (rss_one (rs_ret (re_ife (PW.pt (rw_and (rt_cmp (ro_eq rfl (un100 hr)) (re_var (i := 4)) re_int) (rw_and (rt_cmp (ro_ne rfl (un100 hr)) (re_var (i := 2)) re_str) (rw_and1 (rt_cmp (ro_eq rfl (un100 hr)) (re_call (takes_of rfl rfl rfl rfl) (ok__law_name_cell T) (hr.mono (by decide)) rfl T.g__law_name_cell T.f__law_name_cell.kp T.n__law_name_cell (ra_cons (re_var (i := 2)) ra_nil)) (re_var (i := 0))))))) (re_var (i := 2)) re_non))))))
theorem sc__law_cells : FnScope ["head", "found", "turn", "log", "number", "root", "shots", "name", "place"] ["head"] (defScope (top 49)) := ⟨rfl, rfl, rfl, by decide +kernel, rfl, by decide +kernel, by decide +kernel⟩
def m__law_cells : MS := (sSeq (sAsg (mVar 0) (tTup 5 (tCons (tName 2) (tCons (tName 3) (tCons (tName 4) (tCons (tName 5) (tCons (tName 6) tNil))))))) (sSeq (sAsg (mLst true (mCons (mVar 2) (mCons (mVar 3) (mCons (mVar 4) (mCons (mVar 5) (mCons (mCB (un lenW) (mCons (mVar 6) mNil)) mNil)))))) (tName 1)) (sSeq (sFor (mItS (mVar 6)) (tTup 2 (tCons (tName 7) (tCons (tName 8) tNil))) (sDrop (mMt .lst extF (mVar 1) (mCons (mLst false (mCons (mCall F__law_name_cell (mCons (mVar 7) mNil)) (mCons (mVar 8) mNil))) mNil)))) (sRet (mCB (tupleF) (mCons (mVar 1) mNil))))))
def F__law_cells : FnT := fnM 9 1 m__law_cells
theorem ok__law_cells (T : Txt g mg base a fd) : FnG P w g.K mg base 2 (a 25) (fd 25) ["head"] (spF g F__law_cells) := fn_ok T.f__law_cells sc__law_cells fun cdv A outer s H E hr hc =>
  (rss_cons (rs_asg (re_var (i := 0)) (rg_tup rfl rfl (rgs_cons (rg_name (i := 2) sc__law_cells.nd) (rgs_cons (rg_name (i := 3) sc__law_cells.nd) (rgs_cons (rg_name (i := 4) sc__law_cells.nd) (rgs_cons (rg_name (i := 5) sc__law_cells.nd) (rgs_cons (rg_name (i := 6) sc__law_cells.nd) rgs_nil calm_nil) (calm_cons calm_name calm_nil)) (calm_cons calm_name (calm_cons calm_name calm_nil))) (calm_cons calm_name (calm_cons calm_name (calm_cons calm_name calm_nil)))) (calm_cons calm_name (calm_cons calm_name (calm_cons calm_name (calm_cons calm_name calm_nil)))))))
    (rss_cons (rs_set sc__law_cells.nd (re_lst (k := true) (ra_cons (re_var (i := 2)) (ra_cons (re_var (i := 3)) (ra_cons (re_var (i := 4)) (ra_cons (re_var (i := 5)) (ra_cons (re_callB (rc_len rfl) rfl T.b_len rfl (ra_cons (re_var (i := 6)) ra_nil)) ra_nil)))))))
    (rss_cons (rs_for (passes_of rfl) rfl (ri_all rfl (re_var (i := 6))) (rg_tup rfl rfl (rgs_cons (rg_name (i := 7) sc__law_cells.nd) (rgs_cons (rg_name (i := 8) sc__law_cells.nd) rgs_nil calm_nil) (calm_cons calm_name calm_nil))) (rss_one (rs_expr (re_mt rfl (T := .lst) PySem.F.plainAttrs_list PySem.F.slot_list_extend PySem.F.type_list_extend (mt_ext) (re_var (i := 1)) (ra_cons (re_lst (k := false) (ra_cons (re_call (takes_of rfl rfl rfl rfl) (ok__law_name_cell T) (hr.mono (by decide)) rfl T.g__law_name_cell T.f__law_name_cell.kp T.n__law_name_cell (ra_cons (re_var (i := 7)) ra_nil)) (ra_cons (re_var (i := 8)) ra_nil))) ra_nil)))))
    (rss_one (rs_ret (re_callTy (rc_tuple rfl) rfl T.b_tuple rfl (ra_cons (re_var (i := 1)) ra_nil)))))))
theorem sc__law_is_cell : FnScope ["value", "least", "most"] ["value", "least", "most"] (defScope (top 50)) := ⟨rfl, rfl, rfl, by decide +kernel, rfl, by decide +kernel, by decide +kernel⟩
def m__law_is_cell : MS := (sRet (mAndV (mIsi "int" (mVar 0)) (mAndV (mNotV (mIsi "bool" (mVar 0))) (mChain (ordF .le) (ordF .le) (mVar 1) (mVar 0) (mVar 2)))))
def F__law_is_cell : FnT := fnM 3 3 m__law_is_cell
theorem ok__law_is_cell (T : Txt g mg base a fd) : FnG P w g.K mg base 1 (a 26) (fd 26) ["value", "least", "most"] (spF g F__law_is_cell) := fn_ok T.f__law_is_cell sc__law_is_cell fun cdv A outer s H E hr hc =>
  (rss_one (rs_ret (re_and rfl (re_isi rfl rfl T.b_isinstance rfl (re_var (i := 0)) rfl T.b_int rfl) (re_and rfl (re_not rfl (re_isi rfl rfl T.b_isinstance rfl (re_var (i := 0)) rfl T.b_bool rfl)) (re_one (re_chain (ro_ord .le rfl (un100 hr)) (ro_ord .le rfl (un100 hr)) (re_var (i := 1)) (re_var (i := 0)) (re_var (i := 2))))))))
theorem sc__law_is_name : FnScope ["value", "sign"] ["value"] (defScope (top 51)) := ⟨rfl, rfl, rfl, by decide +kernel, rfl, by decide +kernel, by decide +kernel⟩
def m__law_is_name : MS := (sSeq (sIf (mOr (mNot (mTru (mIsi "str" (mVar 0)))) (mNot (mB (mChain (ordF .le) (ordF .le) (mCon (.int 1)) (mCB (un lenW) (mCons (mVar 0) mNil)) (mCon (.int 8)))))) (sRet (mCon (.bool false))) sNil) (sRet (mBin (eqF false) (mComp false (mItS (mVar 0)) [1] (tName 1) (mB (mBin (inAF true) (mVar 1) (mCon (.str "abcdefghijklmnopqrstuvwxyz")))) (mVar 1)) (mLst false mNil))))
def F__law_is_name : FnT := fnM 2 1 m__law_is_name
theorem ok__law_is_name (T : Txt g mg base a fd) : FnG P w g.K mg base 1 (a 27) (fd 27) ["value"] (spF g F__law_is_name) := fn_ok T.f__law_is_name sc__law_is_name fun cdv A outer s H E hr hc =>
  (rss_cons (rs_if (PW.pt (rw_or (rt_not (rt_tru rfl (re_isi rfl rfl T.b_isinstance rfl (re_var (i := 0)) rfl T.b_str rfl))) (rw_or1 (rt_not (rt_chain (ro_ord .le rfl (un100 hr)) (ro_ord .le rfl (un100 hr)) re_int (re_callB (rc_len rfl) rfl T.b_len rfl (ra_cons (re_var (i := 0)) ra_nil)) re_int))))) (rss_one (rs_ret re_bl)) rss_nil)
    (rss_one (rs_ret (re_cmp (ro_eq rfl (un100 hr)) (re_lc (k := false) rfl sc__law_is_name.nd (own := [("sign", 1)]) (blkOk_by (by rfl)) (ri_all rfl (re_var (i := 0))) (fun s H C cl fp => (rc_name (i := 1) sc__law_is_name.nd)) (fun s H C cl fp => (rts_one (rt_cmp (ro_notInA rfl (un100 hr)) (re_var (i := 1)) re_str))) (fun s H C cl fp => (re_var (i := 1)))) (re_lst (k := false) ra_nil)))))
theorem sc__law_is_head : FnScope ["size", "value", "roots", "turn", "log", "number", "root", "shots", "one", "other"] ["size", "value"] (defScope (top 52)) := ⟨rfl, rfl, rfl, by decide +kernel, rfl, by decide +kernel, by decide +kernel⟩
def m__law_is_head : MS := (sSeq (sIf (mOr (mNot (mTru (mIsi "tuple" (mVar 1)))) (mOr (mB (mBin (eqF true) (mCB (un lenW) (mCons (mVar 1) mNil)) (mCon (.int 5)))) (mNot (mTru (mCall F__law_is_cell (mCons (mBin ixF (mVar 1) (mCon (.int 1))) (mCons (mCon (.int 4)) (mCons (mCB (min2F) (mCons (mCon (.int 40)) (mCons (mBin subF (mVar 0) (mCon (.int 18))) mNil))) mNil)))))))) (sRet (mCon (.bool false))) sNil) (sSeq (sAsg (mVar 1) (tTup 5 (tCons (tName 3) (tCons (tName 4) (tCons (tName 5) (tCons (tName 6) (tCons (tName 7) tNil))))))) (sSeq (sIf (mOr (mNot (mTru (mCall F__law_is_cell (mCons (mVar 3) (mCons (mCon (.int 1)) (mCons (mBin subF (mBin powF (mCon (.int 10)) (mCon (.int 18))) (mCon (.int 1))) mNil)))))) (mNot (mTru (mCall F__law_is_cell (mCons (mVar 5) (mCons (mCon (.int 1)) (mCons (mBin subF (mBin powF (mCon (.int 10)) (mCon (.int 18))) (mCon (.int 1))) mNil))))))) (sRet (mCon (.bool false))) sNil) (sSeq (sIf (mOr (mNot (mTru (mIsi "tuple" (mVar 7)))) (mB (mBin (ordF .gt) (mCB (un lenW) (mCons (mVar 7) mNil)) (mCon (.int 6))))) (sRet (mCon (.bool false))) sNil) (sSeq (sIf (mB (mBin (eqF true) (mComp false (mItS (mVar 7)) [8] (tName 8) (mOr (mNot (mTru (mIsi "tuple" (mVar 8)))) (mOr (mB (mBin (eqF true) (mCB (un lenW) (mCons (mVar 8) mNil)) (mCon (.int 2)))) (mNot (mTru (mCall F__law_is_name (mCons (mBin ixF (mVar 8) (mCon (.int 0))) mNil)))))) (mVar 8)) (mLst false mNil))) (sRet (mCon (.bool false))) sNil) (sSeq (sIf (mB (mBin (eqF true) (mComp false (mZip (mCons (mVar 7) (mCons (mSl (slF false) (mVar 7) (mPart (mCon (.int 1))) mNoPart) mNil))) [8, 9] (tTup 2 (tCons (tName 8) (tCons (tName 9) tNil))) (mB (mBin (ordF .ge) (mBin ixF (mVar 8) (mCon (.int 0))) (mBin ixF (mVar 9) (mCon (.int 0))))) (mCon (.int 1))) (mLst false mNil))) (sRet (mCon (.bool false))) sNil) (sSeq (sAsg (mBin (addF false) (mLst false (mCons (mVar 6) mNil)) (mComp false (mItS (mVar 7)) [8] (tName 8) mYes (mBin ixF (mVar 8) (mCon (.int 1))))) (tName 2)) (sRet (mBin (eqF false) (mComp false (mItS (mVar 2)) [8] (tName 8) (mOr (mNot (mTru (mCall F__law_is_cell (mCons (mVar 8) (mCons (mCon (.int 0)) (mCons (mBin subF (mVar 0) (mCon (.int 1))) mNil)))))) (mB (mChain (ordF .lt) (ordF .lt) (mCon (.int 0)) (mVar 8) (mBin (addF false) (mCon (.int 2)) (mVar 4))))) (mVar 8)) (mLst false mNil))))))))))
def F__law_is_head : FnT := fnM 10 2 m__law_is_head
theorem ok__law_is_head (T : Txt g mg base a fd) : FnG P w g.K mg base 2 (a 28) (fd 28) ["size", "value"] (spF g F__law_is_head) := fn_ok T.f__law_is_head sc__law_is_head fun cdv A outer s H E hr hc =>
  (rss_cons (rs_if (PW.pt (rw_or (rt_not (rt_tru rfl (re_isi rfl rfl T.b_isinstance rfl (re_var (i := 1)) rfl T.b_tuple rfl))) (rw_or (rt_cmp (ro_ne rfl (un100 hr)) (re_callB (rc_len rfl) rfl T.b_len rfl (ra_cons (re_var (i := 1)) ra_nil)) re_int) (rw_or1 (rt_not (rt_tru rfl (re_call (takes_of rfl rfl rfl rfl) (ok__law_is_cell T) (hr.mono (by decide)) rfl T.g__law_is_cell T.f__law_is_cell.kp T.n__law_is_cell (ra_cons (re_ix rfl (un100 hr) (re_var (i := 1)) re_int) (ra_cons re_int (ra_cons (re_callB (rc_min2 rfl) rfl T.b_min rfl (ra_cons re_int (ra_cons (re_bin ro_sub (re_var (i := 0)) re_int) ra_nil))) ra_nil)))))))))) (rss_one (rs_ret re_bl)) rss_nil)
    (rss_cons (rs_asg (re_var (i := 1)) (rg_tup rfl rfl (rgs_cons (rg_name (i := 3) sc__law_is_head.nd) (rgs_cons (rg_name (i := 4) sc__law_is_head.nd) (rgs_cons (rg_name (i := 5) sc__law_is_head.nd) (rgs_cons (rg_name (i := 6) sc__law_is_head.nd) (rgs_cons (rg_name (i := 7) sc__law_is_head.nd) rgs_nil calm_nil) (calm_cons calm_name calm_nil)) (calm_cons calm_name (calm_cons calm_name calm_nil))) (calm_cons calm_name (calm_cons calm_name (calm_cons calm_name calm_nil)))) (calm_cons calm_name (calm_cons calm_name (calm_cons calm_name (calm_cons calm_name calm_nil)))))))
    (rss_cons (rs_if (PW.pt (rw_or (rt_not (rt_tru rfl (re_call (takes_of rfl rfl rfl rfl) (ok__law_is_cell T) (hr.mono (by decide)) rfl T.g__law_is_cell T.f__law_is_cell.kp T.n__law_is_cell (ra_cons (re_var (i := 3)) (ra_cons re_int (ra_cons (re_bin ro_sub (re_bin ro_pow re_int re_int) re_int) ra_nil)))))) (rw_or1 (rt_not (rt_tru rfl (re_call (takes_of rfl rfl rfl rfl) (ok__law_is_cell T) (hr.mono (by decide)) rfl T.g__law_is_cell T.f__law_is_cell.kp T.n__law_is_cell (ra_cons (re_var (i := 5)) (ra_cons re_int (ra_cons (re_bin ro_sub (re_bin ro_pow re_int re_int) re_int) ra_nil))))))))) (rss_one (rs_ret re_bl)) rss_nil)
    (rss_cons (rs_if (PW.pt (rw_or (rt_not (rt_tru rfl (re_isi rfl rfl T.b_isinstance rfl (re_var (i := 7)) rfl T.b_tuple rfl))) (rw_or1 (rt_cmp (ro_ord .gt rfl (un100 hr)) (re_callB (rc_len rfl) rfl T.b_len rfl (ra_cons (re_var (i := 7)) ra_nil)) re_int)))) (rss_one (rs_ret re_bl)) rss_nil)
    (rss_cons (rs_if (rt_cmp (ro_ne rfl (un100 hr)) (re_lc (k := false) rfl sc__law_is_head.nd (own := [("one", 8)]) (blkOk_by (by rfl)) (ri_all rfl (re_var (i := 7))) (fun s H C cl fp => (rc_name (i := 8) sc__law_is_head.nd)) (fun s H C cl fp => (rts_one (PW.pt (rw_or (rt_not (rt_tru rfl (re_isi rfl rfl T.b_isinstance rfl (re_var (i := 8)) rfl T.b_tuple rfl))) (rw_or (rt_cmp (ro_ne rfl (un100 hr)) (re_callB (rc_len rfl) rfl T.b_len rfl (ra_cons (re_var (i := 8)) ra_nil)) re_int) (rw_or1 (rt_not (rt_tru rfl (re_call takes0 (ok__law_is_name T) (hr.mono (by decide)) rfl T.g__law_is_name T.f__law_is_name.kp T.n__law_is_name (ra_cons (re_ix rfl (un100 hr) (re_var (i := 8)) re_int) ra_nil)))))))))) (fun s H C cl fp => (re_var (i := 8)))) (re_lst (k := false) ra_nil)) (rss_one (rs_ret re_bl)) rss_nil)
    (rss_cons (rs_if (rt_cmp (ro_ne rfl (un100 hr)) (re_lc (k := false) rfl sc__law_is_head.nd (own := [("one", 8), ("other", 9)]) (blkOk_by (by rfl)) (ri_zip rfl rfl T.b_zip (ra_cons (re_var (i := 7)) (ra_cons (re_sl (slr rfl) (re_var (i := 7)) (ro_part re_int) ro_noPart) ra_nil))) (fun s H C cl fp => (rc_tup rfl rfl (rcs_cons (rc_name (i := 8) sc__law_is_head.nd) (rcs_cons (rc_name (i := 9) sc__law_is_head.nd) rcs_nil calm_nil) (calm_cons calm_name calm_nil)))) (fun s H C cl fp => (rts_one (rt_cmp (ro_ord .ge rfl (un100 hr)) (re_ix rfl (un100 hr) (re_var (i := 8)) re_int) (re_ix rfl (un100 hr) (re_var (i := 9)) re_int)))) (fun s H C cl fp => re_int)) (re_lst (k := false) ra_nil)) (rss_one (rs_ret re_bl)) rss_nil)
    (rss_cons (rs_set sc__law_is_head.nd (re_bin (ro_add rfl) (re_lst (k := false) (ra_cons (re_var (i := 6)) ra_nil)) (re_lc (k := false) rfl sc__law_is_head.nd (own := [("one", 8)]) (blkOk_by (by rfl)) (ri_all rfl (re_var (i := 7))) (fun s H C cl fp => (rc_name (i := 8) sc__law_is_head.nd)) (fun s H C cl fp => rts_nil) (fun s H C cl fp => (re_ix rfl (un100 hr) (re_var (i := 8)) re_int)))))
    (rss_one (rs_ret (re_cmp (ro_eq rfl (un100 hr)) (re_lc (k := false) rfl sc__law_is_head.nd (own := [("one", 8)]) (blkOk_by (by rfl)) (ri_all rfl (re_var (i := 2))) (fun s H C cl fp => (rc_name (i := 8) sc__law_is_head.nd)) (fun s H C cl fp => (rts_one (PW.pt (rw_or (rt_not (rt_tru rfl (re_call takes0 (ok__law_is_cell T) (hr.mono (by decide)) rfl T.g__law_is_cell T.f__law_is_cell.kp T.n__law_is_cell (ra_cons (re_var (i := 8)) (ra_cons re_int (ra_cons (re_bin ro_sub (re_var (i := 0)) re_int) ra_nil)))))) (rw_or1 (rt_chain (ro_ord .lt rfl (un100 hr)) (ro_ord .lt rfl (un100 hr)) re_int (re_var (i := 8)) (re_bin (ro_add rfl) re_int (re_var (i := 4))))))))) (fun s H C cl fp => (re_var (i := 8)))) (re_lst (k := false) ra_nil)))))))))))
theorem sc__law_of_cells : FnScope ["size", "cells", "shots", "found", "at"] ["size", "cells"] (defScope (top 53)) := ⟨rfl, rfl, rfl, by decide +kernel, rfl, by decide +kernel, by decide +kernel⟩
def m__law_of_cells : MS := (sSeq (sIf (mOr (mB (mBin (ordF .lt) (mCB (un lenW) (mCons (mVar 1) mNil)) (mCon (.int 5)))) (mB (mBin (eqF true) (mCB (un lenW) (mCons (mVar 1) mNil)) (mBin (addF false) (mCon (.int 5)) (mBin (mulF false) (mCon (.int 2)) (mBin ixF (mVar 1) (mCon (.int 4)))))))) (sRet (mCon .none)) sNil) (sSeq (sAsg (mComp false (mRng3 (mCons (mCon (.int 5)) (mCons (mCB (un lenW) (mCons (mVar 1) mNil)) (mCons (mCon (.int 2)) mNil)))) [4] (tName 4) mYes (mTup (mCons (mCall F__law_cell_name (mCons (mBin ixF (mVar 1) (mVar 4)) mNil)) (mCons (mBin ixF (mVar 1) (mBin (addF false) (mVar 4) (mCon (.int 1)))) mNil)))) (tName 2)) (sSeq (sAsg (mBin (addF false) (mSl (slF false) (mVar 1) mNoPart (mPart (mCon (.int 4)))) (mTup (mCons (mCB (tupleF) (mCons (mVar 2) mNil)) mNil))) (tName 3)) (sRet (mIf (mTru (mCall F__law_is_head (mCons (mVar 0) (mCons (mVar 3) mNil)))) (mVar 3) (mCon .none))))))
def F__law_of_cells : FnT := fnM 5 2 m__law_of_cells
theorem ok__law_of_cells (T : Txt g mg base a fd) : FnG P w g.K mg base 3 (a 29) (fd 29) ["size", "cells"] (spF g F__law_of_cells) := fn_ok T.f__law_of_cells sc__law_of_cells fun cdv A outer s H E hr hc =>
  (rss_cons (rs_if (PW.pt (rw_or (rt_cmp (ro_ord .lt rfl (un100 hr)) (re_callB (rc_len rfl) rfl T.b_len rfl (ra_cons (re_var (i := 1)) ra_nil)) re_int) (rw_or1 (rt_cmp (ro_ne rfl (un100 hr)) (re_callB (rc_len rfl) rfl T.b_len rfl (ra_cons (re_var (i := 1)) ra_nil)) (re_bin (ro_add rfl) re_int (re_bin (ro_mul (k := false) rfl) re_int (re_ix rfl (un100 hr) (re_var (i := 1)) re_int))))))) (rss_one (rs_ret re_non)) rss_nil)
    (rss_cons (rs_setLc (k := false) rfl sc__law_of_cells.nd rfl rfl rfl (own := [("at", 4)]) (blkOk_by (by rfl)) (ri_range3 rfl T.b_range (ra_cons re_int (ra_cons (re_callB (rc_len rfl) rfl T.b_len rfl (ra_cons (re_var (i := 1)) ra_nil)) (ra_cons re_int ra_nil)))) (fun s H C cl fp => (rc_name (i := 4) sc__law_of_cells.nd)) (fun s H C cl fp => rts_nil) (fun s H C cl fp => (re_tup (ra_cons (re_call takes0 (ok__law_cell_name T) (hr.mono (by decide)) rfl T.g__law_cell_name T.f__law_cell_name.kp T.n__law_cell_name (ra_cons (re_ix rfl (un100 hr) (re_var (i := 1)) (re_var (i := 4))) ra_nil)) (ra_cons (re_ix rfl (un100 hr) (re_var (i := 1)) (re_bin (ro_add rfl) (re_var (i := 4)) re_int)) ra_nil)))))
    (rss_cons (rs_set sc__law_of_cells.nd (re_bin (ro_add rfl) (re_sl (slr rfl) (re_var (i := 1)) ro_noPart (ro_part re_int)) (re_tup (ra_cons (re_callTy (rc_tuple rfl) rfl T.b_tuple rfl (ra_cons (re_var (i := 2)) ra_nil)) ra_nil))))
    (rss_one (rs_ret (re_ife (rt_tru rfl (re_call (takes_of rfl rfl rfl rfl) (ok__law_is_head T) (hr.mono (by decide)) rfl T.g__law_is_head T.f__law_is_head.kp T.n__law_is_head (ra_cons (re_var (i := 0)) (ra_cons (re_var (i := 3)) ra_nil)))) (re_var (i := 3)) re_non))))))
theorem sc__law_head : FnScope ["chest", "size", "turn", "log", "names", "places", "shots", "name", "at"] ["chest", "size", "turn"] (defScope (top 54)) := ⟨rfl, rfl, rfl, by decide +kernel, rfl, by decide +kernel, by decide +kernel⟩
def m__law_head : MS := (sSeq (sAsg (mBin (addF false) (mCon (.int 4)) (mCall F__law_draw (mCons (mVar 0) (mCons (mCB (min2F) (mCons (mCon (.int 37)) (mCons (mBin subF (mVar 1) (mCon (.int 21))) mNil))) mNil)))) (tName 3)) (sSeq (sAsg (mCB (sortSetXF false) (mCons (mComp false (mRng1 (mCons (mCall F__law_draw (mCons (mVar 0) (mCons (mCon (.int 4)) mNil))) mNil)) [8] (tName 8) mYes (mCall F__law_take (mCons (mVar 0) (mCons (mLst false (mCons (mCon (.str "a")) (mCons (mCon (.str "log")) (mCons (mCon (.str "zz")) (mCons (mCon (.str "zzzzzzzz")) (mCons (mCon (.str "ab")) (mCons (mCon (.str "b")) mNil))))))) mNil)))) mNil)) (tName 4)) (sSeq (sAsg (mLst false (mCons (mCon (.int 0)) (mCons (mBin (addF false) (mCon (.int 2)) (mVar 3)) (mCons (mBin subF (mVar 1) (mCon (.int 1))) (mCons (mBin (addF false) (mBin (addF false) (mCon (.int 2)) (mVar 3)) (mCall F__law_draw (mCons (mVar 0) (mCons (mBin subF (mBin subF (mVar 1) (mCon (.int 2))) (mVar 3)) mNil)))) mNil))))) (tName 5)) (sSeq (sAsg (mCB (tupleF) (mCons (mComp false (mItS (mVar 4)) [7] (tName 7) mYes (mTup (mCons (mVar 7) (mCons (mCall F__law_take (mCons (mVar 0) (mCons (mVar 5) mNil))) mNil)))) mNil)) (tName 6)) (sRet (mTup (mCons (mVar 2) (mCons (mVar 3) (mCons (mCall F__law_take (mCons (mVar 0) (mCons (mLst false (mCons (mCon (.int 1)) (mCons (mCon (.int 2)) (mCons (mCon (.int 77)) (mCons (mBin subF (mBin powF (mCon (.int 10)) (mCon (.int 18))) (mCon (.int 1))) mNil))))) mNil))) (mCons (mCall F__law_take (mCons (mVar 0) (mCons (mVar 5) mNil))) (mCons (mVar 6) mNil)))))))))))
def F__law_head : FnT := fnM 9 3 m__law_head
theorem ok__law_head (T : Txt g mg base a fd) : FnG P w g.K mg base 3 (a 30) (fd 30) ["chest", "size", "turn"] (spF g F__law_head) := fn_ok T.f__law_head sc__law_head fun cdv A outer s H E hr hc =>
  (rss_cons (rs_set sc__law_head.nd (re_bin (ro_add rfl) re_int (re_call (takes_of rfl rfl rfl rfl) (ok__law_draw T) (hr.mono (by decide)) rfl T.g__law_draw T.f__law_draw.kp T.n__law_draw (ra_cons (re_var (i := 0)) (ra_cons (re_callB (rc_min2 rfl) rfl T.b_min rfl (ra_cons re_int (ra_cons (re_bin ro_sub (re_var (i := 1)) re_int) ra_nil))) ra_nil)))))
    (rss_cons (rs_set sc__law_head.nd (re_sortSetX (k := false) rfl rfl (un100 hr) (ra_cons (re_lc (k := false) rfl sc__law_head.nd (own := [("at", 8)]) (blkOk_by (by rfl)) (ri_range1 rfl T.b_range (ra_cons (re_call (takes_of rfl rfl rfl rfl) (ok__law_draw T) (hr.mono (by decide)) rfl T.g__law_draw T.f__law_draw.kp T.n__law_draw (ra_cons (re_var (i := 0)) (ra_cons re_int ra_nil))) ra_nil)) (fun s H C cl fp => (rc_name (i := 8) sc__law_head.nd)) (fun s H C cl fp => rts_nil) (fun s H C cl fp => (re_call takes0 (ok__law_take T) (hr.mono (by decide)) rfl T.g__law_take T.f__law_take.kp T.n__law_take (ra_cons (re_var (i := 0)) (ra_cons (re_lst (k := false) (ra_cons re_str (ra_cons re_str (ra_cons re_str (ra_cons re_str (ra_cons re_str (ra_cons re_str ra_nil))))))) ra_nil))))) ra_nil) rfl T.b_sorted rfl rfl T.b_set rfl))
    (rss_cons (rs_set sc__law_head.nd (re_lst (k := false) (ra_cons re_int (ra_cons (re_bin (ro_add rfl) re_int (re_var (i := 3))) (ra_cons (re_bin ro_sub (re_var (i := 1)) re_int) (ra_cons (re_bin (ro_add rfl) (re_bin (ro_add rfl) re_int (re_var (i := 3))) (re_call (takes_of rfl rfl rfl rfl) (ok__law_draw T) (hr.mono (by decide)) rfl T.g__law_draw T.f__law_draw.kp T.n__law_draw (ra_cons (re_var (i := 0)) (ra_cons (re_bin ro_sub (re_bin ro_sub (re_var (i := 1)) re_int) (re_var (i := 3))) ra_nil)))) ra_nil))))))
    (rss_cons (rs_set sc__law_head.nd (re_callTy (rc_tuple rfl) rfl T.b_tuple rfl (ra_cons (re_lc (k := false) rfl sc__law_head.nd (own := [("name", 7)]) (blkOk_by (by rfl)) (ri_all rfl (re_var (i := 4))) (fun s H C cl fp => (rc_name (i := 7) sc__law_head.nd)) (fun s H C cl fp => rts_nil) (fun s H C cl fp => (re_tup (ra_cons (re_var (i := 7)) (ra_cons (re_call takes0 (ok__law_take T) (hr.mono (by decide)) rfl T.g__law_take T.f__law_take.kp T.n__law_take (ra_cons (re_var (i := 0)) (ra_cons (re_var (i := 5)) ra_nil))) ra_nil))))) ra_nil)))
    (rss_one (rs_ret (re_tup (ra_cons (re_var (i := 2)) (ra_cons (re_var (i := 3)) (ra_cons (re_call (takes_of rfl rfl rfl rfl) (ok__law_take T) (hr.mono (by decide)) rfl T.g__law_take T.f__law_take.kp T.n__law_take (ra_cons (re_var (i := 0)) (ra_cons (re_lst (k := false) (ra_cons re_int (ra_cons re_int (ra_cons re_int (ra_cons (re_bin ro_sub (re_bin ro_pow re_int re_int) re_int) ra_nil))))) ra_nil))) (ra_cons (re_call (takes_of rfl rfl rfl rfl) (ok__law_take T) (hr.mono (by decide)) rfl T.g__law_take T.f__law_take.kp T.n__law_take (ra_cons (re_var (i := 0)) (ra_cons (re_var (i := 5)) ra_nil))) (ra_cons (re_var (i := 6)) ra_nil))))))))))))
theorem sc__law_near : FnScope ["chest", "size", "head", "found", "many", "turn", "log", "number", "root", "shots", "name"] ["chest", "size", "head"] (defScope (top 55)) := ⟨rfl, rfl, rfl, by decide +kernel, rfl, by decide +kernel, by decide +kernel⟩
def m__law_near : MS := (sSeq (sAsg (mVar 2) (tTup 5 (tCons (tName 5) (tCons (tName 6) (tCons (tName 7) (tCons (tName 8) (tCons (tName 9) tNil))))))) (sSeq (sAsg (mLst false (mCons (mVar 2) (mCons (mCB (listF false) (mCons (mVar 2) mNil)) (mCons (mSl (slF false) (mVar 2) mNoPart (mPart (mCon (.int 4)))) (mCons (mBin (addF false) (mVar 2) (mTup (mCons (mCon (.int 0)) mNil))) (mCons (mCon .none) (mCons (mCon (.int 0)) (mCons (mTup mNil) (mCons (mCon (.str "head")) (mCons (mDic0 false) (mCons (mTup (mCons (mCon (.int 0)) (mCons (mVar 6) (mCons (mVar 7) (mCons (mVar 8) (mCons (mVar 9) mNil)))))) mNil))))))))))) (tName 3)) (sSeq (sAsg (mBin (addF false) (mVar 3) (mLst false (mCons (mTup (mCons (mVar 5) (mCons (mCon (.int 3)) (mCons (mVar 7) (mCons (mVar 8) (mCons (mVar 9) mNil)))))) (mCons (mTup (mCons (mVar 5) (mCons (mBin subF (mVar 1) (mCon (.int 17))) (mCons (mVar 7) (mCons (mVar 8) (mCons (mVar 9) mNil)))))) (mCons (mTup (mCons (mVar 5) (mCons (mCon (.int 41)) (mCons (mVar 7) (mCons (mVar 8) (mCons (mVar 9) mNil)))))) mNil))))) (tName 3)) (sSeq (sAsg (mBin (addF false) (mVar 3) (mLst false (mCons (mTup (mCons (mVar 5) (mCons (mVar 6) (mCons (mCon (.int 0)) (mCons (mVar 8) (mCons (mVar 9) mNil)))))) (mCons (mTup (mCons (mVar 5) (mCons (mVar 6) (mCons (mVar 7) (mCons (mBin (addF false) (mCon (.int 1)) (mVar 6)) (mCons (mVar 9) mNil)))))) (mCons (mTup (mCons (mVar 5) (mCons (mVar 6) (mCons (mVar 7) (mCons (mVar 1) (mCons (mVar 9) mNil)))))) mNil))))) (tName 3)) (sSeq (sAsg (mBin (addF false) (mVar 3) (mLst false (mCons (mTup (mCons (mVar 5) (mCons (mVar 6) (mCons (mVar 7) (mCons (mNeg (mCon (.int 1))) (mCons (mVar 9) mNil)))))) (mCons (mTup (mCons (mVar 5) (mCons (mVar 6) (mCons (mVar 7) (mCons (mCon (.int 1)) (mCons (mVar 9) mNil)))))) (mCons (mTup (mCons (mVar 5) (mCons (mVar 6) (mCons (mVar 7) (mCons (mCon (.bool false)) (mCons (mVar 9) mNil)))))) mNil))))) (tName 3)) (sSeq (sAsg (mBin (addF false) (mVar 3) (mLst false (mCons (mTup (mCons (mVar 5) (mCons (mVar 6) (mCons (mVar 7) (mCons (mVar 8) (mCons (mCB (listF false) (mCons (mVar 9) mNil)) mNil)))))) (mCons (mTup (mCons (mVar 5) (mCons (mVar 6) (mCons (mVar 7) (mCons (mVar 8) (mCons (mBin (addF false) (mVar 9) (mTup (mCons (mTup (mCons (mCon (.str "zzzzzzzzz")) (mCons (mCon (.int 0)) mNil))) mNil))) mNil)))))) mNil)))) (tName 3)) (sSeq (sAsg (mBin (addF false) (mVar 3) (mLst false (mCons (mTup (mCons (mBin powF (mCon (.int 10)) (mCon (.int 18))) (mCons (mVar 6) (mCons (mVar 7) (mCons (mVar 8) (mCons (mVar 9) mNil)))))) (mCons (mTup (mCons (mVar 5) (mCons (mVar 6) (mCons (mBin powF (mCon (.int 10)) (mCon (.int 18))) (mCons (mVar 8) (mCons (mVar 9) mNil)))))) (mCons (mTup (mCons (mCon (.bool true)) (mCons (mVar 6) (mCons (mVar 7) (mCons (mVar 8) (mCons (mVar 9) mNil)))))) mNil))))) (tName 3)) (sSeq (sAsg (mBin (addF false) (mVar 3) (mLst false (mCons (mTup (mCons (mVar 5) (mCons (mVar 6) (mCons (mVar 7) (mCons (mVar 8) (mCons (mBin (addF false) (mVar 9) (mTup (mCons (mTup (mCons (mCon (.str "a")) (mCons (mCon (.int 0)) mNil))) mNil))) mNil)))))) (mCons (mTup (mCons (mVar 5) (mCons (mVar 6) (mCons (mVar 7) (mCons (mVar 8) (mCons (mBin (addF false) (mTup (mCons (mTup (mCons (mCon (.str "")) (mCons (mCon (.int 0)) mNil))) mNil)) (mVar 9)) mNil)))))) mNil)))) (tName 3)) (sSeq (sAsg (mBin (addF false) (mVar 3) (mLst false (mCons (mTup (mCons (mVar 5) (mCons (mVar 6) (mCons (mVar 7) (mCons (mVar 8) (mCons (mBin (addF false) (mVar 9) (mTup (mCons (mTup (mCons (mCon (.str "zzzzzzzz")) (mCons (mCon (.int 1)) mNil))) mNil))) mNil)))))) (mCons (mTup (mCons (mVar 5) (mCons (mVar 6) (mCons (mVar 7) (mCons (mVar 8) (mCons (mTup (mCons (mTup (mCons (mCon (.str "a")) (mCons (mCon (.int 0)) (mCons (mCon (.int 0)) mNil)))) mNil)) mNil)))))) mNil)))) (tName 3)) (sSeq (sAsg (mCB (tupleF) (mCons (mComp false (mItS (mTup (mCons (mCon (.str "a")) (mCons (mCon (.str "b")) (mCons (mCon (.str "c")) (mCons (mCon (.str "d")) (mCons (mCon (.str "e")) (mCons (mCon (.str "f")) (mCons (mCon (.str "g")) mNil))))))))) [10] (tName 10) mYes (mTup (mCons (mVar 10) (mCons (mCon (.int 0)) mNil)))) mNil)) (tName 4)) (sRet (mBin (addF false) (mVar 3) (mLst false (mCons (mTup (mCons (mVar 5) (mCons (mVar 6) (mCons (mVar 7) (mCons (mVar 8) (mCons (mVar 4) mNil)))))) (mCons (mTup (mCons (mVar 5) (mCons (mVar 6) (mCons (mVar 7) (mCons (mVar 8) (mCons (mSl (slF false) (mVar 4) mNoPart (mPart (mCon (.int 6)))) mNil)))))) (mCons (mTup (mCons (mVar 5) (mCons (mCB (un strW) (mCons (mVar 6) mNil)) (mCons (mVar 7) (mCons (mVar 8) (mCons (mVar 9) mNil)))))) mNil))))))))))))))))
def F__law_near : FnT := fnM 11 3 m__law_near
theorem ok__law_near (T : Txt g mg base a fd) : FnG P w g.K mg base 1 (a 31) (fd 31) ["chest", "size", "head"] (spF g F__law_near) := fn_ok T.f__law_near sc__law_near fun cdv A outer s H E hr hc =>
  (rss_cons (rs_asg (re_var (i := 2)) (rg_tup rfl rfl (rgs_cons (rg_name (i := 5) sc__law_near.nd) (rgs_cons (rg_name (i := 6) sc__law_near.nd) (rgs_cons (rg_name (i := 7) sc__law_near.nd) (rgs_cons (rg_name (i := 8) sc__law_near.nd) (rgs_cons (rg_name (i := 9) sc__law_near.nd) rgs_nil calm_nil) (calm_cons calm_name calm_nil)) (calm_cons calm_name (calm_cons calm_name calm_nil))) (calm_cons calm_name (calm_cons calm_name (calm_cons calm_name calm_nil)))) (calm_cons calm_name (calm_cons calm_name (calm_cons calm_name (calm_cons calm_name calm_nil)))))))
    (rss_cons (rs_set sc__law_near.nd (re_lst (k := false) (ra_cons (re_var (i := 2)) (ra_cons (re_callTy (rc_list rfl) rfl T.b_list rfl (ra_cons (re_var (i := 2)) ra_nil)) (ra_cons (re_sl (slr rfl) (re_var (i := 2)) ro_noPart (ro_part re_int)) (ra_cons (re_bin (ro_add rfl) (re_var (i := 2)) (re_tup (ra_cons re_int ra_nil))) (ra_cons re_non (ra_cons re_int (ra_cons (re_tup ra_nil) (ra_cons re_str (ra_cons (re_dic0 (k := false)) (ra_cons (re_tup (ra_cons re_int (ra_cons (re_var (i := 6)) (ra_cons (re_var (i := 7)) (ra_cons (re_var (i := 8)) (ra_cons (re_var (i := 9)) ra_nil)))))) ra_nil))))))))))))
    (rss_cons (rs_set sc__law_near.nd (re_bin (ro_add rfl) (re_var (i := 3)) (re_lst (k := false) (ra_cons (re_tup (ra_cons (re_var (i := 5)) (ra_cons re_int (ra_cons (re_var (i := 7)) (ra_cons (re_var (i := 8)) (ra_cons (re_var (i := 9)) ra_nil)))))) (ra_cons (re_tup (ra_cons (re_var (i := 5)) (ra_cons (re_bin ro_sub (re_var (i := 1)) re_int) (ra_cons (re_var (i := 7)) (ra_cons (re_var (i := 8)) (ra_cons (re_var (i := 9)) ra_nil)))))) (ra_cons (re_tup (ra_cons (re_var (i := 5)) (ra_cons re_int (ra_cons (re_var (i := 7)) (ra_cons (re_var (i := 8)) (ra_cons (re_var (i := 9)) ra_nil)))))) ra_nil))))))
    (rss_cons (rs_set sc__law_near.nd (re_bin (ro_add rfl) (re_var (i := 3)) (re_lst (k := false) (ra_cons (re_tup (ra_cons (re_var (i := 5)) (ra_cons (re_var (i := 6)) (ra_cons re_int (ra_cons (re_var (i := 8)) (ra_cons (re_var (i := 9)) ra_nil)))))) (ra_cons (re_tup (ra_cons (re_var (i := 5)) (ra_cons (re_var (i := 6)) (ra_cons (re_var (i := 7)) (ra_cons (re_bin (ro_add rfl) re_int (re_var (i := 6))) (ra_cons (re_var (i := 9)) ra_nil)))))) (ra_cons (re_tup (ra_cons (re_var (i := 5)) (ra_cons (re_var (i := 6)) (ra_cons (re_var (i := 7)) (ra_cons (re_var (i := 1)) (ra_cons (re_var (i := 9)) ra_nil)))))) ra_nil))))))
    (rss_cons (rs_set sc__law_near.nd (re_bin (ro_add rfl) (re_var (i := 3)) (re_lst (k := false) (ra_cons (re_tup (ra_cons (re_var (i := 5)) (ra_cons (re_var (i := 6)) (ra_cons (re_var (i := 7)) (ra_cons (re_neg re_int) (ra_cons (re_var (i := 9)) ra_nil)))))) (ra_cons (re_tup (ra_cons (re_var (i := 5)) (ra_cons (re_var (i := 6)) (ra_cons (re_var (i := 7)) (ra_cons re_int (ra_cons (re_var (i := 9)) ra_nil)))))) (ra_cons (re_tup (ra_cons (re_var (i := 5)) (ra_cons (re_var (i := 6)) (ra_cons (re_var (i := 7)) (ra_cons re_bl (ra_cons (re_var (i := 9)) ra_nil)))))) ra_nil))))))
    (rss_cons (rs_set sc__law_near.nd (re_bin (ro_add rfl) (re_var (i := 3)) (re_lst (k := false) (ra_cons (re_tup (ra_cons (re_var (i := 5)) (ra_cons (re_var (i := 6)) (ra_cons (re_var (i := 7)) (ra_cons (re_var (i := 8)) (ra_cons (re_callTy (rc_list rfl) rfl T.b_list rfl (ra_cons (re_var (i := 9)) ra_nil)) ra_nil)))))) (ra_cons (re_tup (ra_cons (re_var (i := 5)) (ra_cons (re_var (i := 6)) (ra_cons (re_var (i := 7)) (ra_cons (re_var (i := 8)) (ra_cons (re_bin (ro_add rfl) (re_var (i := 9)) (re_tup (ra_cons (re_tup (ra_cons re_str (ra_cons re_int ra_nil))) ra_nil))) ra_nil)))))) ra_nil)))))
    (rss_cons (rs_set sc__law_near.nd (re_bin (ro_add rfl) (re_var (i := 3)) (re_lst (k := false) (ra_cons (re_tup (ra_cons (re_bin ro_pow re_int re_int) (ra_cons (re_var (i := 6)) (ra_cons (re_var (i := 7)) (ra_cons (re_var (i := 8)) (ra_cons (re_var (i := 9)) ra_nil)))))) (ra_cons (re_tup (ra_cons (re_var (i := 5)) (ra_cons (re_var (i := 6)) (ra_cons (re_bin ro_pow re_int re_int) (ra_cons (re_var (i := 8)) (ra_cons (re_var (i := 9)) ra_nil)))))) (ra_cons (re_tup (ra_cons re_bl (ra_cons (re_var (i := 6)) (ra_cons (re_var (i := 7)) (ra_cons (re_var (i := 8)) (ra_cons (re_var (i := 9)) ra_nil)))))) ra_nil))))))
    (rss_cons (rs_set sc__law_near.nd (re_bin (ro_add rfl) (re_var (i := 3)) (re_lst (k := false) (ra_cons (re_tup (ra_cons (re_var (i := 5)) (ra_cons (re_var (i := 6)) (ra_cons (re_var (i := 7)) (ra_cons (re_var (i := 8)) (ra_cons (re_bin (ro_add rfl) (re_var (i := 9)) (re_tup (ra_cons (re_tup (ra_cons re_str (ra_cons re_int ra_nil))) ra_nil))) ra_nil)))))) (ra_cons (re_tup (ra_cons (re_var (i := 5)) (ra_cons (re_var (i := 6)) (ra_cons (re_var (i := 7)) (ra_cons (re_var (i := 8)) (ra_cons (re_bin (ro_add rfl) (re_tup (ra_cons (re_tup (ra_cons re_str (ra_cons re_int ra_nil))) ra_nil)) (re_var (i := 9))) ra_nil)))))) ra_nil)))))
    (rss_cons (rs_set sc__law_near.nd (re_bin (ro_add rfl) (re_var (i := 3)) (re_lst (k := false) (ra_cons (re_tup (ra_cons (re_var (i := 5)) (ra_cons (re_var (i := 6)) (ra_cons (re_var (i := 7)) (ra_cons (re_var (i := 8)) (ra_cons (re_bin (ro_add rfl) (re_var (i := 9)) (re_tup (ra_cons (re_tup (ra_cons re_str (ra_cons re_int ra_nil))) ra_nil))) ra_nil)))))) (ra_cons (re_tup (ra_cons (re_var (i := 5)) (ra_cons (re_var (i := 6)) (ra_cons (re_var (i := 7)) (ra_cons (re_var (i := 8)) (ra_cons (re_tup (ra_cons (re_tup (ra_cons re_str (ra_cons re_int (ra_cons re_int ra_nil)))) ra_nil)) ra_nil)))))) ra_nil)))))
    (rss_cons (rs_set sc__law_near.nd (re_callTy (rc_tuple rfl) rfl T.b_tuple rfl (ra_cons (re_lc (k := false) rfl sc__law_near.nd (own := [("name", 10)]) (blkOk_by (by rfl)) (ri_all rfl (re_tup (ra_cons re_str (ra_cons re_str (ra_cons re_str (ra_cons re_str (ra_cons re_str (ra_cons re_str (ra_cons re_str ra_nil))))))))) (fun s H C cl fp => (rc_name (i := 10) sc__law_near.nd)) (fun s H C cl fp => rts_nil) (fun s H C cl fp => (re_tup (ra_cons (re_var (i := 10)) (ra_cons re_int ra_nil))))) ra_nil)))
    (rss_one (rs_ret (re_bin (ro_add rfl) (re_var (i := 3)) (re_lst (k := false) (ra_cons (re_tup (ra_cons (re_var (i := 5)) (ra_cons (re_var (i := 6)) (ra_cons (re_var (i := 7)) (ra_cons (re_var (i := 8)) (ra_cons (re_var (i := 4)) ra_nil)))))) (ra_cons (re_tup (ra_cons (re_var (i := 5)) (ra_cons (re_var (i := 6)) (ra_cons (re_var (i := 7)) (ra_cons (re_var (i := 8)) (ra_cons (re_sl (slr rfl) (re_var (i := 4)) ro_noPart (ro_part re_int)) ra_nil)))))) (ra_cons (re_tup (ra_cons (re_var (i := 5)) (ra_cons (re_callTy (rc_str) rfl T.b_str rfl (ra_cons (re_var (i := 6)) ra_nil)) (ra_cons (re_var (i := 7)) (ra_cons (re_var (i := 8)) (ra_cons (re_var (i := 9)) ra_nil)))))) ra_nil)))))))))))))))))
theorem sc__law_other_cells : FnScope ["chest", "cells", "at", "way"] ["chest", "cells"] (defScope (top 56)) := ⟨rfl, rfl, rfl, by decide +kernel, rfl, by decide +kernel, by decide +kernel⟩
def m__law_other_cells : MS := (sSeq (sPar 2 3 (mCons (mCall F__law_draw (mCons (mVar 0) (mCons (mCB (un lenW) (mCons (mVar 1) mNil)) mNil))) (mCons (mCall F__law_draw (mCons (mVar 0) (mCons (mCon (.int 6)) mNil))) mNil))) (sSeq (sIf (mB (mBin (eqF false) (mVar 3) (mCon (.int 0)))) (sRet (mSl (slF false) (mVar 1) mNoPart (mPart (mNeg (mCon (.int 1)))))) sNil) (sSeq (sIf (mB (mBin (eqF false) (mVar 3) (mCon (.int 1)))) (sRet (mBin (addF false) (mVar 1) (mTup (mCons (mCon (.int 0)) mNil)))) sNil) (sSeq (sIf (mB (mBin (eqF false) (mVar 3) (mCon (.int 2)))) (sRet (mBin (addF false) (mBin (addF false) (mSl (slF false) (mVar 1) mNoPart (mPart (mVar 2))) (mTup (mCons (mCall F__law_take (mCons (mVar 0) (mCons (mLst false (mCons (mCon (.int 0)) (mCons (mCon (.int 1)) (mCons (mCon (.int 27)) (mCons (mBin subF (mBin powF (mCon (.int 10)) (mCon (.int 18))) (mCon (.int 1))) (mCons (mCon (.int 5)) mNil)))))) mNil))) mNil))) (mSl (slF false) (mVar 1) (mPart (mBin (addF false) (mVar 2) (mCon (.int 1)))) mNoPart))) sNil) (sSeq (sIf (mB (mBin (eqF false) (mVar 3) (mCon (.int 3)))) (sRet (mBin (addF false) (mBin (addF false) (mSl (slF false) (mVar 1) mNoPart (mPart (mCon (.int 4)))) (mTup (mCons (mBin (addF false) (mBin ixF (mVar 1) (mCon (.int 4))) (mCon (.int 1))) mNil))) (mSl (slF false) (mVar 1) (mPart (mCon (.int 5))) mNoPart))) sNil) (sRet (mIf (mB (mBin (eqF false) (mVar 3) (mCon (.int 4)))) (mBin (addF false) (mBin (addF false) (mSl (slF false) (mVar 1) mNoPart (mPart (mCon (.int 5)))) (mSl (slF false) (mVar 1) (mPart (mCon (.int 7))) mNoPart)) (mSl (slF false) (mVar 1) (mPart (mCon (.int 5))) (mPart (mCon (.int 7))))) (mBin (addF false) (mVar 1) (mSl (slF false) (mVar 1) (mPart (mCon (.int 5))) (mPart (mCon (.int 7))))))))))))
def F__law_other_cells : FnT := fnM 4 2 m__law_other_cells
theorem ok__law_other_cells (T : Txt g mg base a fd) : FnG P w g.K mg base 3 (a 32) (fd 32) ["chest", "cells"] (spF g F__law_other_cells) := fn_ok T.f__law_other_cells sc__law_other_cells fun cdv A outer s H E hr hc =>
  (rss_cons (rs_par rfl sc__law_other_cells.nd (i := 2) (j := 3) rfl rfl (by decide) rfl rfl (ra_cons (re_call (takes_of rfl rfl rfl rfl) (ok__law_draw T) (hr.mono (by decide)) rfl T.g__law_draw T.f__law_draw.kp T.n__law_draw (ra_cons (re_var (i := 0)) (ra_cons (re_callB (rc_len rfl) rfl T.b_len rfl (ra_cons (re_var (i := 1)) ra_nil)) ra_nil))) (ra_cons (re_call (takes_of rfl rfl rfl rfl) (ok__law_draw T) (hr.mono (by decide)) rfl T.g__law_draw T.f__law_draw.kp T.n__law_draw (ra_cons (re_var (i := 0)) (ra_cons re_int ra_nil))) ra_nil)) rfl)
    (rss_cons (rs_if (rt_cmp (ro_eq rfl (un100 hr)) (re_var (i := 3)) re_int) (rss_one (rs_ret (re_sl (slr rfl) (re_var (i := 1)) ro_noPart (ro_part (re_neg re_int))))) rss_nil)
    (rss_cons (rs_if (rt_cmp (ro_eq rfl (un100 hr)) (re_var (i := 3)) re_int) (rss_one (rs_ret (re_bin (ro_add rfl) (re_var (i := 1)) (re_tup (ra_cons re_int ra_nil))))) rss_nil)
    (rss_cons (rs_if (rt_cmp (ro_eq rfl (un100 hr)) (re_var (i := 3)) re_int) (rss_one (rs_ret (re_bin (ro_add rfl) (re_bin (ro_add rfl) (re_sl (slr rfl) (re_var (i := 1)) ro_noPart (ro_part (re_var (i := 2)))) (re_tup (ra_cons (re_call (takes_of rfl rfl rfl rfl) (ok__law_take T) (hr.mono (by decide)) rfl T.g__law_take T.f__law_take.kp T.n__law_take (ra_cons (re_var (i := 0)) (ra_cons (re_lst (k := false) (ra_cons re_int (ra_cons re_int (ra_cons re_int (ra_cons (re_bin ro_sub (re_bin ro_pow re_int re_int) re_int) (ra_cons re_int ra_nil)))))) ra_nil))) ra_nil))) (re_sl (slr rfl) (re_var (i := 1)) (ro_part (re_bin (ro_add rfl) (re_var (i := 2)) re_int)) ro_noPart)))) rss_nil)
    (rss_cons (rs_if (rt_cmp (ro_eq rfl (un100 hr)) (re_var (i := 3)) re_int) (rss_one (rs_ret (re_bin (ro_add rfl) (re_bin (ro_add rfl) (re_sl (slr rfl) (re_var (i := 1)) ro_noPart (ro_part re_int)) (re_tup (ra_cons (re_bin (ro_add rfl) (re_ix rfl (un100 hr) (re_var (i := 1)) re_int) re_int) ra_nil))) (re_sl (slr rfl) (re_var (i := 1)) (ro_part re_int) ro_noPart)))) rss_nil)
    (rss_one (rs_ret (re_ife (rt_cmp (ro_eq rfl (un100 hr)) (re_var (i := 3)) re_int) (re_bin (ro_add rfl) (re_bin (ro_add rfl) (re_sl (slr rfl) (re_var (i := 1)) ro_noPart (ro_part re_int)) (re_sl (slr rfl) (re_var (i := 1)) (ro_part re_int) ro_noPart)) (re_sl (slr rfl) (re_var (i := 1)) (ro_part re_int) (ro_part re_int))) (re_bin (ro_add rfl) (re_var (i := 1)) (re_sl (slr rfl) (re_var (i := 1)) (ro_part re_int) (ro_part re_int)))))))))))
theorem sc__law_next : FnScope ["call"] ["call"] (defScope (top 57)) := ⟨rfl, rfl, rfl, by decide +kernel, rfl, by decide +kernel, by decide +kernel⟩
def m__law_next (lam : Lam) : MS := (sTry (sRet (mTup (mCons (mCon (.str "told")) (mCons (mThunk lam) mNil)))) errsV catV [⟨53, none, fun ws => (sRet (mTup (mCons (mCon (.str "refused")) (mCons (mCon (.int 0)) mNil))))⟩])
def F__law_next : Lam → Lam := fnL 1 m__law_next
theorem lm__law_next {g : Gx} (T : Txt g mg base a fd) {k : Nat} {cdv : Value} {A : Around} {outer : List PySem.Env} {s : Shared} {H : Hp} {E : XK} {fv : Addr} {lam : Lam} (hr : RoomG k (A.deeper (envOfC "_law_next" (defScope (top 57)) s.heap.objs.size (a 33) cdv))) (hk : 0 ≤ k)
    (act : ActOk (cxOf (L2.CX P w) P w g.K mg base ["call"] "_law_next" (defScope (top 57)) (a 33) cdv A outer s H E) g fv "call" lam) : PSs (cxOf (L2.CX P w) P w g.K mg base ["call"] "_law_next" (defScope (top 57)) (a 33) cdv A outer s H E) (defBody (top 57)) (rdSC (slot0 fv) g (fun c d _ H => E c d H) (m__law_next lam)) := by
  have hr : RoomG 0 (A.deeper (envOfC "_law_next" (defScope (top 57)) s.heap.objs.size (a 33) cdv)) := hr.mono hk
  exact (pss_one (rs_tryC rfl rfl sc__law_next.nd rfl (takes_of rfl rfl rfl rfl) (fun W pq xe t1 o1 => (rks_ret (rk_tup (rka_cons (rk_of re_str) (rka_cons (act _ _ _ _ _ t1) (rka_of ra_nil)))))) (HdsR.bare ⟨rfl, by decide, .inl T.gx_InvalidOperation⟩ (T.xm 53 (by decide)) (fun k ws d ea eo pq _ _ hz hd => (have T : Txt (gK g k ws d) mg base a fd := pinT T; (rks_of (rss_one (rs_ret (re_tup (ra_cons re_str (ra_cons re_int ra_nil)))))))) HdsR.nil)))
theorem sc__law_right : FnScope ["chest", "size", "head", "cells", "value", "turn", "further", "due", "told", "other"] ["chest"] (defScope (top 58)) := ⟨rfl, rfl, rfl, by decide +kernel, rfl, by decide +kernel, by decide +kernel⟩
def m__law_right : MS := (sSeq (sAsg (mCall F__law_take (mCons (mVar 0) (mCons (mLst false (mCons (mCon (.int 24)) (mCons (mCon (.int 24)) (mCons (mCon (.int 25)) (mCons (mCon (.int 40)) (mCons (mCon (.int 59)) (mCons (mCon (.int 60)) (mCons (mCon (.int 240)) mNil)))))))) mNil))) (tName 1)) (sSeq (sAsg (mCall F__law_head (mCons (mVar 0) (mCons (mVar 1) (mCons (mBin (addF false) (mCon (.int 1)) (mCall F__law_draw (mCons (mVar 0) (mCons (mCon (.int 9)) mNil)))) mNil)))) (tName 2)) (sSeq (sAsg (mCall F__law_cells (mCons (mVar 2) mNil)) (tName 3)) (sSeq (sIf (mOr (mNot (mTru (mCall F_is_head (mCons (mVar 1) (mCons (mVar 2) mNil))))) (mOr (mB (mBin (eqF true) (mCall F_head_cells (mCons (mVar 1) (mCons (mVar 2) mNil))) (mVar 3))) (mB (mBin (eqF true) (mCall F_head_of (mCons (mVar 1) (mCons (mVar 3) mNil))) (mVar 2))))) (sRet (mCon (.bool false))) sNil) (sSeq (sFor (mItS (mCall F__law_near (mCons (mVar 0) (mCons (mVar 1) (mCons (mVar 2) mNil))))) (tName 4) (sIf (mB (mBin (eqF true) (mCall F_is_head (mCons (mVar 1) (mCons (mVar 4) mNil))) (mCall F__law_is_head (mCons (mVar 1) (mCons (mVar 4) mNil))))) (sRet (mCon (.bool false))) sNil)) (sSeq (sFor (mRng1 (mCons (mCon (.int 6)) mNil)) (tName 5) (sSeq (sAsg (mCall F__law_other_cells (mCons (mVar 0) (mCons (mVar 3) mNil))) (tName 9)) (sIf (mB (mBin (eqF true) (mCall F_head_of (mCons (mVar 1) (mCons (mVar 9) mNil))) (mCall F__law_of_cells (mCons (mVar 1) (mCons (mVar 9) mNil))))) (sRet (mCon (.bool false))) sNil))) (sSeq (sAsg (mCall F__law_head (mCons (mVar 0) (mCons (mVar 1) (mCons (mCon (.int 1)) mNil)))) (tName 6)) (sSeq (sAsg (mBin (addF false) (mTup (mCons (mBin (addF false) (mBin ixF (mVar 2) (mCon (.int 0))) (mCon (.int 1))) (mCons (mBin ixF (mVar 2) (mCon (.int 1))) mNil))) (mSl (slF false) (mVar 6) (mPart (mCon (.int 2))) mNoPart)) (tName 7)) (sSeq (sAsg (mLam F__law_next (mCall F_next_head (mCons (mVar 1) (mCons (mVar 2) (mCons (mBin ixF (mVar 6) (mCon (.int 2))) (mCons (mBin ixF (mVar 6) (mCon (.int 3))) (mCons (mBin ixF (mVar 6) (mCon (.int 4))) mNil))))))) (tName 8)) (sRet (mBin (eqF false) (mVar 8) (mIf (mTru (mCall F__law_is_head (mCons (mVar 1) (mCons (mVar 7) mNil)))) (mTup (mCons (mCon (.str "told")) (mCons (mVar 7) mNil))) (mTup (mCons (mCon (.str "refused")) (mCons (mCon (.int 0)) mNil)))))))))))))))
def F__law_right : FnT := fnM 10 1 m__law_right
theorem ok__law_right (T : Txt g mg base a fd) : FnG P w g.K mg base 9 (a 34) (fd 34) ["chest"] (spF g F__law_right) := by
  obtain ⟨co, Pt, l1, l2, l3, l4⟩ := T.l__law_right
  exact fn_ok T.f__law_right sc__law_right fun cdv A outer s H E hr hc =>
  (rss_cons (rs_set sc__law_right.nd (re_call (takes_of rfl rfl rfl rfl) (ok__law_take T) (hr.mono (by decide)) rfl T.g__law_take T.f__law_take.kp T.n__law_take (ra_cons (re_var (i := 0)) (ra_cons (re_lst (k := false) (ra_cons re_int (ra_cons re_int (ra_cons re_int (ra_cons re_int (ra_cons re_int (ra_cons re_int (ra_cons re_int ra_nil)))))))) ra_nil))))
    (rss_cons (rs_set sc__law_right.nd (re_call (takes_of rfl rfl rfl rfl) (ok__law_head T) (hr.mono (by decide)) rfl T.g__law_head T.f__law_head.kp T.n__law_head (ra_cons (re_var (i := 0)) (ra_cons (re_var (i := 1)) (ra_cons (re_bin (ro_add rfl) re_int (re_call (takes_of rfl rfl rfl rfl) (ok__law_draw T) (hr.mono (by decide)) rfl T.g__law_draw T.f__law_draw.kp T.n__law_draw (ra_cons (re_var (i := 0)) (ra_cons re_int ra_nil)))) ra_nil)))))
    (rss_cons (rs_set sc__law_right.nd (re_call (takes_of rfl rfl rfl rfl) (ok__law_cells T) (hr.mono (by decide)) rfl T.g__law_cells T.f__law_cells.kp T.n__law_cells (ra_cons (re_var (i := 2)) ra_nil)))
    (rss_cons (rs_if (PW.pt (rw_or (rt_not (rt_tru rfl (re_call (takes_of rfl rfl rfl rfl) (ok_is_head T) (hr.mono (by decide)) rfl T.g_is_head T.f_is_head.kp T.n_is_head (ra_cons (re_var (i := 1)) (ra_cons (re_var (i := 2)) ra_nil))))) (rw_or (rt_cmp (ro_ne rfl (un100 hr)) (re_call (takes_of rfl rfl rfl rfl) (ok_head_cells T) (hr.mono (by decide)) rfl T.g_head_cells T.f_head_cells.kp T.n_head_cells (ra_cons (re_var (i := 1)) (ra_cons (re_var (i := 2)) ra_nil))) (re_var (i := 3))) (rw_or1 (rt_cmp (ro_ne rfl (un100 hr)) (re_call (takes_of rfl rfl rfl rfl) (ok_head_of T) (hr.mono (by decide)) rfl T.g_head_of T.f_head_of.kp T.n_head_of (ra_cons (re_var (i := 1)) (ra_cons (re_var (i := 3)) ra_nil))) (re_var (i := 2))))))) (rss_one (rs_ret re_bl)) rss_nil)
    (rss_cons (rs_for (passes_of rfl) rfl (ri_all rfl (re_call (takes_of rfl rfl rfl rfl) (ok__law_near T) (hr.mono (by decide)) rfl T.g__law_near T.f__law_near.kp T.n__law_near (ra_cons (re_var (i := 0)) (ra_cons (re_var (i := 1)) (ra_cons (re_var (i := 2)) ra_nil))))) (rg_name (i := 4) sc__law_right.nd) (rss_one (rs_if (rt_cmp (ro_ne rfl (un100 hr)) (re_call (takes_of rfl rfl rfl rfl) (ok_is_head T) (hr.mono (by decide)) rfl T.g_is_head T.f_is_head.kp T.n_is_head (ra_cons (re_var (i := 1)) (ra_cons (re_var (i := 4)) ra_nil))) (re_call (takes_of rfl rfl rfl rfl) (ok__law_is_head T) (hr.mono (by decide)) rfl T.g__law_is_head T.f__law_is_head.kp T.n__law_is_head (ra_cons (re_var (i := 1)) (ra_cons (re_var (i := 4)) ra_nil)))) (rss_one (rs_ret re_bl)) rss_nil)))
    (rss_cons (rs_for (passes_of rfl) rfl (ri_range1 rfl T.b_range (ra_cons re_int ra_nil)) (rg_name (i := 5) sc__law_right.nd) (rss_cons (rs_set sc__law_right.nd (re_call (takes_of rfl rfl rfl rfl) (ok__law_other_cells T) (hr.mono (by decide)) rfl T.g__law_other_cells T.f__law_other_cells.kp T.n__law_other_cells (ra_cons (re_var (i := 0)) (ra_cons (re_var (i := 3)) ra_nil))))
    (rss_one (rs_if (rt_cmp (ro_ne rfl (un100 hr)) (re_call (takes_of rfl rfl rfl rfl) (ok_head_of T) (hr.mono (by decide)) rfl T.g_head_of T.f_head_of.kp T.n_head_of (ra_cons (re_var (i := 1)) (ra_cons (re_var (i := 9)) ra_nil))) (re_call (takes_of rfl rfl rfl rfl) (ok__law_of_cells T) (hr.mono (by decide)) rfl T.g__law_of_cells T.f__law_of_cells.kp T.n__law_of_cells (ra_cons (re_var (i := 1)) (ra_cons (re_var (i := 9)) ra_nil)))) (rss_one (rs_ret re_bl)) rss_nil))))
    (rss_cons (rs_set sc__law_right.nd (re_call (takes_of rfl rfl rfl rfl) (ok__law_head T) (hr.mono (by decide)) rfl T.g__law_head T.f__law_head.kp T.n__law_head (ra_cons (re_var (i := 0)) (ra_cons (re_var (i := 1)) (ra_cons re_int ra_nil)))))
    (rss_cons (rs_set sc__law_right.nd (re_bin (ro_add rfl) (re_tup (ra_cons (re_bin (ro_add rfl) (re_ix rfl (un100 hr) (re_var (i := 2)) re_int) re_int) (ra_cons (re_ix rfl (un100 hr) (re_var (i := 2)) re_int) ra_nil))) (re_sl (slr rfl) (re_var (i := 6)) (ro_part re_int) ro_noPart)))
    (rss_cons (rs_set sc__law_right.nd (re_lam (k := 7) (takes_of rfl rfl rfl rfl) rfl rfl T.g__law_next T.f__law_next sc__law_next T.n__law_next rfl (fun P1 hP1 cdv A outer s H E fv lam hr act => lm__law_next (pinT T) hr (by decide) act) l2 (hc.symm.trans l1) l3 l4 (hr.mono (by decide)) (LamX.lamS_by (sc := defScope (top 58)) (by decide +kernel)) rfl (fun _ _ _ _ _ => rfl) (fun A outer s H E f9 c9 hr => (re_call (takes_of rfl rfl rfl rfl) (ok_next_head T) (hr.mono (by decide)) rfl T.g_next_head T.f_next_head.kp T.n_next_head (ra_cons (re_var (i := 1)) (ra_cons (re_var (i := 2)) (ra_cons (re_ix rfl (un100 hr) (re_var (i := 6)) re_int) (ra_cons (re_ix rfl (un100 hr) (re_var (i := 6)) re_int) (ra_cons (re_ix rfl (un100 hr) (re_var (i := 6)) re_int) ra_nil))))))) (by decide)))
    (rss_one (rs_ret (re_cmp (ro_eq rfl (un100 hr)) (re_var (i := 8)) (re_ife (rt_tru rfl (re_call (takes_of rfl rfl rfl rfl) (ok__law_is_head T) (hr.mono (by decide)) rfl T.g__law_is_head T.f__law_is_head.kp T.n__law_is_head (ra_cons (re_var (i := 1)) (ra_cons (re_var (i := 7)) ra_nil)))) (re_tup (ra_cons re_str (ra_cons (re_var (i := 7)) ra_nil))) (re_tup (ra_cons re_str (ra_cons re_int ra_nil))))))))))))))))
theorem sc_law : FnScope ["script", "spot", "told", "last", "chest", "turn"] ["script"] (defScope (top 59)) := ⟨rfl, rfl, rfl, by decide +kernel, rfl, by decide +kernel, by decide +kernel⟩
def m_law : MS := (sSeq (sFor (mRng1 (mCons (mCB (max2F) (mCons (mCon (.int 1)) (mCons (mCB (min2F) (mCons (mCon (.int 3)) (mCons (mCB (un lenW) (mCons (mVar 0) mNil)) mNil))) mNil))) mNil)) (tName 1) (sSeq (sAsg (mCall F__law_chest (mCons (mVar 0) (mCons (mVar 1) mNil))) (tName 4)) (sFor (mRng1 (mCons (mCon (.int 3)) mNil)) (tName 5) (sIf (mNot (mTru (mCall F__law_right (mCons (mVar 4) mNil)))) (sRet (mCon (.bool false))) sNil)))) (sSeq (sIf (mOr (mB (mBin (eqF true) (mCall F_head_cells (mCons (mCon (.int 24)) (mCons (mTup (mCons (mCon (.int 2)) (mCons (mCon (.int 4)) (mCons (mCon (.int 3)) (mCons (mCon (.int 9)) (mCons (mTup (mCons (mTup (mCons (mCon (.str "a")) (mCons (mCon (.int 8)) mNil))) mNil)) mNil)))))) mNil))) (mTup (mCons (mCon (.int 2)) (mCons (mCon (.int 4)) (mCons (mCon (.int 3)) (mCons (mCon (.int 9)) (mCons (mCon (.int 1)) (mCons (mCon (.int 10460353203)) (mCons (mCon (.int 8)) mNil)))))))))) (mB (mBin (isNF true) (mCall F_head_of (mCons (mCon (.int 24)) (mCons (mTup mNil) mNil))) (mCon .none)))) (sRet (mCon (.bool false))) sNil) (sSeq (sAsg (mLst false (mCons (mCall F_head_of (mCons (mCon (.int 24)) (mCons (mTup (mCons (mCon (.int 2)) (mCons (mCon (.int 4)) (mCons (mCon (.int 3)) (mCons (mCon (.int 9)) (mCons (mCon (.int 1)) (mCons (mCon (.int 27)) (mCons (mCon (.int 8)) mNil)))))))) mNil))) (mCons (mCall F_head_of (mCons (mCon (.int 24)) (mCons (mTup (mCons (mCon (.int 2)) (mCons (mCon (.int 4)) (mCons (mCon (.int 3)) (mCons (mCon (.int 9)) (mCons (mCon (.int 0)) mNil)))))) mNil))) (mCons (mCall F_is_head (mCons (mCon (.int 24)) (mCons (mTup (mCons (mCon (.int 1)) (mCons (mCon (.int 7)) (mCons (mCon (.int 1)) (mCons (mCon (.int 0)) (mCons (mTup mNil) mNil)))))) mNil))) mNil)))) (tName 2)) (sSeq (sAsg (mLam F__law_next (mCall F_next_head (mCons (mCon (.int 24)) (mCons (mTup (mCons (mBin subF (mBin powF (mCon (.int 10)) (mCon (.int 18))) (mCon (.int 1))) (mCons (mCon (.int 4)) (mCons (mCon (.int 1)) (mCons (mCon (.int 0)) (mCons (mTup mNil) mNil)))))) (mCons (mCon (.int 1)) (mCons (mCon (.int 0)) (mCons (mTup mNil) mNil))))))) (tName 3)) (sRet (mAndV (mBin (eqF false) (mVar 2) (mLst false (mCons (mCon .none) (mCons (mTup (mCons (mCon (.int 2)) (mCons (mCon (.int 4)) (mCons (mCon (.int 3)) (mCons (mCon (.int 9)) (mCons (mTup mNil) mNil)))))) (mCons (mCon (.bool false)) mNil))))) (mAndV (mBin (eqF false) (mVar 3) (mTup (mCons (mCon (.str "refused")) (mCons (mCon (.int 0)) mNil)))) (mCall F_is_head (mCons (mCon (.int 25)) (mCons (mTup (mCons (mCon (.int 1)) (mCons (mCon (.int 7)) (mCons (mCon (.int 1)) (mCons (mCon (.int 0)) (mCons (mTup mNil) mNil)))))) mNil))))))))))
def F_law : FnT := fnM 6 1 m_law
theorem ok_law (T : Txt g mg base a fd) : FnG P w g.K mg base 10 (a 35) (fd 35) ["script"] (spF g F_law) := by
  obtain ⟨co, Pt, l1, l2, l3, l4⟩ := T.l_law
  exact fn_ok T.f_law sc_law fun cdv A outer s H E hr hc =>
  (rss_cons (rs_for (passes_of rfl) rfl (ri_range1 rfl T.b_range (ra_cons (re_callB (rc_max2 rfl) rfl T.b_max rfl (ra_cons re_int (ra_cons (re_callB (rc_min2 rfl) rfl T.b_min rfl (ra_cons re_int (ra_cons (re_callB (rc_len rfl) rfl T.b_len rfl (ra_cons (re_var (i := 0)) ra_nil)) ra_nil))) ra_nil))) ra_nil)) (rg_name (i := 1) sc_law.nd) (rss_cons (rs_set sc_law.nd (re_call (takes_of rfl rfl rfl rfl) (ok__law_chest T) (hr.mono (by decide)) rfl T.g__law_chest T.f__law_chest.kp T.n__law_chest (ra_cons (re_var (i := 0)) (ra_cons (re_var (i := 1)) ra_nil))))
    (rss_one (rs_for (passes_of rfl) rfl (ri_range1 rfl T.b_range (ra_cons re_int ra_nil)) (rg_name (i := 5) sc_law.nd) (rss_one (rs_if (rt_not (rt_tru rfl (re_call (takes_of rfl rfl rfl rfl) (ok__law_right T) (hr.mono (by decide)) rfl T.g__law_right T.f__law_right.kp T.n__law_right (ra_cons (re_var (i := 4)) ra_nil)))) (rss_one (rs_ret re_bl)) rss_nil))))))
    (rss_cons (rs_if (PW.pt (rw_or (rt_cmp (ro_ne rfl (un100 hr)) (re_call (takes_of rfl rfl rfl rfl) (ok_head_cells T) (hr.mono (by decide)) rfl T.g_head_cells T.f_head_cells.kp T.n_head_cells (ra_cons re_int (ra_cons (re_tup (ra_cons re_int (ra_cons re_int (ra_cons re_int (ra_cons re_int (ra_cons (re_tup (ra_cons (re_tup (ra_cons re_str (ra_cons re_int ra_nil))) ra_nil)) ra_nil)))))) ra_nil))) (re_tup (ra_cons re_int (ra_cons re_int (ra_cons re_int (ra_cons re_int (ra_cons re_int (ra_cons re_int (ra_cons re_int ra_nil))))))))) (rw_or1 (rt_cmp ro_notN (re_call (takes_of rfl rfl rfl rfl) (ok_head_of T) (hr.mono (by decide)) rfl T.g_head_of T.f_head_of.kp T.n_head_of (ra_cons re_int (ra_cons (re_tup ra_nil) ra_nil))) re_non)))) (rss_one (rs_ret re_bl)) rss_nil)
    (rss_cons (rs_set sc_law.nd (re_lst (k := false) (ra_cons (re_call (takes_of rfl rfl rfl rfl) (ok_head_of T) (hr.mono (by decide)) rfl T.g_head_of T.f_head_of.kp T.n_head_of (ra_cons re_int (ra_cons (re_tup (ra_cons re_int (ra_cons re_int (ra_cons re_int (ra_cons re_int (ra_cons re_int (ra_cons re_int (ra_cons re_int ra_nil)))))))) ra_nil))) (ra_cons (re_call (takes_of rfl rfl rfl rfl) (ok_head_of T) (hr.mono (by decide)) rfl T.g_head_of T.f_head_of.kp T.n_head_of (ra_cons re_int (ra_cons (re_tup (ra_cons re_int (ra_cons re_int (ra_cons re_int (ra_cons re_int (ra_cons re_int ra_nil)))))) ra_nil))) (ra_cons (re_call (takes_of rfl rfl rfl rfl) (ok_is_head T) (hr.mono (by decide)) rfl T.g_is_head T.f_is_head.kp T.n_is_head (ra_cons re_int (ra_cons (re_tup (ra_cons re_int (ra_cons re_int (ra_cons re_int (ra_cons re_int (ra_cons (re_tup ra_nil) ra_nil)))))) ra_nil))) ra_nil)))))
    (rss_cons (rs_set sc_law.nd (re_lam (k := 7) (takes_of rfl rfl rfl rfl) rfl rfl T.g__law_next T.f__law_next sc__law_next T.n__law_next rfl (fun P1 hP1 cdv A outer s H E fv lam hr act => lm__law_next (pinT T) hr (by decide) act) l2 (hc.symm.trans l1) l3 l4 (hr.mono (by decide)) (LamX.lamS_by (sc := defScope (top 59)) (by decide +kernel)) rfl (fun _ _ _ _ _ => rfl) (fun A outer s H E f9 c9 hr => (re_call (takes_of rfl rfl rfl rfl) (ok_next_head T) (hr.mono (by decide)) rfl T.g_next_head T.f_next_head.kp T.n_next_head (ra_cons re_int (ra_cons (re_tup (ra_cons (re_bin ro_sub (re_bin ro_pow re_int re_int) re_int) (ra_cons re_int (ra_cons re_int (ra_cons re_int (ra_cons (re_tup ra_nil) ra_nil)))))) (ra_cons re_int (ra_cons re_int (ra_cons (re_tup ra_nil) ra_nil))))))) (by decide)))
    (rss_one (rs_ret (re_and rfl (re_cmp (ro_eq rfl (un100 hr)) (re_var (i := 2)) (re_lst (k := false) (ra_cons re_non (ra_cons (re_tup (ra_cons re_int (ra_cons re_int (ra_cons re_int (ra_cons re_int (ra_cons (re_tup ra_nil) ra_nil)))))) (ra_cons re_bl ra_nil))))) (re_and rfl (re_cmp (ro_eq rfl (un100 hr)) (re_var (i := 3)) (re_tup (ra_cons re_str (ra_cons re_int ra_nil)))) (re_one (re_call (takes_of rfl rfl rfl rfl) (ok_is_head T) (hr.mono (by decide)) rfl T.g_is_head T.f_is_head.kp T.n_is_head (ra_cons re_int (ra_cons (re_tup (ra_cons re_int (ra_cons re_int (ra_cons re_int (ra_cons re_int (ra_cons (re_tup ra_nil) ra_nil)))))) ra_nil))))))))))))
end

end V
namespace V
open PySem L2 PyProof.Rows Rf Nm

def isName : PyData → Bool
  | .str z => nameB z.cps.toList
  | _ => false
def shortS (d : PyData) : Prop := ∀ z, d = .str z → z.length ≤ 100000
theorem ev_is_name (bs : List Nat) (d : PyData) (S : Store) (h : shortS d) : F_is_name bs [.dat d] S = .ok (.bl (isName d)) S := by
  refine eq_of_wp ?_
  (unfold F_is_name m_is_name; with_reducible refine Rf.wp_fn rfl ?_; simp only [Rf.startE, List.map_cons, List.map_nil, List.length_cons, List.length_nil, Nat.reduceAdd, Nat.reduceSub, List.replicate, List.cons_append, List.nil_append])
  cases d with
  | str z =>
    (with_reducible refine Rf.wp_seq ?_; with_reducible refine Rf.wp_sIf ?_; with_reducible refine Rf.wp_if ?_; with_reducible refine Rf.wp_not ?_; with_reducible refine Rf.wp_tru ?_; with_reducible refine Rf.wp_isi ?_; with_reducible refine Rf.wp_varD (by with_unfolding_all exact rfl) ?_; with_reducible refine Rf.isi_str ?_; dsimp only [Rf.strB, Rf.intB, Rf.boolB, Rf.tupB, Rf.dicB, Rf.noneB]; with_reducible refine Rf.exTru (by with_unfolding_all exact rfl) ?_; with_reducible refine Rf.ifNT ?_; with_reducible refine Rf.wp_not ?_; with_reducible refine Rf.wp_B ?_; with_reducible refine Rf.wp_chain ?_; with_reducible refine Rf.wp_con ?_; with_reducible refine Rf.wp_CB ?_; with_reducible refine Rf.wp_cons ?_; with_reducible refine Rf.wp_varD (by with_unfolding_all exact rfl) ?_; with_reducible refine Rf.wp_nil ?_)
    refine len_str (h z rfl) ?_
    (with_reducible refine Rf.le_int ?_; with_reducible refine Rf.isB_mk ?_)
    have e := str_len z
    refine ifD (fun h1 => ?_) (fun h1 => ?_)
    · (with_reducible refine Rf.wp_con ?_; with_reducible refine Rf.le_int ?_; with_reducible refine Rf.isB_mk ?_)
      refine ifN (fun h2 => ?_) (fun h2 => ?_)
      · (with_reducible refine Rf.wp_sNil ?_; with_reducible refine Rf.wp_ret ?_; with_reducible refine Rf.wp_CB ?_; with_reducible refine Rf.wp_cons ?_; with_reducible refine Rf.wp_comp ?_; with_reducible refine Rf.wp_itS ?_; with_reducible refine Rf.wp_varD (by with_unfolding_all exact rfl) ?_; with_reducible refine Rf.its_str ?_)
        refine wp_compM (f := fun c => .dat (.str ⟨#[c]⟩)) (xs := z.cps.toList) (fun c => .dat (.bool (letB c))) (by have := h z rfl; omega) (fun c hc => ?_) ?_
        · (with_reducible refine Rf.wp_bin ?_; with_reducible refine Rf.wp_varD (by with_unfolding_all exact rfl) ?_; with_reducible refine Rf.wp_con ?_; with_reducible refine Rf.in_alpha ?_)
          exact ⟨rfl, rfl⟩
        · (with_reducible refine Rf.nl_map ?_; with_reducible refine Rf.wp_nil ?_; with_reducible refine Rf.all_map ?_; with_reducible refine Rf.rt_same ?_)
          refine ⟨?_, rfl⟩
          have e1 : decide (1 ≤ z.cps.toList.length) = true := decide_eq_true (by omega)
          have e2 : decide (z.cps.toList.length ≤ 8) = true := decide_eq_true (by omega)
          simp only [isName, nameB, e1, e2, Bool.true_and]
      · (with_reducible refine Rf.wp_ret ?_; with_reducible refine Rf.wp_con ?_; with_reducible refine Rf.rt_same ?_)
        refine ⟨?_, rfl⟩
        have e2 : decide (z.cps.toList.length ≤ 8) = false := decide_eq_false (by omega)
        simp only [isName, nameB, e2, Bool.and_false, Bool.false_and]
    · (with_reducible refine Rf.isB_mk ?_; with_reducible refine Rf.ifNF ?_; with_reducible refine Rf.wp_ret ?_; with_reducible refine Rf.wp_con ?_; with_reducible refine Rf.rt_same ?_)
      refine ⟨?_, rfl⟩
      have e2 : decide (1 ≤ z.cps.toList.length) = false := decide_eq_false (by omega)
      simp only [isName, nameB, e2, Bool.false_and]
  | _ =>
    (try array_get_dec)
    exact ⟨rfl, rfl⟩
theorem ev_is_name_sg (bs : List Nat) (l : List Nat) (S : Store) (h : l.length ≤ 100000) : F_is_name bs [.dat (.str (sg l))] S = .ok (.dat (.bool (nameB l))) S := by
  rw [ev_is_name bs (.str (sg l)) S (fun z e => by cases e; simpa using h)]
  simp [isName]
theorem name_bits {l : List Nat} (h : nameB l = true) : 1 ≤ l.length ∧ l.length ≤ 8 ∧ l.all letB = true := by
  unfold nameB at h
  simp only [Bool.and_eq_true, decide_eq_true_eq] at h
  exact ⟨h.1.1, h.1.2, h.2⟩
theorem let_at {l : List Nat} (h : l.all letB = true) {k : Nat} (hk : k < l.length) : letB l[k] = true := List.all_eq_true.mp h _ (List.getElem_mem hk)
theorem figA_at {l : List Nat} {k : Nat} (hk : k < l.length) : figA l k = (l[k] : Int) - 96 := by unfold figA; rw [if_pos hk, getD_at hk]
theorem cells_succ (l : List Nat) (k : Nat) : (List.range (k + 1)).foldl (cellStep l) 0 = (List.range k).foldl (cellStep l) 0 * 27 + figA l k := by
  rw [List.range_succ, List.foldl_append]; rfl
theorem ev_name_cell (bs : List Nat) (l : List Nat) (S : Store) (h : nameB l = true) : F_name_cell bs [.dat (.str (sg l))] S = .ok (.dat (.int (cellOf l))) S := by
  obtain ⟨h1, h8, hl⟩ := name_bits h
  refine eq_of_wp ?_
  (unfold F_name_cell m_name_cell; with_reducible refine Rf.wp_fn rfl ?_; simp only [Rf.startE, List.map_cons, List.map_nil, List.length_cons, List.length_nil, Nat.reduceAdd, Nat.reduceSub, List.replicate, List.cons_append, List.nil_append])
  (with_reducible refine Rf.wp_seq ?_; with_reducible refine Rf.wp_sIf ?_; with_reducible refine Rf.wp_not ?_; with_reducible refine Rf.wp_tru ?_; with_reducible refine Rf.wp_call ?_; with_reducible refine Rf.wp_cons ?_; with_reducible refine Rf.wp_varD (by with_unfolding_all exact rfl) ?_; with_reducible refine Rf.wp_nil ?_)
  refine wp_eq (ev_is_name_sg _ _ _ (by omega)) ?_
  rw [h]
  (with_reducible refine Rf.exTru (by with_unfolding_all exact rfl) ?_; with_reducible refine Rf.ifNT ?_; with_reducible refine Rf.wp_sNil ?_; with_reducible refine Rf.wp_seq ?_; with_reducible refine Rf.wp_asg ?_; with_reducible refine Rf.wp_con ?_; with_reducible refine Rf.wp_name ?_; with_reducible refine Rf.wp_seq ?_; with_reducible refine Rf.wp_for ?_; with_reducible refine Rf.wp_rng1 ?_; with_reducible refine Rf.wp_cons ?_; with_reducible refine Rf.wp_con ?_; with_reducible refine Rf.wp_nil ?_; (with_reducible refine Rf.exRng1 ?_ ?_; omega))
  refine wp_range (fun k env S' => (∃ x y, env = [some (.dat (.str (sg l))), some (.dat (.int ((List.range k).foldl (cellStep l) 0))), x, y]) ∧ S' = S) ⟨⟨_, _, rfl⟩, rfl⟩ (fun k env S' hk ⟨⟨x, y, he⟩, hS⟩ => ?_) (fun env S' ⟨⟨x, y, he⟩, hS⟩ => ?_)
  · subst he hS
    (with_reducible refine Rf.wp_body ?_; with_reducible refine Rf.wp_name ?_; with_reducible refine Rf.wp_seq ?_; with_reducible refine Rf.wp_asg ?_; with_reducible refine Rf.wp_if ?_; with_reducible refine Rf.wp_B ?_; with_reducible refine Rf.wp_bin ?_; with_reducible refine Rf.wp_varD (by with_unfolding_all exact rfl) ?_; with_reducible refine Rf.wp_CB ?_; with_reducible refine Rf.wp_cons ?_; with_reducible refine Rf.wp_varD (by with_unfolding_all exact rfl) ?_; with_reducible refine Rf.wp_nil ?_)
    refine len_sg (by omega) ?_
    (with_reducible refine Rf.lt_int ?_; with_reducible refine Rf.isB_mk ?_)
    refine ifD (fun hi => ?_) (fun hi => ?_)
    · (with_reducible refine Rf.wp_bin ?_; with_reducible refine Rf.wp_mt ?_; with_reducible refine Rf.wp_con ?_; with_reducible refine Rf.tyS ?_; with_reducible refine Rf.wp_cons ?_; with_reducible refine Rf.wp_bin ?_; with_reducible refine Rf.wp_varD (by with_unfolding_all exact rfl) ?_; with_reducible refine Rf.wp_varD (by with_unfolding_all exact rfl) ?_)
      refine ix_sg (c := l[k]'(by omega)) (by omega) (atI_ofNat (List.getElem?_eq_getElem (by omega))) ?_
      (with_reducible refine Rf.wp_nil ?_)
      refine sind_alpha (let_at hl (by omega)) ?_
      (with_reducible refine Rf.wp_con ?_; with_reducible refine Rf.add_int ?_; with_reducible refine Rf.wp_name ?_; with_reducible refine Rf.wp_asg ?_; with_reducible refine Rf.wp_bin ?_; with_reducible refine Rf.wp_bin ?_; with_reducible refine Rf.wp_varD (by with_unfolding_all exact rfl) ?_; with_reducible refine Rf.wp_con ?_; (with_reducible refine Rf.mul_int ?_ ?_; first | (refine Rf.mulOk_l ?_; decide) | (refine Rf.mulOk_r ?_; decide) | (refine Rf.mulOk_l ?_; omega) | (refine Rf.mulOk_r ?_; omega)); with_reducible refine Rf.wp_varD (by with_unfolding_all exact rfl) ?_; with_reducible refine Rf.add_int ?_; with_reducible refine Rf.wp_name ?_)
      rw [cells_succ, figA_at (by omega), show (l[k]'(by omega) : Int) - 97 + 1 = (l[k]'(by omega) : Int) - 96 by omega]
      exact ⟨⟨_, _, rfl⟩, rfl⟩
    · (with_reducible refine Rf.wp_con ?_; with_reducible refine Rf.wp_name ?_; with_reducible refine Rf.wp_asg ?_; with_reducible refine Rf.wp_bin ?_; with_reducible refine Rf.wp_bin ?_; with_reducible refine Rf.wp_varD (by with_unfolding_all exact rfl) ?_; with_reducible refine Rf.wp_con ?_; (with_reducible refine Rf.mul_int ?_ ?_; first | (refine Rf.mulOk_l ?_; decide) | (refine Rf.mulOk_r ?_; decide) | (refine Rf.mulOk_l ?_; omega) | (refine Rf.mulOk_r ?_; omega)); with_reducible refine Rf.wp_varD (by with_unfolding_all exact rfl) ?_; with_reducible refine Rf.add_int ?_; with_reducible refine Rf.wp_name ?_)
      rw [cells_succ, show figA l k = 0 from if_neg (by omega)]
      exact ⟨⟨_, _, rfl⟩, rfl⟩
  · subst he hS
    (with_reducible refine Rf.wp_ret ?_; with_reducible refine Rf.wp_varD (by with_unfolding_all exact rfl) ?_; with_reducible refine Rf.rt_same ?_)
    exact ⟨rfl, rfl⟩
theorem ev_letters (bs : List Nat) (c : Int) (S : Store) : F__letters_of bs [.dat (.int c)] S = .ok (.dat (.str (sg (letters c)))) S := by
  refine eq_of_wp ?_
  (unfold F__letters_of m__letters_of; with_reducible refine Rf.wp_fn rfl ?_; simp only [Rf.startE, List.map_cons, List.map_nil, List.length_cons, List.length_nil, Nat.reduceAdd, Nat.reduceSub, List.replicate, List.cons_append, List.nil_append])
  (with_reducible refine Rf.wp_seq ?_; with_reducible refine Rf.wp_asg ?_; with_reducible refine Rf.wp_con ?_; with_reducible refine Rf.wp_name ?_; with_reducible refine Rf.wp_seq ?_; with_reducible refine Rf.wp_asg ?_; with_reducible refine Rf.wp_varD (by with_unfolding_all exact rfl) ?_; with_reducible refine Rf.wp_name ?_; with_reducible refine Rf.wp_seq ?_; with_reducible refine Rf.wp_for ?_; with_reducible refine Rf.wp_rng1 ?_; with_reducible refine Rf.wp_cons ?_; with_reducible refine Rf.wp_con ?_; with_reducible refine Rf.wp_nil ?_; (with_reducible refine Rf.exRng1 ?_ ?_; omega))
  refine wp_range (fun k env S' => ∃ a left x y, (k ≤ 8 ∧ lo (8 - k) left a = lo 8 c [] ∧ a.length ≤ k) ∧ env = [some (.dat (.int c)), some (.dat (.str (sg a))), some (.dat (.int left)), x, y] ∧ S' = S) ?_ ?_ ?_
  · refine ⟨[], c, none, none, ⟨by omega, rfl, Nat.le_refl _⟩, ?_, rfl⟩
    rw [← empty_sg]; rfl
  · rintro k env S' hk ⟨a, left, x, y, ⟨h8, h1, h2⟩, rfl, rfl⟩
    have m0 : 0 ≤ left % 27 := Int.emod_nonneg _ (by decide)
    have m1 : left % 27 < 27 := Int.emod_lt_of_pos _ (by decide)
    have e : 8 - k = (8 - (k + 1)) + 1 := by omega
    rw [e] at h1
    unfold Nm.lo at h1
    (with_reducible refine Rf.wp_body ?_; with_reducible refine Rf.wp_name ?_; with_reducible refine Rf.wp_seq ?_; with_reducible refine Rf.wp_asg ?_; with_reducible refine Rf.wp_bin ?_; with_reducible refine Rf.wp_varD (by with_unfolding_all exact rfl) ?_; with_reducible refine Rf.wp_con ?_; (with_reducible refine Rf.mod_int ?_ ?_; first | decide | omega); with_reducible refine Rf.wp_name ?_; with_reducible refine Rf.wp_seq ?_; with_reducible refine Rf.wp_asg ?_; with_reducible refine Rf.wp_bin ?_; with_reducible refine Rf.wp_varD (by with_unfolding_all exact rfl) ?_; with_reducible refine Rf.wp_con ?_; (with_reducible refine Rf.div_int ?_ ?_; first | decide | omega); with_reducible refine Rf.wp_name ?_; with_reducible refine Rf.wp_sIf ?_; with_reducible refine Rf.wp_B ?_; with_reducible refine Rf.wp_bin ?_; with_reducible refine Rf.wp_varD (by with_unfolding_all exact rfl) ?_; with_reducible refine Rf.wp_con ?_; with_reducible refine Rf.gt_int ?_; with_reducible refine Rf.isB_mk ?_)
    refine ifD (fun hp => ?_) (fun hp => ?_)
    · (with_reducible refine Rf.wp_asg ?_; with_reducible refine Rf.wp_bin ?_; with_reducible refine Rf.wp_bin ?_; with_reducible refine Rf.wp_con ?_; with_reducible refine Rf.wp_bin ?_; with_reducible refine Rf.wp_varD (by with_unfolding_all exact rfl) ?_; with_reducible refine Rf.wp_con ?_; with_reducible refine Rf.sub_int ?_)
      refine ix_alpha (by omega) (by omega) ?_
      (with_reducible refine Rf.wp_varD (by with_unfolding_all exact rfl) ?_)
      refine add_sg (by simp; omega) ?_
      (with_reducible refine Rf.wp_name ?_)
      rw [if_pos hp] at h1
      have e2 : (left % 27 - 1).toNat + 97 = (left % 27).toNat + 96 := by omega
      rw [e2]
      exact ⟨_, _, _, _, ⟨by omega, h1, by simp; omega⟩, rfl, rfl⟩
    · (with_reducible refine Rf.wp_sNil ?_)
      rw [if_neg hp] at h1
      exact ⟨_, _, _, _, ⟨by omega, h1, by omega⟩, rfl, rfl⟩
  · rintro env S' ⟨a, left, x, y, ⟨_, h1, _⟩, rfl, rfl⟩
    (with_reducible refine Rf.wp_ret ?_; with_reducible refine Rf.wp_varD (by with_unfolding_all exact rfl) ?_; with_reducible refine Rf.rt_same ?_)
    have e : a = letters c := congrArg Prod.fst h1
    exact ⟨by rw [e], rfl⟩
def optN : Option (List Nat) → PyData
  | some l => .str (sg l)
  | none => .none
theorem ev_name_of (bs : List Nat) (c : Int) (S : Store) : F_name_of_cell bs [.dat (.int c)] S = .ok (.dat (optN (nameOf c))) S := by
  have hl := lo_len 8 c []
  refine eq_of_wp ?_
  (unfold F_name_of_cell m_name_of_cell; with_reducible refine Rf.wp_fn rfl ?_; simp only [Rf.startE, List.map_cons, List.map_nil, List.length_cons, List.length_nil, Nat.reduceAdd, Nat.reduceSub, List.replicate, List.cons_append, List.nil_append])
  (with_reducible refine Rf.wp_seq ?_; with_reducible refine Rf.wp_asg ?_; with_reducible refine Rf.wp_call ?_; with_reducible refine Rf.wp_cons ?_; with_reducible refine Rf.wp_varD (by with_unfolding_all exact rfl) ?_; with_reducible refine Rf.wp_nil ?_)
  refine wp_eq (ev_letters _ _ _) ?_
  (with_reducible refine Rf.wp_name ?_; with_reducible refine Rf.wp_ret ?_; with_reducible refine Rf.wp_if ?_; with_reducible refine Rf.wp_if ?_; with_reducible refine Rf.wp_tru ?_; with_reducible refine Rf.wp_call ?_; with_reducible refine Rf.wp_cons ?_; with_reducible refine Rf.wp_varD (by with_unfolding_all exact rfl) ?_; with_reducible refine Rf.wp_nil ?_)
  refine wp_eq (ev_is_name_sg _ _ _ (by unfold letters; simp at hl; omega)) ?_
  (with_reducible refine Rf.exTru (by with_unfolding_all exact rfl) ?_)
  unfold nameOf
  by_cases h : letters c ≠ []
  · rw [letters_name h]
    (with_reducible refine Rf.ifT ?_; with_reducible refine Rf.wp_B ?_; with_reducible refine Rf.wp_bin ?_; with_reducible refine Rf.wp_call ?_; with_reducible refine Rf.wp_cons ?_; with_reducible refine Rf.wp_varD (by with_unfolding_all exact rfl) ?_; with_reducible refine Rf.wp_nil ?_)
    refine wp_eq (ev_name_cell _ _ _ (letters_name h)) ?_
    (with_reducible refine Rf.wp_varD (by with_unfolding_all exact rfl) ?_; with_reducible refine Rf.eq_int ?_; with_reducible refine Rf.isB_mk ?_)
    refine ifD (fun h2 => ?_) (fun h2 => ?_)
    · (with_reducible refine Rf.wp_varD (by with_unfolding_all exact rfl) ?_; with_reducible refine Rf.rt_same ?_)
      rw [if_pos ⟨h, h2⟩]
      exact ⟨rfl, rfl⟩
    · (with_reducible refine Rf.wp_con ?_; with_reducible refine Rf.rt_same ?_)
      rw [if_neg (fun z => h2 z.2)]
      exact ⟨rfl, rfl⟩
  · have h' : letters c = [] := by simpa using h
    rw [h', show nameB [] = false from rfl]
    (with_reducible refine Rf.ifF ?_; with_reducible refine Rf.wp_ok ?_; with_reducible refine Rf.ifF ?_; with_reducible refine Rf.wp_con ?_; with_reducible refine Rf.rt_same ?_)
    rw [if_neg (fun z => z.1 rfl)]
    exact ⟨rfl, rfl⟩
theorem ev_law_name_cell (bs : List Nat) (l : List Nat) (S : Store) (hl : l.all letB = true) (h8 : l.length ≤ 8) : F__law_name_cell bs [.dat (.str (sg l))] S = .ok (.dat (.int (cellOf l))) S := by
  refine eq_of_wp ?_
  (unfold F__law_name_cell m__law_name_cell; with_reducible refine Rf.wp_fn rfl ?_; simp only [Rf.startE, List.map_cons, List.map_nil, List.length_cons, List.length_nil, Nat.reduceAdd, Nat.reduceSub, List.replicate, List.cons_append, List.nil_append])
  (with_reducible refine Rf.wp_seq ?_; with_reducible refine Rf.wp_asg ?_; with_reducible refine Rf.wp_con ?_; with_reducible refine Rf.wp_name ?_; with_reducible refine Rf.wp_seq ?_; with_reducible refine Rf.wp_for ?_; with_reducible refine Rf.wp_rng1 ?_; with_reducible refine Rf.wp_cons ?_; with_reducible refine Rf.wp_con ?_; with_reducible refine Rf.wp_nil ?_; (with_reducible refine Rf.exRng1 ?_ ?_; omega))
  refine wp_range (fun k env S' => (∃ y, env = [some (.dat (.str (sg l))), some (.dat (.int ((List.range k).foldl (cellStep l) 0))), y]) ∧ S' = S) ⟨⟨_, rfl⟩, rfl⟩ (fun k env S' hk ⟨⟨y, he⟩, hS⟩ => ?_) (fun env S' ⟨⟨y, he⟩, hS⟩ => ?_)
  · subst he hS
    (with_reducible refine Rf.wp_body ?_; with_reducible refine Rf.wp_name ?_; with_reducible refine Rf.wp_asg ?_; with_reducible refine Rf.wp_bin ?_; with_reducible refine Rf.wp_bin ?_; with_reducible refine Rf.wp_con ?_; with_reducible refine Rf.wp_varD (by with_unfolding_all exact rfl) ?_; (with_reducible refine Rf.mul_int ?_ ?_; first | (refine Rf.mulOk_l ?_; decide) | (refine Rf.mulOk_r ?_; decide) | (refine Rf.mulOk_l ?_; omega) | (refine Rf.mulOk_r ?_; omega)); with_reducible refine Rf.wp_if ?_; with_reducible refine Rf.wp_B ?_; with_reducible refine Rf.wp_bin ?_; with_reducible refine Rf.wp_varD (by with_unfolding_all exact rfl) ?_; with_reducible refine Rf.wp_CB ?_; with_reducible refine Rf.wp_cons ?_; with_reducible refine Rf.wp_varD (by with_unfolding_all exact rfl) ?_; with_reducible refine Rf.wp_nil ?_)
    refine len_sg (by omega) ?_
    (with_reducible refine Rf.lt_int ?_; with_reducible refine Rf.isB_mk ?_)
    refine ifD (fun hi => ?_) (fun hi => ?_)
    · (with_reducible refine Rf.wp_bin ?_; with_reducible refine Rf.wp_mt ?_; with_reducible refine Rf.wp_con ?_; with_reducible refine Rf.tyS ?_; with_reducible refine Rf.wp_cons ?_; with_reducible refine Rf.wp_bin ?_; with_reducible refine Rf.wp_varD (by with_unfolding_all exact rfl) ?_; with_reducible refine Rf.wp_varD (by with_unfolding_all exact rfl) ?_)
      refine ix_sg (c := l[k]'(by omega)) (by omega) (atI_ofNat (List.getElem?_eq_getElem (by omega))) ?_
      (with_reducible refine Rf.wp_nil ?_)
      refine sind_alpha (let_at hl (by omega)) ?_
      (with_reducible refine Rf.wp_con ?_; with_reducible refine Rf.add_int ?_; with_reducible refine Rf.add_int ?_; with_reducible refine Rf.wp_name ?_)
      rw [cells_succ, figA_at (by omega), Int.mul_comm 27, show (l[k]'(by omega) : Int) - 97 + 1 = (l[k]'(by omega) : Int) - 96 by omega]
      exact ⟨⟨_, rfl⟩, rfl⟩
    · (with_reducible refine Rf.wp_con ?_; with_reducible refine Rf.add_int ?_; with_reducible refine Rf.wp_name ?_)
      rw [cells_succ, show figA l k = 0 from if_neg (by omega), Int.mul_comm 27]
      exact ⟨⟨_, rfl⟩, rfl⟩
  · subst he hS
    (with_reducible refine Rf.wp_ret ?_; with_reducible refine Rf.wp_varD (by with_unfolding_all exact rfl) ?_; with_reducible refine Rf.rt_same ?_)
    exact ⟨rfl, rfl⟩
end V

namespace V
open PySem L2 PyProof.Rows Rf Nm

theorem ev_law_cell_name (bs : List Nat) (c : Int) (S : Store) : F__law_cell_name bs [.dat (.int c)] S = .ok (.dat (optN (nameOf c))) S := by
  refine eq_of_wp ?_
  (unfold F__law_cell_name m__law_cell_name; with_reducible refine Rf.wp_fn rfl ?_; simp only [Rf.startE, List.map_cons, List.map_nil, List.length_cons, List.length_nil, Nat.reduceAdd, Nat.reduceSub, List.replicate, List.cons_append, List.nil_append])
  (with_reducible refine Rf.wp_seq ?_; with_reducible refine Rf.wp_par ?_; with_reducible refine Rf.wp_cons ?_; with_reducible refine Rf.wp_lst ?_; with_reducible refine Rf.wp_nil ?_; with_reducible refine Rf.lp_cell (by with_unfolding_all exact rfl) ?_; with_reducible refine Rf.wp_cons ?_; with_reducible refine Rf.wp_varD (by with_unfolding_all exact rfl) ?_; with_reducible refine Rf.wp_nil ?_; with_reducible refine Rf.ex2 ?_; with_reducible refine Rf.wp_seq ?_; with_reducible refine Rf.wp_for ?_; with_reducible refine Rf.wp_rng1 ?_; with_reducible refine Rf.wp_cons ?_; with_reducible refine Rf.wp_con ?_; with_reducible refine Rf.wp_nil ?_; (with_reducible refine Rf.exRng1 ?_ ?_; omega))
  refine wp_range (fun k env S' => ∃ D left x, (k ≤ 8 ∧ dg (8 - k) left D = dg 8 c [] ∧ D.length = k) ∧ env = [some (.dat (.int c)), x, none, some (.loc S.length), some (.dat (.int left)), none] ∧ S' = S ++ [.lst (D.reverse.map fun d => .dat (.int d))]) ?_ ?_ ?_
  · exact ⟨[], c, none, ⟨by omega, rfl, rfl⟩, rfl, rfl⟩
  · rintro k env S' hk ⟨D, left, x, ⟨h8, h1, h2⟩, rfl, rfl⟩
    have e : 8 - k = (8 - (k + 1)) + 1 := by omega
    rw [e] at h1
    unfold dg at h1
    have hs := at_app1 S (.lst (D.reverse.map fun d => W.dat (.int d)))
    (with_reducible refine Rf.wp_body ?_; with_reducible refine Rf.wp_name ?_; with_reducible refine Rf.wp_seq ?_; with_reducible refine Rf.wp_drop ?_; with_reducible refine Rf.wp_mt ?_; with_reducible refine Rf.wp_varL (by with_unfolding_all exact rfl) ?_; with_reducible refine Rf.tyLc (by assumption) ?_; with_reducible refine Rf.wp_cons ?_; with_reducible refine Rf.wp_bin ?_; with_reducible refine Rf.wp_varD (by with_unfolding_all exact rfl) ?_; with_reducible refine Rf.wp_con ?_; (with_reducible refine Rf.mod_int ?_ ?_; first | decide | omega); with_reducible refine Rf.wp_nil ?_)
    refine app_loc hs (by simp; omega) ?_
    rw [set_app]
    (with_reducible refine Rf.wp_asg ?_; with_reducible refine Rf.wp_bin ?_; with_reducible refine Rf.wp_varD (by with_unfolding_all exact rfl) ?_; with_reducible refine Rf.wp_con ?_; (with_reducible refine Rf.div_int ?_ ?_; first | decide | omega); with_reducible refine Rf.wp_name ?_)
    rw [show (D.reverse.map fun d => W.dat (.int d)) ++ [W.dat (.int (left % 27))] = ((left % 27 :: D).reverse.map fun d => W.dat (.int d)) by simp]
    exact ⟨left % 27 :: D, left / 27, _, ⟨by omega, h1, by simp; omega⟩, rfl, rfl⟩
  · rintro env S' ⟨D, left, x, ⟨_, h1, h2⟩, rfl, rfl⟩
    have hs := at_app1 S (.lst (D.reverse.map fun d => W.dat (.int d)))
    have e1 : D = (dg 8 c []).1 := congrArg Prod.fst h1
    have e2 : left = (dg 8 c []).2 := congrArg Prod.snd h1
    have sm : ∀ d ∈ D, 0 ≤ d ∧ d < 27 := by rw [e1]; exact dg_small 8 c [] (fun d hd => nomatch hd)
    (with_reducible refine Rf.wp_seq ?_; with_reducible refine Rf.wp_asg ?_; with_reducible refine Rf.wp_mt ?_; with_reducible refine Rf.wp_con ?_; with_reducible refine Rf.tyS ?_; with_reducible refine Rf.wp_cons ?_; with_reducible refine Rf.wp_comp ?_; with_reducible refine Rf.wp_itS ?_; with_reducible refine Rf.wp_back ?_; with_reducible refine Rf.wp_varL (by with_unfolding_all exact rfl) ?_)
    refine bk_loc (ds := D.reverse.map .int) (by rw [hs, List.map_map]; rfl) ?_
    rw [← List.map_reverse, List.reverse_reverse]
    (with_reducible refine Rf.its_lst ?_)
    rw [List.map_map]
    refine wp_compP (f := fun d : Int => .dat (.int d)) (xs := D) (fun d => if 0 < d then some (.dat (.str (sg [d.toNat + 96]))) else none) (by omega) (fun d hd => ?_) ?_
    · (with_reducible refine Rf.wp_name ?_; with_reducible refine Rf.wp_B ?_; with_reducible refine Rf.wp_bin ?_; with_reducible refine Rf.wp_varD (by with_unfolding_all exact rfl) ?_; with_reducible refine Rf.wp_con ?_; with_reducible refine Rf.gt_int ?_; with_reducible refine Rf.isB_mk ?_)
      obtain ⟨d0, d1⟩ := sm d hd
      refine ifD (fun hp => ?_) (fun hp => ?_)
      · (with_reducible refine Rf.wp_bin ?_; with_reducible refine Rf.wp_con ?_; with_reducible refine Rf.wp_bin ?_; with_reducible refine Rf.wp_varD (by with_unfolding_all exact rfl) ?_; with_reducible refine Rf.wp_con ?_; with_reducible refine Rf.sub_int ?_)
        refine ix_alpha (by omega) (by omega) ?_
        rw [if_pos hp, show (d - 1).toNat + 97 = d.toNat + 96 by omega]
        exact ⟨rfl, rfl⟩
      · rw [if_neg hp]
        exact ⟨rfl, rfl⟩
    · have e3 : D.filterMap (fun d => if 0 < d then some (W.dat (.str (sg [d.toNat + 96]))) else none) = (((posI D).map fun n => [n]).map fun l => PyData.str (sg l)).map .dat := by
        unfold posI
        clear e1 h1 h2 hs sm
        induction D with
        | nil => rfl
        | cons d D ih =>
          by_cases hp : 0 < d
          · simp [hp, ih]
          · simp [hp, ih]
      rw [e3]
      (with_reducible refine Rf.nl_dat ?_; with_reducible refine Rf.wp_nil ?_)
      have e4 : ((posI D).map fun n => [n]).flatten = posI D := by
        generalize posI D = l
        induction l with
        | nil => rfl
        | cons a l ih => simp [ih]
      rw [empty_sg]
      have hlen : (posI D).length ≤ 8 := by
        unfold posI
        rw [List.length_map]
        exact Nat.le_trans (List.length_filter_le _ _) (by omega)
      refine join_sgs (by rw [e4]; omega) ?_
      rw [e4]
      (with_reducible refine Rf.wp_name ?_; with_reducible refine Rf.wp_ret ?_; with_reducible refine Rf.wp_if ?_; with_reducible refine Rf.wp_if ?_; with_reducible refine Rf.wp_B ?_; with_reducible refine Rf.wp_bin ?_; with_reducible refine Rf.wp_varD (by with_unfolding_all exact rfl) ?_; with_reducible refine Rf.wp_con ?_; with_reducible refine Rf.eq_int ?_; with_reducible refine Rf.isB_mk ?_)
      have el : posI D = letters c := by rw [e1, letters_dg]
      rw [el]
      rw [← own_nameOf c, ← e2]
      refine ifD (fun hz => ?_) (fun hz => ?_)
      · (with_reducible refine Rf.wp_if ?_; with_reducible refine Rf.wp_B ?_; with_reducible refine Rf.wp_bin ?_; with_reducible refine Rf.wp_varD (by with_unfolding_all exact rfl) ?_; with_reducible refine Rf.wp_con ?_; with_reducible refine Rf.ne_str ?_; with_reducible refine Rf.isB_mk ?_)
        by_cases hn : letters c = []
        · refine ifN (fun hq => ?_) (fun hq => ?_)
          · (with_reducible refine Rf.wp_ok ?_; with_reducible refine Rf.ifF ?_; with_reducible refine Rf.wp_con ?_; with_reducible refine Rf.rt_app ?_)
            rw [if_neg (fun z => z.2.1 hn)]
            exact ⟨rfl, rfl⟩
          · exact absurd (by rw [hn]) hq
        · refine ifN (fun hq => ?_) (fun hq => ?_)
          · exact absurd (sg_inj.mp hq) hn
          · have nb := name_bits (letters_name hn)
            (with_reducible refine Rf.wp_B ?_; with_reducible refine Rf.wp_bin ?_; with_reducible refine Rf.wp_call ?_; with_reducible refine Rf.wp_cons ?_; with_reducible refine Rf.wp_varD (by with_unfolding_all exact rfl) ?_; with_reducible refine Rf.wp_nil ?_)
            refine wp_eq (ev_law_name_cell _ _ _ nb.2.2 nb.2.1) ?_
            (with_reducible refine Rf.wp_varD (by with_unfolding_all exact rfl) ?_; with_reducible refine Rf.eq_int ?_; with_reducible refine Rf.isB_mk ?_)
            refine ifD (fun hc => ?_) (fun hc => ?_)
            · (with_reducible refine Rf.wp_varD (by with_unfolding_all exact rfl) ?_; with_reducible refine Rf.rt_app ?_)
              rw [if_pos ⟨hz, hn, hc⟩]
              exact ⟨rfl, rfl⟩
            · (with_reducible refine Rf.wp_con ?_; with_reducible refine Rf.rt_app ?_)
              rw [if_neg (fun z => hc z.2.2)]
              exact ⟨rfl, rfl⟩
      · (with_reducible refine Rf.wp_ok ?_; with_reducible refine Rf.ifF ?_; with_reducible refine Rf.wp_con ?_; with_reducible refine Rf.rt_app ?_)
        rw [if_neg (fun z => hz z.1)]
        exact ⟨rfl, rfl⟩
end V

namespace V
open PySem L2 PyProof.Rows Rf Nm

/-! ### heads said plainly -/
abbrev tI (ns : List Int) : PyData := .tuple (ns.map .int)
def okC (c : Int) : Prop := 0 ≤ c ∧ c ≤ 999999999999999999
def isNum (lo hi : Int) : PyData → Bool
  | .int i => decide (lo ≤ i) && decide (i ≤ hi)
  | _ => false
def rootB (size log : Int) (d : PyData) : Bool := isNum 0 0 d || isNum (2 + log) (size - 1) d
def shotB (size log : Int) : PyData → Bool
  | .tuple [n, r] => isName n && rootB size log r
  | _ => false
def nm0 : PyData → Bool
  | .tuple [n, _] => isName n
  | _ => false
def keyS : PyData → Str
  | .tuple (.str z :: _) => z
  | _ => ""
def ltS (a b : Str) : Bool := decide (a.cps.toList < b.cps.toList)
def upB : List PyData → Bool
  | a :: b :: r => ltS (keyS a) (keyS b) && upB (b :: r)
  | _ => true
def shotsB (size log : Int) : PyData → Bool
  | .tuple ss => decide (ss.length ≤ 6) && ss.all (shotB size log) && upB ss
  | _ => false
def mlog (size : Int) : Int := if size - 18 < 40 then size - 18 else 40
def headB (size : Int) : PyData → Bool
  | .tuple [t, .int l, n, r, ss] => isNum 1 999999999999999999 t && isNum 1 999999999999999999 n && isNum 4 (mlog size) (.int l) && rootB size l r && shotsB size l ss
  | _ => false
/-- the texts in it are short -/
def tameS : PyData → Prop
  | .tuple ss => ∀ s ∈ ss, ∀ n r, s = .tuple [n, r] → shortS n
  | _ => True
def tameH : PyData → Prop
  | .tuple [_, _, _, _, ss] => tameS ss
  | _ => True
section
variable {bs : List Nat} {S : Store} {n : Nat} {E : EK} {Q : W → Store → Prop}
theorem ev_is_number (d : PyData) (lo hi : Int) : F_is_number bs [.dat d, .dat (.int lo), .dat (.int hi)] S = .ok (.dat (.bool (isNum lo hi d))) S := by
  refine eq_of_wp ?_
  (unfold F_is_number m_is_number; with_reducible refine Rf.wp_fn rfl ?_; simp only [Rf.startE, List.map_cons, List.map_nil, List.length_cons, List.length_nil, Nat.reduceAdd, Nat.reduceSub, List.replicate, List.cons_append, List.nil_append])
  cases d with
  | int i =>
    (with_reducible refine Rf.wp_ret ?_; with_reducible refine Rf.wp_andV ?_; with_reducible refine Rf.wp_isi ?_; with_reducible refine Rf.wp_varD (by with_unfolding_all exact rfl) ?_; with_reducible refine Rf.isi_int ?_; dsimp only [Rf.strB, Rf.intB, Rf.boolB, Rf.tupB, Rf.dicB, Rf.noneB]; with_reducible refine Rf.exTru (by with_unfolding_all exact rfl) ?_; with_reducible refine Rf.ifT ?_; with_reducible refine Rf.wp_andV ?_; with_reducible refine Rf.wp_notV ?_; with_reducible refine Rf.wp_isi ?_; with_reducible refine Rf.wp_varD (by with_unfolding_all exact rfl) ?_; with_reducible refine Rf.isi_bool ?_; dsimp only [Rf.strB, Rf.intB, Rf.boolB, Rf.tupB, Rf.dicB, Rf.noneB]; with_reducible refine Rf.exTru (by with_unfolding_all exact rfl) ?_; with_reducible refine Rf.exTru (by with_unfolding_all exact rfl) ?_; with_reducible refine Rf.ifNF ?_; with_reducible refine Rf.wp_chain ?_; with_reducible refine Rf.wp_varD (by with_unfolding_all exact rfl) ?_; with_reducible refine Rf.wp_varD (by with_unfolding_all exact rfl) ?_; with_reducible refine Rf.le_int ?_; with_reducible refine Rf.isB_mk ?_)
    refine ifD (fun h => ?_) (fun h => ?_)
    · (with_reducible refine Rf.wp_varD (by with_unfolding_all exact rfl) ?_; with_reducible refine Rf.le_int ?_; with_reducible refine Rf.rt_same ?_)
      refine ⟨?_, rfl⟩
      simp [isNum, h]
    · (with_reducible refine Rf.rt_same ?_)
      refine ⟨?_, rfl⟩
      simp [isNum, h]
  | _ =>
    (try array_get_dec)
    exact ⟨rfl, rfl⟩
theorem ev_law_is_cell (d : PyData) (lo hi : Int) : F__law_is_cell bs [.dat d, .dat (.int lo), .dat (.int hi)] S = .ok (.dat (.bool (isNum lo hi d))) S := by
  refine eq_of_wp ?_
  (unfold F__law_is_cell m__law_is_cell; with_reducible refine Rf.wp_fn rfl ?_; simp only [Rf.startE, List.map_cons, List.map_nil, List.length_cons, List.length_nil, Nat.reduceAdd, Nat.reduceSub, List.replicate, List.cons_append, List.nil_append])
  cases d with
  | int i =>
    (with_reducible refine Rf.wp_ret ?_; with_reducible refine Rf.wp_andV ?_; with_reducible refine Rf.wp_isi ?_; with_reducible refine Rf.wp_varD (by with_unfolding_all exact rfl) ?_; with_reducible refine Rf.isi_int ?_; dsimp only [Rf.strB, Rf.intB, Rf.boolB, Rf.tupB, Rf.dicB, Rf.noneB]; with_reducible refine Rf.exTru (by with_unfolding_all exact rfl) ?_; with_reducible refine Rf.ifT ?_; with_reducible refine Rf.wp_andV ?_; with_reducible refine Rf.wp_notV ?_; with_reducible refine Rf.wp_isi ?_; with_reducible refine Rf.wp_varD (by with_unfolding_all exact rfl) ?_; with_reducible refine Rf.isi_bool ?_; dsimp only [Rf.strB, Rf.intB, Rf.boolB, Rf.tupB, Rf.dicB, Rf.noneB]; with_reducible refine Rf.exTru (by with_unfolding_all exact rfl) ?_; with_reducible refine Rf.exTru (by with_unfolding_all exact rfl) ?_; with_reducible refine Rf.ifNF ?_; with_reducible refine Rf.wp_chain ?_; with_reducible refine Rf.wp_varD (by with_unfolding_all exact rfl) ?_; with_reducible refine Rf.wp_varD (by with_unfolding_all exact rfl) ?_; with_reducible refine Rf.le_int ?_; with_reducible refine Rf.isB_mk ?_)
    refine ifD (fun h => ?_) (fun h => ?_)
    · (with_reducible refine Rf.wp_varD (by with_unfolding_all exact rfl) ?_; with_reducible refine Rf.le_int ?_; with_reducible refine Rf.rt_same ?_)
      refine ⟨?_, rfl⟩
      simp [isNum, h]
    · (with_reducible refine Rf.rt_same ?_)
      refine ⟨?_, rfl⟩
      simp [isNum, h]
  | _ =>
    (try array_get_dec)
    exact ⟨rfl, rfl⟩
theorem ev_check {v lo hi : Int} (h : lo ≤ v ∧ v ≤ hi) : F_check_number bs [.dat (.int v), .dat (.int lo), .dat (.int hi)] S = .ok (.dat .none) S := by
  refine eq_of_wp ?_
  (unfold F_check_number m_check_number; with_reducible refine Rf.wp_fn rfl ?_; simp only [Rf.startE, List.map_cons, List.map_nil, List.length_cons, List.length_nil, Nat.reduceAdd, Nat.reduceSub, List.replicate, List.cons_append, List.nil_append])
  (with_reducible refine Rf.wp_sIf ?_; with_reducible refine Rf.wp_not ?_; with_reducible refine Rf.wp_tru ?_; with_reducible refine Rf.wp_call ?_; with_reducible refine Rf.wp_cons ?_; with_reducible refine Rf.wp_varD (by with_unfolding_all exact rfl) ?_; with_reducible refine Rf.wp_cons ?_; with_reducible refine Rf.wp_varD (by with_unfolding_all exact rfl) ?_; with_reducible refine Rf.wp_cons ?_; with_reducible refine Rf.wp_varD (by with_unfolding_all exact rfl) ?_; with_reducible refine Rf.wp_nil ?_)
  refine wp_eq (ev_is_number _ _ _) ?_
  have e : isNum lo hi (.int v) = true := by simp [isNum, h]
  rw [e]
  (with_reducible refine Rf.exTru (by with_unfolding_all exact rfl) ?_; with_reducible refine Rf.ifNT ?_; with_reducible refine Rf.wp_sNil ?_)
  exact ⟨trivial, List.take_length⟩
theorem ev_check_size {size : Int} (h : 24 ≤ size ∧ size ≤ 240) : F__check_size bs [.dat (.int size)] S = .ok (.dat .none) S := by
  refine eq_of_wp ?_
  (unfold F__check_size m__check_size; with_reducible refine Rf.wp_fn rfl ?_; simp only [Rf.startE, List.map_cons, List.map_nil, List.length_cons, List.length_nil, Nat.reduceAdd, Nat.reduceSub, List.replicate, List.cons_append, List.nil_append])
  (with_reducible refine Rf.wp_drop ?_; with_reducible refine Rf.wp_call ?_; with_reducible refine Rf.wp_cons ?_; with_reducible refine Rf.wp_varD (by with_unfolding_all exact rfl) ?_; with_reducible refine Rf.wp_cons ?_; with_reducible refine Rf.wp_con ?_; with_reducible refine Rf.wp_cons ?_; with_reducible refine Rf.wp_con ?_; with_reducible refine Rf.wp_nil ?_)
  refine wp_eq (ev_check h) ?_
  skip
  exact ⟨trivial, List.take_length⟩
theorem ev_is_root (size log : Int) (d : PyData) : F__is_root bs [.dat (.int size), .dat (.int log), .dat d] S = .ok (.dat (.bool (rootB size log d))) S := by
  refine eq_of_wp ?_
  (unfold F__is_root m__is_root; with_reducible refine Rf.wp_fn rfl ?_; simp only [Rf.startE, List.map_cons, List.map_nil, List.length_cons, List.length_nil, Nat.reduceAdd, Nat.reduceSub, List.replicate, List.cons_append, List.nil_append])
  (with_reducible refine Rf.wp_ret ?_; with_reducible refine Rf.wp_orV ?_; with_reducible refine Rf.wp_call ?_; with_reducible refine Rf.wp_cons ?_; with_reducible refine Rf.wp_varD (by with_unfolding_all exact rfl) ?_; with_reducible refine Rf.wp_cons ?_; with_reducible refine Rf.wp_con ?_; with_reducible refine Rf.wp_cons ?_; with_reducible refine Rf.wp_con ?_; with_reducible refine Rf.wp_nil ?_)
  refine wp_eq (ev_is_number _ _ _) ?_
  (with_reducible refine Rf.exTru (by with_unfolding_all exact rfl) ?_)
  unfold rootB
  cases isNum 0 0 d with
  | true => (with_reducible refine Rf.ifT ?_; with_reducible refine Rf.rt_same ?_); exact ⟨rfl, rfl⟩
  | false =>
    (with_reducible refine Rf.ifF ?_; with_reducible refine Rf.wp_call ?_; with_reducible refine Rf.wp_cons ?_; with_reducible refine Rf.wp_varD (by with_unfolding_all exact rfl) ?_; with_reducible refine Rf.wp_cons ?_; with_reducible refine Rf.wp_bin ?_; with_reducible refine Rf.wp_con ?_; with_reducible refine Rf.wp_varD (by with_unfolding_all exact rfl) ?_; with_reducible refine Rf.add_int ?_; with_reducible refine Rf.wp_cons ?_; with_reducible refine Rf.wp_bin ?_; with_reducible refine Rf.wp_varD (by with_unfolding_all exact rfl) ?_; with_reducible refine Rf.wp_con ?_; with_reducible refine Rf.sub_int ?_; with_reducible refine Rf.wp_nil ?_)
    refine wp_eq (ev_is_number _ _ _) ?_
    (with_reducible refine Rf.rt_same ?_)
    exact ⟨rfl, rfl⟩
theorem shot_cases {size log : Int} {d : PyData} (h : shotB size log d = true) : ∃ z r, d = .tuple [.str z, r] ∧ isName (.str z) = true ∧ rootB size log r = true := by
  unfold shotB at h
  split at h
  · rename_i n r
    rw [Bool.and_eq_true] at h
    cases n with
    | str z => exact ⟨z, r, rfl, h.1, h.2⟩
    | _ => exact absurd h.1 (by simp [isName])
  · cases h
theorem upB_range : ∀ ss : List PyData, upB ss = (List.range (ss.length - 1)).all fun i => ltS (keyS (ss.getD i .none)) (keyS (ss.getD (i + 1) .none))
  | [] => rfl
  | [a] => rfl
  | a :: b :: r => by
    have ih := upB_range (b :: r)
    have e : (a :: b :: r).length - 1 = ((b :: r).length - 1) + 1 := by simp
    rw [e, List.range_succ_eq_map, List.all_cons, List.all_map]
    show (ltS (keyS a) (keyS b) && upB (b :: r)) = _
    rw [ih]
    rfl
theorem getD_some {ss : List PyData} {i : Nat} (h : i < ss.length) : ss[i]? = some (ss.getD i .none) := by
  rw [List.getD_eq_getElem?_getD, List.getElem?_eq_getElem h]; rfl
theorem shotsB_tup (size log : Int) (ss : List PyData) : shotsB size log (.tuple ss) = (decide (ss.length ≤ 6) && ss.all (shotB size log) && upB ss) := rfl
theorem shotB_two (size log : Int) (n r : PyData) : shotB size log (.tuple [n, r]) = (isName n && rootB size log r) := rfl
theorem ev_are_shots {size log : Int} {d : PyData} (tame : tameS d) : F__are_shots bs [.dat (.int size), .dat (.int log), .dat d] S = .ok (.dat (.bool (shotsB size log d))) S := by
  refine eq_of_wp ?_
  (unfold F__are_shots m__are_shots; with_reducible refine Rf.wp_fn rfl ?_; simp only [Rf.startE, List.map_cons, List.map_nil, List.length_cons, List.length_nil, Nat.reduceAdd, Nat.reduceSub, List.replicate, List.cons_append, List.nil_append])
  cases d with
  | tuple ss =>
    (with_reducible refine Rf.wp_seq ?_; with_reducible refine Rf.wp_sIf ?_; with_reducible refine Rf.wp_if ?_; with_reducible refine Rf.wp_not ?_; with_reducible refine Rf.wp_tru ?_; with_reducible refine Rf.wp_isi ?_; with_reducible refine Rf.wp_varD (by with_unfolding_all exact rfl) ?_; with_reducible refine Rf.isi_tup ?_; dsimp only [Rf.strB, Rf.intB, Rf.boolB, Rf.tupB, Rf.dicB, Rf.noneB]; with_reducible refine Rf.exTru (by with_unfolding_all exact rfl) ?_; with_reducible refine Rf.ifNT ?_; with_reducible refine Rf.wp_B ?_; with_reducible refine Rf.wp_bin ?_; with_reducible refine Rf.wp_CB ?_; with_reducible refine Rf.wp_cons ?_; with_reducible refine Rf.wp_varD (by with_unfolding_all exact rfl) ?_; with_reducible refine Rf.wp_nil ?_; with_reducible refine Rf.len_tup ?_; with_reducible refine Rf.wp_con ?_; with_reducible refine Rf.gt_int ?_; with_reducible refine Rf.isB_mk ?_)
    refine ifD (fun h6 => ?_) (fun h6 => ?_)
    · (with_reducible refine Rf.wp_ret ?_; with_reducible refine Rf.wp_con ?_; with_reducible refine Rf.rt_same ?_)
      refine ⟨?_, rfl⟩
      rw [shotsB_tup, show decide (ss.length ≤ 6) = false from decide_eq_false (by omega)]; rfl
    (with_reducible refine Rf.wp_sNil ?_; with_reducible refine Rf.wp_seq ?_; with_reducible refine Rf.wp_for ?_; with_reducible refine Rf.wp_itS ?_; with_reducible refine Rf.wp_varD (by with_unfolding_all exact rfl) ?_; with_reducible refine Rf.its_tup ?_)
    refine wp_items (f := W.dat) (xs := ss) (fun pre env S' => pre.all (shotB size log) = true ∧ ∃ x, env = [some (.dat (.int size)), some (.dat (.int log)), some (.dat (.tuple ss)), x, none] ∧ S' = S) ⟨rfl, none, rfl, rfl⟩ (fun pre s post env S' hx ⟨all, x, he, hS⟩ => ?_) (fun env S' ⟨all, x, he, hS⟩ => ?_)
    · subst he hS
      have bad : shotB size log s = false → shotsB size log (.tuple ss) = false := fun hb => by
        rw [shotsB_tup]
        have : ss.all (shotB size log) = false := by
          rw [Bool.eq_false_iff]; intro z
          have := List.all_eq_true.mp z s (by rw [hx]; simp)
          rw [hb] at this; cases this
        rw [this]; simp
      have good : shotB size log s = true → (pre ++ [s]).all (shotB size log) = true := fun hg => by simp [all, hg]
      (with_reducible refine Rf.wp_body ?_; with_reducible refine Rf.wp_name ?_; with_reducible refine Rf.wp_seq ?_; with_reducible refine Rf.wp_sIf ?_; with_reducible refine Rf.wp_if ?_; with_reducible refine Rf.wp_not ?_; with_reducible refine Rf.wp_tru ?_; with_reducible refine Rf.wp_isi ?_; with_reducible refine Rf.wp_varD (by with_unfolding_all exact rfl) ?_; with_reducible refine Rf.isi_tup ?_; dsimp only [Rf.strB, Rf.intB, Rf.boolB, Rf.tupB, Rf.dicB, Rf.noneB]; with_reducible refine Rf.exTru (by with_unfolding_all exact rfl) ?_)
      cases s with
      | tuple ms =>
        (with_reducible refine Rf.ifNT ?_; with_reducible refine Rf.wp_B ?_; with_reducible refine Rf.wp_bin ?_; with_reducible refine Rf.wp_CB ?_; with_reducible refine Rf.wp_cons ?_; with_reducible refine Rf.wp_varD (by with_unfolding_all exact rfl) ?_; with_reducible refine Rf.wp_nil ?_; with_reducible refine Rf.len_tup ?_; with_reducible refine Rf.wp_con ?_; with_reducible refine Rf.ne_int ?_; with_reducible refine Rf.isB_mk ?_)
        match ms, hx with
        | [], _ | [_], _ | _ :: _ :: _ :: _, _ =>
          refine ifNB (fun h2 => ?_) (fun h2 => ?_)
          · simp at h2
            try omega
          · (try array_get_dec)
            refine ⟨?_, rfl⟩
            rw [bad rfl]
        | [nm, r], hx =>
          refine ifNB (fun h2 => ?_) (fun h2 => by simp at h2)
          (with_reducible refine Rf.wp_sNil ?_; with_reducible refine Rf.wp_sIf ?_; with_reducible refine Rf.wp_if ?_; with_reducible refine Rf.wp_not ?_; with_reducible refine Rf.wp_tru ?_; with_reducible refine Rf.wp_call ?_; with_reducible refine Rf.wp_cons ?_; with_reducible refine Rf.wp_bin ?_; with_reducible refine Rf.wp_varD (by with_unfolding_all exact rfl) ?_; with_reducible refine Rf.wp_con ?_)
          refine ix_tup (d := nm) (atI_ofNat (n := 0) rfl) ?_
          (with_reducible refine Rf.wp_nil ?_)
          refine wp_eq (ev_is_name _ nm _ (tame _ (by rw [hx]; simp) nm r rfl)) ?_
          (with_reducible refine Rf.exTru (by with_unfolding_all exact rfl) ?_)
          refine ifNB (fun h3 => ?_) (fun h3 => ?_)
          · (with_reducible refine Rf.wp_not ?_; with_reducible refine Rf.wp_tru ?_; with_reducible refine Rf.wp_call ?_; with_reducible refine Rf.wp_cons ?_; with_reducible refine Rf.wp_varD (by with_unfolding_all exact rfl) ?_; with_reducible refine Rf.wp_cons ?_; with_reducible refine Rf.wp_varD (by with_unfolding_all exact rfl) ?_; with_reducible refine Rf.wp_cons ?_; with_reducible refine Rf.wp_bin ?_; with_reducible refine Rf.wp_varD (by with_unfolding_all exact rfl) ?_; with_reducible refine Rf.wp_con ?_)
            refine ix_tup (d := r) (atI_ofNat (n := 1) rfl) ?_
            (with_reducible refine Rf.wp_nil ?_)
            refine wp_eq (ev_is_root _ _ r) ?_
            (with_reducible refine Rf.exTru (by with_unfolding_all exact rfl) ?_)
            refine ifNB (fun h4 => ?_) (fun h4 => ?_)
            · (with_reducible refine Rf.wp_sNil ?_)
              exact ⟨good (by rw [shotB_two, h3, h4]; rfl), _, rfl, rfl⟩
            · (with_reducible refine Rf.wp_ret ?_; with_reducible refine Rf.wp_con ?_; with_reducible refine Rf.rt_same ?_)
              refine ⟨?_, rfl⟩
              rw [bad (by rw [shotB_two, h3, h4]; rfl)]
          · (with_reducible refine Rf.wp_ok ?_; with_reducible refine Rf.ifT ?_; with_reducible refine Rf.wp_ret ?_; with_reducible refine Rf.wp_con ?_; with_reducible refine Rf.rt_same ?_)
            refine ⟨?_, rfl⟩
            rw [bad (by rw [shotB_two, h3]; rfl)]
      | _ =>
        (try array_get_dec)
        refine ⟨?_, rfl⟩
        rw [bad rfl]
    · subst he hS
      (with_reducible refine Rf.wp_ret ?_; with_reducible refine Rf.wp_CB ?_; with_reducible refine Rf.wp_cons ?_; with_reducible refine Rf.wp_comp ?_; with_reducible refine Rf.wp_rng2 ?_; with_reducible refine Rf.wp_cons ?_; with_reducible refine Rf.wp_con ?_; with_reducible refine Rf.wp_cons ?_; with_reducible refine Rf.wp_CB ?_; with_reducible refine Rf.wp_cons ?_; with_reducible refine Rf.wp_varD (by with_unfolding_all exact rfl) ?_; with_reducible refine Rf.wp_nil ?_; with_reducible refine Rf.len_tup ?_; with_reducible refine Rf.wp_nil ?_; (with_reducible refine Rf.exRng2 ?_ ?_; omega))
      have atk : ∀ k : Nat, k < ss.length → ∃ z r, ss.getD k .none = .tuple [.str z, r] := fun k hk => by
        have hm : ss.getD k .none ∈ ss := by
          have := getD_some hk
          exact List.mem_of_getElem? this
        obtain ⟨z, r, e, _⟩ := shot_cases (List.all_eq_true.mp all _ hm)
        exact ⟨z, r, e⟩
      have eR : rangeW 1 (ss.length : Int) = (List.range (ss.length - 1)).map fun i : Nat => W.dat (.int (1 + (i : Int))) := by
        unfold rangeW
        rw [show ((ss.length : Int) - 1).toNat = ss.length - 1 by omega]
      rw [eR]
      refine wp_compM (f := fun i : Nat => W.dat (.int (1 + (i : Int)))) (xs := List.range (ss.length - 1)) (fun i => .dat (.bool (ltS (keyS (ss.getD i .none)) (keyS (ss.getD (i + 1) .none))))) (by rw [List.length_range]; omega) (fun i hi => ?_) ?_
      · have hi := List.mem_range.mp hi
        obtain ⟨z, r, e⟩ := atk i (by omega)
        obtain ⟨z', r', e'⟩ := atk (i + 1) (by omega)
        (with_reducible refine Rf.wp_bin ?_; with_reducible refine Rf.wp_bin ?_; with_reducible refine Rf.wp_bin ?_; with_reducible refine Rf.wp_varD (by with_unfolding_all exact rfl) ?_; with_reducible refine Rf.wp_bin ?_; with_reducible refine Rf.wp_varD (by with_unfolding_all exact rfl) ?_; with_reducible refine Rf.wp_con ?_; with_reducible refine Rf.sub_int ?_)
        rw [show (1 + (i : Int) - 1) = ((i : Nat) : Int) by omega]
        refine ix_tup (d := ss.getD i .none) (atI_ofNat (getD_some (by omega))) ?_
        rw [e]
        (with_reducible refine Rf.wp_con ?_)
        refine ix_tup (d := .str z) (atI_ofNat (n := 0) rfl) ?_
        (with_reducible refine Rf.wp_bin ?_; with_reducible refine Rf.wp_bin ?_; with_reducible refine Rf.wp_varD (by with_unfolding_all exact rfl) ?_; with_reducible refine Rf.wp_varD (by with_unfolding_all exact rfl) ?_)
        rw [show (1 + (i : Int)) = ((i + 1 : Nat) : Int) by omega]
        refine ix_tup (d := ss.getD (i + 1) .none) (atI_ofNat (getD_some (by omega))) ?_
        rw [e']
        (with_reducible refine Rf.wp_con ?_)
        refine ix_tup (d := .str z') (atI_ofNat (n := 0) rfl) ?_
        (with_reducible refine Rf.lt_str ?_)
        exact ⟨rfl, rfl⟩
      · (with_reducible refine Rf.nl_map ?_; with_reducible refine Rf.wp_nil ?_; with_reducible refine Rf.all_map ?_; with_reducible refine Rf.rt_same ?_)
        refine ⟨?_, rfl⟩
        rw [shotsB_tup, all, upB_range, show decide (ss.length ≤ 6) = true from decide_eq_true (by omega)]
        rfl
  | _ =>
    (try array_get_dec)
    exact ⟨rfl, rfl⟩
theorem headB_five (size : Int) (t l n r ss : PyData) : headB size (.tuple [t, l, n, r, ss]) = (isNum 1 999999999999999999 t && isNum 1 999999999999999999 n && isNum 4 (mlog size) l && (match l with | .int l => rootB size l r && shotsB size l ss | _ => false)) := by
  cases l with
  | int l => simp only [headB, Bool.and_assoc]
  | _ => simp [headB, isNum]
theorem num_int {lo hi : Int} {d : PyData} (h : isNum lo hi d = true) : ∃ i : Int, d = .int i ∧ lo ≤ i ∧ i ≤ hi := by
  unfold isNum at h
  split at h
  · rename_i i; rw [Bool.and_eq_true, decide_eq_true_eq, decide_eq_true_eq] at h; exact ⟨i, rfl, h⟩
  · cases h
theorem tame_ss {t l n r ss : PyData} (h : tameH (.tuple [t, l, n, r, ss])) : tameS ss := h
theorem headB_len {size : Int} {ms : List PyData} (h : ms.length ≠ 5) : headB size (.tuple ms) = false := by
  unfold headB
  split
  · rename_i e; cases e; simp at h
  · rfl
theorem ev_fits {size : Int} {d : PyData} (tame : tameH d) : F__fits bs [.dat (.int size), .dat d] S = .ok (.dat (.bool (headB size d))) S := by
  refine eq_of_wp ?_
  (unfold F__fits m__fits; with_reducible refine Rf.wp_fn rfl ?_; simp only [Rf.startE, List.map_cons, List.map_nil, List.length_cons, List.length_nil, Nat.reduceAdd, Nat.reduceSub, List.replicate, List.cons_append, List.nil_append])
  cases d with
  | tuple ms =>
    (with_reducible refine Rf.wp_seq ?_; with_reducible refine Rf.wp_sIf ?_; with_reducible refine Rf.wp_if ?_; with_reducible refine Rf.wp_not ?_; with_reducible refine Rf.wp_tru ?_; with_reducible refine Rf.wp_isi ?_; with_reducible refine Rf.wp_varD (by with_unfolding_all exact rfl) ?_; with_reducible refine Rf.isi_tup ?_; dsimp only [Rf.strB, Rf.intB, Rf.boolB, Rf.tupB, Rf.dicB, Rf.noneB]; with_reducible refine Rf.exTru (by with_unfolding_all exact rfl) ?_; with_reducible refine Rf.ifNT ?_; with_reducible refine Rf.wp_B ?_; with_reducible refine Rf.wp_bin ?_; with_reducible refine Rf.wp_CB ?_; with_reducible refine Rf.wp_cons ?_; with_reducible refine Rf.wp_varD (by with_unfolding_all exact rfl) ?_; with_reducible refine Rf.wp_nil ?_; with_reducible refine Rf.len_tup ?_; with_reducible refine Rf.wp_con ?_; with_reducible refine Rf.ne_int ?_; with_reducible refine Rf.isB_mk ?_)
    match ms with
    | [] | [_] | [_, _] | [_, _, _] | [_, _, _, _] | _ :: _ :: _ :: _ :: _ :: _ :: _ =>
      refine ifNB (fun h2 => ?_) (fun h2 => ?_)
      · simp at h2
        try omega
      · (try array_get_dec)
        rw [headB_len (by simp)]
        exact ⟨rfl, rfl⟩
    | [t, l, n, r, ss] =>
      refine ifNB (fun h2 => ?_) (fun h2 => by simp at h2)
      (with_reducible refine Rf.wp_sNil ?_; with_reducible refine Rf.wp_seq ?_; with_reducible refine Rf.wp_asg ?_; with_reducible refine Rf.wp_varD (by with_unfolding_all exact rfl) ?_)
      refine wp_tTup (ws := [.dat t, .dat l, .dat n, .dat r, .dat ss]) rfl rfl ?_
      refine wp_tCons (wp_name (wp_tCons (wp_name (wp_tCons (wp_name (wp_tCons (wp_name (wp_tCons (wp_name (wp_tNil ?_))))))))))
      (with_reducible refine Rf.wp_seq ?_; with_reducible refine Rf.wp_sIf ?_; with_reducible refine Rf.wp_if ?_; with_reducible refine Rf.wp_not ?_; with_reducible refine Rf.wp_tru ?_; with_reducible refine Rf.wp_call ?_; with_reducible refine Rf.wp_cons ?_; with_reducible refine Rf.wp_varD (by with_unfolding_all exact rfl) ?_; with_reducible refine Rf.wp_cons ?_; with_reducible refine Rf.wp_con ?_; with_reducible refine Rf.wp_cons ?_; with_reducible refine Rf.wp_con ?_; with_reducible refine Rf.wp_nil ?_)
      rw [headB_five]
      refine wp_eq (ev_is_number _ _ _) ?_
      (with_reducible refine Rf.exTru (by with_unfolding_all exact rfl) ?_)
      refine ifNB (fun h3 => ?_) (fun h3 => ?_)
      · (with_reducible refine Rf.wp_not ?_; with_reducible refine Rf.wp_tru ?_; with_reducible refine Rf.wp_call ?_; with_reducible refine Rf.wp_cons ?_; with_reducible refine Rf.wp_varD (by with_unfolding_all exact rfl) ?_; with_reducible refine Rf.wp_cons ?_; with_reducible refine Rf.wp_con ?_; with_reducible refine Rf.wp_cons ?_; with_reducible refine Rf.wp_con ?_; with_reducible refine Rf.wp_nil ?_)
        refine wp_eq (ev_is_number _ _ _) ?_
        (with_reducible refine Rf.exTru (by with_unfolding_all exact rfl) ?_)
        refine ifNB (fun h4 => ?_) (fun h4 => ?_)
        · (with_reducible refine Rf.wp_sNil ?_; with_reducible refine Rf.wp_seq ?_; with_reducible refine Rf.wp_sIf ?_; with_reducible refine Rf.wp_not ?_; with_reducible refine Rf.wp_tru ?_; with_reducible refine Rf.wp_call ?_; with_reducible refine Rf.wp_cons ?_; with_reducible refine Rf.wp_varD (by with_unfolding_all exact rfl) ?_; with_reducible refine Rf.wp_cons ?_; with_reducible refine Rf.wp_con ?_; with_reducible refine Rf.wp_cons ?_; with_reducible refine Rf.wp_CB ?_; with_reducible refine Rf.wp_cons ?_; with_reducible refine Rf.wp_con ?_; with_reducible refine Rf.wp_cons ?_; with_reducible refine Rf.wp_bin ?_; with_reducible refine Rf.wp_bin ?_; with_reducible refine Rf.wp_varD (by with_unfolding_all exact rfl) ?_; with_reducible refine Rf.wp_con ?_; with_reducible refine Rf.sub_int ?_; with_reducible refine Rf.wp_con ?_; with_reducible refine Rf.sub_int ?_; with_reducible refine Rf.wp_nil ?_; with_reducible refine Rf.min_int ?_; with_reducible refine Rf.wp_nil ?_)
          have em : (if size - 2 - 16 < 40 then size - 2 - 16 else 40) = mlog size := by unfold mlog; split <;> split <;> omega
          rw [em]
          refine wp_eq (ev_is_number _ _ _) ?_
          (with_reducible refine Rf.exTru (by with_unfolding_all exact rfl) ?_)
          refine ifNB (fun h5 => ?_) (fun h5 => ?_)
          · obtain ⟨i, rfl, _⟩ := num_int h5
            (dsimp only [Rf.strB, Rf.intB, Rf.boolB, Rf.tupB, Rf.dicB, Rf.noneB]; with_reducible refine Rf.wp_sNil ?_; with_reducible refine Rf.wp_ret ?_; with_reducible refine Rf.wp_andV ?_; with_reducible refine Rf.wp_call ?_; with_reducible refine Rf.wp_cons ?_; with_reducible refine Rf.wp_varD (by with_unfolding_all exact rfl) ?_; with_reducible refine Rf.wp_cons ?_; with_reducible refine Rf.wp_varD (by with_unfolding_all exact rfl) ?_; with_reducible refine Rf.wp_cons ?_; with_reducible refine Rf.wp_varD (by with_unfolding_all exact rfl) ?_; with_reducible refine Rf.wp_nil ?_)
            refine wp_eq (ev_is_root _ _ r) ?_
            (with_reducible refine Rf.exTru (by with_unfolding_all exact rfl) ?_)
            rw [h3, h4, h5]
            cases rootB size i r with
            | false => (with_reducible refine Rf.ifF ?_; with_reducible refine Rf.rt_same ?_); exact ⟨rfl, rfl⟩
            | true =>
              (with_reducible refine Rf.ifT ?_; with_reducible refine Rf.wp_call ?_; with_reducible refine Rf.wp_cons ?_; with_reducible refine Rf.wp_varD (by with_unfolding_all exact rfl) ?_; with_reducible refine Rf.wp_cons ?_; with_reducible refine Rf.wp_varD (by with_unfolding_all exact rfl) ?_; with_reducible refine Rf.wp_cons ?_; with_reducible refine Rf.wp_varD (by with_unfolding_all exact rfl) ?_; with_reducible refine Rf.wp_nil ?_)
              refine wp_eq (ev_are_shots (tame_ss tame)) ?_
              (with_reducible refine Rf.rt_same ?_)
              exact ⟨rfl, rfl⟩
          · (with_reducible refine Rf.wp_ret ?_; with_reducible refine Rf.wp_con ?_; with_reducible refine Rf.rt_same ?_)
            refine ⟨?_, rfl⟩
            rw [h3, h4, h5]; rfl
        · (with_reducible refine Rf.wp_ret ?_; with_reducible refine Rf.wp_con ?_; with_reducible refine Rf.rt_same ?_)
          refine ⟨?_, rfl⟩
          rw [h3, h4]; rfl
      · (with_reducible refine Rf.wp_ok ?_; with_reducible refine Rf.ifT ?_; with_reducible refine Rf.wp_ret ?_; with_reducible refine Rf.wp_con ?_; with_reducible refine Rf.rt_same ?_)
        refine ⟨?_, rfl⟩
        rw [h3]; rfl
  | _ =>
    (try array_get_dec)
    exact ⟨rfl, rfl⟩
end
end V

namespace V
open PySem L2 PyProof.Rows Rf Nm

def rootO (size log : Int) : PyData → Bool
  | .int i => (decide (0 ≤ i) && decide (i ≤ size - 1)) && !(decide (0 < i) && decide (i < 2 + log))
  | _ => false
theorem root_own {size log : Int} (h : 24 ≤ size) (hl : 4 ≤ log) (d : PyData) : rootO size log d = rootB size log d := by
  unfold rootO rootB isNum
  cases d with
  | int i =>
    dsimp only
    rw [Bool.eq_iff_iff]
    simp only [Bool.and_eq_true, Bool.or_eq_true, Bool.not_eq_true', decide_eq_true_eq, Bool.and_eq_false_iff, decide_eq_false_iff_not]
    omega
  | _ => rfl
def fineS : PyData → Prop
  | .tuple ss => ∀ s ∈ ss, PD 10 s
  | _ => True
def fineH : PyData → Prop
  | .tuple [_, _, _, r, ss] => PD 10 r ∧ fineS ss
  | _ => True
def seconds : PyData → PyData
  | .tuple [_, r] => r
  | _ => .none
theorem nil_of {d : PyData} {ds : List PyData} (p : ∀ x ∈ ds, PD 10 x) {bs : List Nat} {S : Store} {neg : Bool} {Q : W → Store → Prop} (q : Q (.dat (.bool (ds.isEmpty != neg))) S) : wpo (eqF neg bs (.dat (.list ds)) (.dat (.list [])) S) Q := by
  refine eq_pd (pd_lst p) (pd_lst (n := 0) (fun _ h => nomatch h)) (by decide) ?_
  have e : PyData.eqv (.list ds) (.list []) = ds.isEmpty := by
    cases ds with
    | nil => rfl
    | cons a l => simp [PyData.eqv, PyData.eqvAll]
  rw [e]; exact q
section
variable {bs : List Nat} {S : Store} {n : Nat} {E : EK} {Q : W → Store → Prop}
theorem filter_none {α : Type} {p : α → Bool} {f : α → PyData} (l : List α) : ((l.filterMap fun x => if p x = true then some (W.dat (f x)) else none)) = ((l.filter p).map f).map .dat := by
  induction l with
  | nil => rfl
  | cons x l ih => by_cases h : p x = true <;> simp [h, ih]
theorem filter_empty {α : Type} {p : α → Bool} {f : α → PyData} (l : List α) : ((l.filter p).map f).isEmpty = l.all fun x => !p x := by
  induction l with
  | nil => rfl
  | cons x l ih => by_cases h : p x = true <;> simp_all
theorem ev_law_is_name {d : PyData} (h : shortS d) : F__law_is_name bs [.dat d] S = .ok (.dat (.bool (isName d))) S := by
  refine eq_of_wp ?_
  (unfold F__law_is_name m__law_is_name; with_reducible refine Rf.wp_fn rfl ?_; simp only [Rf.startE, List.map_cons, List.map_nil, List.length_cons, List.length_nil, Nat.reduceAdd, Nat.reduceSub, List.replicate, List.cons_append, List.nil_append])
  cases d with
  | str z =>
    (with_reducible refine Rf.wp_seq ?_; with_reducible refine Rf.wp_sIf ?_; with_reducible refine Rf.wp_if ?_; with_reducible refine Rf.wp_not ?_; with_reducible refine Rf.wp_tru ?_; with_reducible refine Rf.wp_isi ?_; with_reducible refine Rf.wp_varD (by with_unfolding_all exact rfl) ?_; with_reducible refine Rf.isi_str ?_; dsimp only [Rf.strB, Rf.intB, Rf.boolB, Rf.tupB, Rf.dicB, Rf.noneB]; with_reducible refine Rf.exTru (by with_unfolding_all exact rfl) ?_; with_reducible refine Rf.ifNT ?_; with_reducible refine Rf.wp_not ?_; with_reducible refine Rf.wp_B ?_; with_reducible refine Rf.wp_chain ?_; with_reducible refine Rf.wp_con ?_; with_reducible refine Rf.wp_CB ?_; with_reducible refine Rf.wp_cons ?_; with_reducible refine Rf.wp_varD (by with_unfolding_all exact rfl) ?_; with_reducible refine Rf.wp_nil ?_)
    refine len_str (h z rfl) ?_
    (with_reducible refine Rf.le_int ?_; with_reducible refine Rf.isB_mk ?_)
    have e := str_len z
    refine ifD (fun h1 => ?_) (fun h1 => ?_)
    · (with_reducible refine Rf.wp_con ?_; with_reducible refine Rf.le_int ?_; with_reducible refine Rf.isB_mk ?_)
      refine ifN (fun h2 => ?_) (fun h2 => ?_)
      · (with_reducible refine Rf.wp_sNil ?_; with_reducible refine Rf.wp_ret ?_; with_reducible refine Rf.wp_bin ?_; with_reducible refine Rf.wp_comp ?_; with_reducible refine Rf.wp_itS ?_; with_reducible refine Rf.wp_varD (by with_unfolding_all exact rfl) ?_; with_reducible refine Rf.its_str ?_)
        refine wp_compP (f := fun c => W.dat (.str ⟨#[c]⟩)) (xs := z.cps.toList) (fun c => if (!letB c) = true then some (.dat (.str ⟨#[c]⟩)) else none) (by have := h z rfl; omega) (fun c hc => ?_) ?_
        · (with_reducible refine Rf.wp_name ?_; with_reducible refine Rf.wp_B ?_; with_reducible refine Rf.wp_bin ?_; with_reducible refine Rf.wp_varD (by with_unfolding_all exact rfl) ?_; with_reducible refine Rf.wp_con ?_)
          refine in_sign ?_
          rw [mem_alpha]
          (with_reducible refine Rf.isB_mk ?_)
          refine ⟨fun hb => ?_, fun hb => ?_⟩
          · have hb' : (!letB c) = true := by simpa using hb
            (with_reducible refine Rf.wp_varD (by with_unfolding_all exact rfl) ?_)
            exact ⟨by rw [if_pos hb'], rfl⟩
          · have hb' : ¬ (!letB c) = true := by simpa using hb
            exact ⟨by rw [if_neg hb'], rfl⟩
        · rw [filter_none (p := fun c => !letB c) (f := fun c => PyData.str ⟨#[c]⟩)]
          (with_reducible refine Rf.nl_dat ?_; with_reducible refine Rf.wp_lst ?_; with_reducible refine Rf.wp_nil ?_; with_reducible refine Rf.lp_dat (by with_unfolding_all exact rfl) (by with_unfolding_all exact rfl) ?_)
          refine nil_of (d := .none) (fun x hx => ?_) ?_
          · obtain ⟨c, _, rfl⟩ := List.mem_map.mp hx
            exact pd_str _
          rw [filter_empty]
          (with_reducible refine Rf.rt_same ?_)
          refine ⟨?_, rfl⟩
          have e1 : decide (1 ≤ z.cps.toList.length) = true := decide_eq_true (by omega)
          have e2 : decide (z.cps.toList.length ≤ 8) = true := decide_eq_true (by omega)
          simp only [isName, nameB, e1, e2, Bool.true_and, Bool.not_not, Bool.bne_false]
      · (with_reducible refine Rf.wp_ret ?_; with_reducible refine Rf.wp_con ?_; with_reducible refine Rf.rt_same ?_)
        refine ⟨?_, rfl⟩
        have e2 : decide (z.cps.toList.length ≤ 8) = false := decide_eq_false (by omega)
        simp only [isName, nameB, e2, Bool.and_false, Bool.false_and]
    · (with_reducible refine Rf.isB_mk ?_; with_reducible refine Rf.ifNF ?_; with_reducible refine Rf.wp_ret ?_; with_reducible refine Rf.wp_con ?_; with_reducible refine Rf.rt_same ?_)
      refine ⟨?_, rfl⟩
      have e2 : decide (1 ≤ z.cps.toList.length) = false := decide_eq_false (by omega)
      simp only [isName, nameB, e2, Bool.false_and]
  | _ =>
    (try array_get_dec)
    exact ⟨rfl, rfl⟩
end
end V

namespace V
open PySem L2 PyProof.Rows Rf Nm

section
variable {bs : List Nat} {S : Store} {n : Nat} {E : EK} {Q : W → Store → Prop}
theorem zip_up : ∀ ss : List PyData, ((((ss.map W.dat).zip ((ss.drop 1).map W.dat)).filterMap fun p => if (match p with | (.dat a, .dat b) => !ltS (keyS a) (keyS b) | _ => false) = true then some (W.dat (.int 1)) else none)) = ((ss.zip (ss.drop 1)).filter fun p => !ltS (keyS p.1) (keyS p.2)).map fun _ => W.dat (.int 1) := by
  intro ss
  rw [List.zip_map, List.filterMap_map]
  generalize ss.zip (ss.drop 1) = l
  induction l with
  | nil => rfl
  | cons p l ih =>
    rw [List.filterMap_cons, List.filter_cons]
    by_cases h : (!ltS (keyS p.1) (keyS p.2)) = true
    · rw [if_pos h, List.map_cons, ← ih]
      simp only [Function.comp, Prod.map, if_pos h]
    · rw [if_neg h, ← ih]
      simp only [Function.comp, Prod.map, if_neg h]
theorem upB_zip : ∀ ss : List PyData, (ss.zip (ss.drop 1)).all (fun p => ltS (keyS p.1) (keyS p.2)) = upB ss
  | [] => rfl
  | [a] => rfl
  | a :: b :: r => by
    have ih := upB_zip (b :: r)
    show (ltS (keyS a) (keyS b) && ((b :: r).zip ((b :: r).drop 1)).all fun p => ltS (keyS p.1) (keyS p.2)) = _
    rw [ih]; rfl
theorem nm0_cases {d : PyData} (h : nm0 d = true) : ∃ z r, d = .tuple [.str z, r] := by
  unfold nm0 at h
  split at h
  · rename_i n r
    cases n with
    | str z => exact ⟨z, r, rfl⟩
    | _ => exact absurd h (by simp [isName])
  · cases h
theorem shots_parts {size log : Int} (ss : List PyData) : ss.all (shotB size log) = (ss.all nm0 && ss.all fun s => rootB size log (seconds s)) := by
  induction ss with
  | nil => rfl
  | cons s ss ih =>
    rw [List.all_cons, List.all_cons, List.all_cons, ih]
    have : shotB size log s = (nm0 s && rootB size log (seconds s)) := by
      cases s with
      | tuple l => rcases l with _ | ⟨n, _ | ⟨r, _ | ⟨z, l⟩⟩⟩ <;> rfl
      | _ => rfl
    rw [this]
    cases nm0 s <;> cases rootB size log (seconds s) <;> simp
theorem second_pd {a b : PyData} (h : PD 10 (.tuple [a, b])) : PD 10 b := by
  obtain ⟨h1, h2⟩ := h
  simp only [PyData.plain, PyData.plainAll, Bool.and_eq_true] at h1
  simp only [PyData.depth, PyData.depthAll] at h2
  exact ⟨h1.2.1, by omega⟩
theorem ev_law_is_head {size : Int} (hs : 24 ≤ size) {d : PyData} (tame : tameH d) (fine : fineH d) : F__law_is_head bs [.dat (.int size), .dat d] S = .ok (.dat (.bool (headB size d))) S := by
  refine eq_of_wp ?_
  (unfold F__law_is_head m__law_is_head; with_reducible refine Rf.wp_fn rfl ?_; simp only [Rf.startE, List.map_cons, List.map_nil, List.length_cons, List.length_nil, Nat.reduceAdd, Nat.reduceSub, List.replicate, List.cons_append, List.nil_append])
  cases d with
  | tuple ms =>
    (with_reducible refine Rf.wp_seq ?_; with_reducible refine Rf.wp_sIf ?_; with_reducible refine Rf.wp_if ?_; with_reducible refine Rf.wp_not ?_; with_reducible refine Rf.wp_tru ?_; with_reducible refine Rf.wp_isi ?_; with_reducible refine Rf.wp_varD (by with_unfolding_all exact rfl) ?_; with_reducible refine Rf.isi_tup ?_; dsimp only [Rf.strB, Rf.intB, Rf.boolB, Rf.tupB, Rf.dicB, Rf.noneB]; with_reducible refine Rf.exTru (by with_unfolding_all exact rfl) ?_; with_reducible refine Rf.ifNT ?_; with_reducible refine Rf.wp_if ?_; with_reducible refine Rf.wp_B ?_; with_reducible refine Rf.wp_bin ?_; with_reducible refine Rf.wp_CB ?_; with_reducible refine Rf.wp_cons ?_; with_reducible refine Rf.wp_varD (by with_unfolding_all exact rfl) ?_; with_reducible refine Rf.wp_nil ?_; with_reducible refine Rf.len_tup ?_; with_reducible refine Rf.wp_con ?_; with_reducible refine Rf.ne_int ?_; with_reducible refine Rf.isB_mk ?_)
    match ms with
    | [] | [_] | [_, _] | [_, _, _] | [_, _, _, _] | _ :: _ :: _ :: _ :: _ :: _ :: _ =>
      refine ifNB (fun h2 => ?_) (fun h2 => ?_)
      · simp at h2
        try omega
      · (try array_get_dec)
        rw [headB_len (by simp)]
        exact ⟨rfl, rfl⟩
    | [t, l, n, r, ss] =>
      have em : (if size - 18 < 40 then size - 18 else 40) = mlog size := rfl
      have ts := tame_ss tame
      obtain ⟨fr, fs⟩ : PD 10 r ∧ fineS ss := fine
      refine ifNB (fun h2 => ?_) (fun h2 => by simp at h2)
      (with_reducible refine Rf.wp_not ?_; with_reducible refine Rf.wp_tru ?_; with_reducible refine Rf.wp_call ?_; with_reducible refine Rf.wp_cons ?_; with_reducible refine Rf.wp_bin ?_; with_reducible refine Rf.wp_varD (by with_unfolding_all exact rfl) ?_; with_reducible refine Rf.wp_con ?_)
      refine ix_tup (d := l) (atI_ofNat (n := 1) rfl) ?_
      (with_reducible refine Rf.wp_cons ?_; with_reducible refine Rf.wp_con ?_; with_reducible refine Rf.wp_cons ?_; with_reducible refine Rf.wp_CB ?_; with_reducible refine Rf.wp_cons ?_; with_reducible refine Rf.wp_con ?_; with_reducible refine Rf.wp_cons ?_; with_reducible refine Rf.wp_bin ?_; with_reducible refine Rf.wp_varD (by with_unfolding_all exact rfl) ?_; with_reducible refine Rf.wp_con ?_; with_reducible refine Rf.sub_int ?_; with_reducible refine Rf.wp_nil ?_; with_reducible refine Rf.min_int ?_; with_reducible refine Rf.wp_nil ?_)
      rw [em]
      refine wp_eq (ev_law_is_cell _ _ _) ?_
      (with_reducible refine Rf.exTru (by with_unfolding_all exact rfl) ?_)
      rw [headB_five]
      refine ifNB (fun h5 => ?_) (fun h5 => ?_)
      rotate_left
      · (with_reducible refine Rf.wp_ret ?_; with_reducible refine Rf.wp_con ?_; with_reducible refine Rf.rt_same ?_)
        refine ⟨?_, rfl⟩
        rw [h5]; simp
      obtain ⟨i, rfl, i4, _⟩ := num_int h5
      (dsimp only [Rf.strB, Rf.intB, Rf.boolB, Rf.tupB, Rf.dicB, Rf.noneB]; with_reducible refine Rf.wp_sNil ?_; with_reducible refine Rf.wp_seq ?_; with_reducible refine Rf.wp_asg ?_; with_reducible refine Rf.wp_varD (by with_unfolding_all exact rfl) ?_)
      refine wp_tTup (ws := [.dat t, .dat (.int i), .dat n, .dat r, .dat ss]) rfl rfl ?_
      refine wp_tCons (wp_name (wp_tCons (wp_name (wp_tCons (wp_name (wp_tCons (wp_name (wp_tCons (wp_name (wp_tNil ?_))))))))))
      (with_reducible refine Rf.wp_seq ?_; with_reducible refine Rf.wp_sIf ?_; with_reducible refine Rf.wp_if ?_; with_reducible refine Rf.wp_not ?_; with_reducible refine Rf.wp_tru ?_; with_reducible refine Rf.wp_call ?_; with_reducible refine Rf.wp_cons ?_; with_reducible refine Rf.wp_varD (by with_unfolding_all exact rfl) ?_; with_reducible refine Rf.wp_cons ?_; with_reducible refine Rf.wp_con ?_; with_reducible refine Rf.wp_cons ?_; with_reducible refine Rf.wp_bin ?_; with_reducible refine Rf.wp_bin ?_; with_reducible refine Rf.wp_con ?_; with_reducible refine Rf.wp_con ?_)
      refine pow_int (r := 1000000000000000000) (by decide) (by decide) ?_
      (with_reducible refine Rf.wp_con ?_; with_reducible refine Rf.sub_int ?_; with_reducible refine Rf.wp_nil ?_)
      refine wp_eq (ev_law_is_cell _ _ _) ?_
      (with_reducible refine Rf.exTru (by with_unfolding_all exact rfl) ?_)
      refine ifNB (fun h3 => ?_) (fun h3 => ?_)
      rotate_left
      · (with_reducible refine Rf.wp_ok ?_; with_reducible refine Rf.ifT ?_; with_reducible refine Rf.wp_ret ?_; with_reducible refine Rf.wp_con ?_; with_reducible refine Rf.rt_same ?_)
        refine ⟨?_, rfl⟩
        have h3' : isNum 1 999999999999999999 t = false := h3
        rw [h3']; simp
      have h3' : isNum 1 999999999999999999 t = true := h3
      (with_reducible refine Rf.wp_not ?_; with_reducible refine Rf.wp_tru ?_; with_reducible refine Rf.wp_call ?_; with_reducible refine Rf.wp_cons ?_; with_reducible refine Rf.wp_varD (by with_unfolding_all exact rfl) ?_; with_reducible refine Rf.wp_cons ?_; with_reducible refine Rf.wp_con ?_; with_reducible refine Rf.wp_cons ?_; with_reducible refine Rf.wp_bin ?_; with_reducible refine Rf.wp_bin ?_; with_reducible refine Rf.wp_con ?_; with_reducible refine Rf.wp_con ?_)
      refine pow_int (r := 1000000000000000000) (by decide) (by decide) ?_
      (with_reducible refine Rf.wp_con ?_; with_reducible refine Rf.sub_int ?_; with_reducible refine Rf.wp_nil ?_)
      refine wp_eq (ev_law_is_cell _ _ _) ?_
      (with_reducible refine Rf.exTru (by with_unfolding_all exact rfl) ?_)
      refine ifNB (fun h4 => ?_) (fun h4 => ?_)
      rotate_left
      · (with_reducible refine Rf.wp_ret ?_; with_reducible refine Rf.wp_con ?_; with_reducible refine Rf.rt_same ?_)
        refine ⟨?_, rfl⟩
        have h4' : isNum 1 999999999999999999 n = false := h4
        rw [h3', h4']; simp
      have h4' : isNum 1 999999999999999999 n = true := h4
      rw [h3', h4', h5]
      (with_reducible refine Rf.wp_sNil ?_; with_reducible refine Rf.wp_seq ?_; with_reducible refine Rf.wp_sIf ?_; with_reducible refine Rf.wp_if ?_; with_reducible refine Rf.wp_not ?_; with_reducible refine Rf.wp_tru ?_; with_reducible refine Rf.wp_isi ?_; with_reducible refine Rf.wp_varD (by with_unfolding_all exact rfl) ?_; with_reducible refine Rf.isi_tup ?_; dsimp only [Rf.strB, Rf.intB, Rf.boolB, Rf.tupB, Rf.dicB, Rf.noneB]; with_reducible refine Rf.exTru (by with_unfolding_all exact rfl) ?_)
      cases ss with
      | tuple ss =>
        (with_reducible refine Rf.ifNT ?_; with_reducible refine Rf.wp_B ?_; with_reducible refine Rf.wp_bin ?_; with_reducible refine Rf.wp_CB ?_; with_reducible refine Rf.wp_cons ?_; with_reducible refine Rf.wp_varD (by with_unfolding_all exact rfl) ?_; with_reducible refine Rf.wp_nil ?_; with_reducible refine Rf.len_tup ?_; with_reducible refine Rf.wp_con ?_; with_reducible refine Rf.gt_int ?_; with_reducible refine Rf.isB_mk ?_)
        refine ifD (fun h6 => ?_) (fun h6 => ?_)
        · (with_reducible refine Rf.wp_ret ?_; with_reducible refine Rf.wp_con ?_; with_reducible refine Rf.rt_same ?_)
          refine ⟨?_, rfl⟩
          rw [shotsB_tup, show decide (ss.length ≤ 6) = false from decide_eq_false (by omega)]; simp
        (with_reducible refine Rf.wp_sNil ?_; with_reducible refine Rf.wp_seq ?_; with_reducible refine Rf.wp_sIf ?_; with_reducible refine Rf.wp_B ?_; with_reducible refine Rf.wp_bin ?_; with_reducible refine Rf.wp_comp ?_; with_reducible refine Rf.wp_itS ?_; with_reducible refine Rf.wp_varD (by with_unfolding_all exact rfl) ?_; with_reducible refine Rf.its_tup ?_)
        have hl : ss.length ≤ 6 := by omega
        refine wp_compP (f := W.dat) (xs := ss) (fun s => if (!nm0 s) = true then some (.dat s) else none) (by omega) (fun s hm => ?_) ?_
        · (with_reducible refine Rf.wp_name ?_; with_reducible refine Rf.wp_if ?_; with_reducible refine Rf.wp_not ?_; with_reducible refine Rf.wp_tru ?_; with_reducible refine Rf.wp_isi ?_; with_reducible refine Rf.wp_varD (by with_unfolding_all exact rfl) ?_; with_reducible refine Rf.isi_tup ?_; dsimp only [Rf.strB, Rf.intB, Rf.boolB, Rf.tupB, Rf.dicB, Rf.noneB]; with_reducible refine Rf.exTru (by with_unfolding_all exact rfl) ?_)
          cases s with
          | tuple ms =>
            (with_reducible refine Rf.ifNT ?_; with_reducible refine Rf.wp_if ?_; with_reducible refine Rf.wp_B ?_; with_reducible refine Rf.wp_bin ?_; with_reducible refine Rf.wp_CB ?_; with_reducible refine Rf.wp_cons ?_; with_reducible refine Rf.wp_varD (by with_unfolding_all exact rfl) ?_; with_reducible refine Rf.wp_nil ?_; with_reducible refine Rf.len_tup ?_; with_reducible refine Rf.wp_con ?_; with_reducible refine Rf.ne_int ?_; with_reducible refine Rf.isB_mk ?_)
            match ms, hm with
            | [], _ | [_], _ | _ :: _ :: _ :: _, _ =>
              refine ⟨fun h2 => ?_, fun h2 => ?_⟩
              · (try array_get_dec)
                exact ⟨if_pos rfl, rfl⟩
              · simp at h2
                try omega
            | [nm, z], hm =>
              refine ⟨fun h2 => by simp at h2, fun h2 => ?_⟩
              (with_reducible refine Rf.wp_not ?_; with_reducible refine Rf.wp_tru ?_; with_reducible refine Rf.wp_call ?_; with_reducible refine Rf.wp_cons ?_; with_reducible refine Rf.wp_bin ?_; with_reducible refine Rf.wp_varD (by with_unfolding_all exact rfl) ?_; with_reducible refine Rf.wp_con ?_)
              refine ix_tup (d := nm) (atI_ofNat (n := 0) rfl) ?_
              (with_reducible refine Rf.wp_nil ?_)
              refine wp_eq (ev_law_is_name (ts _ hm nm z rfl)) ?_
              (with_reducible refine Rf.exTru (by with_unfolding_all exact rfl) ?_)
              refine ⟨fun h7 => ?_, fun h7 => ?_⟩
              · (with_reducible refine Rf.wp_varD (by with_unfolding_all exact rfl) ?_)
                exact ⟨if_pos h7, rfl⟩
              · exact ⟨by rw [if_neg (by rw [show (!nm0 (.tuple [nm, z])) = false from h7]; decide)], rfl⟩
          | _ =>
            (try array_get_dec)
            exact ⟨if_pos rfl, rfl⟩
        · rw [filter_none (p := fun s => !nm0 s) (f := fun s => s)]
          (with_reducible refine Rf.nl_dat ?_; with_reducible refine Rf.wp_lst ?_; with_reducible refine Rf.wp_nil ?_; with_reducible refine Rf.lp_dat (by with_unfolding_all exact rfl) (by with_unfolding_all exact rfl) ?_)
          refine nil_of (d := .none) (fun x hx => ?_) ?_
          · rw [List.map_id'] at hx
            exact fs x (List.mem_filter.mp hx).1
          rw [filter_empty]
          have nn : (ss.all fun x => !!nm0 x) = ss.all nm0 := by simp
          rw [nn]
          (with_reducible refine Rf.isB_mk ?_)
          refine ⟨fun h8 => ?_, fun h8 => ?_⟩
          · (with_reducible refine Rf.wp_ret ?_; with_reducible refine Rf.wp_con ?_; with_reducible refine Rf.rt_same ?_)
            refine ⟨?_, rfl⟩
            have h8' : ss.all nm0 = false := by simpa using h8
            rw [shotsB_tup, shots_parts, h8']; simp
          have h8' : ss.all nm0 = true := by simpa using h8
          (with_reducible refine Rf.wp_sNil ?_; with_reducible refine Rf.wp_seq ?_; with_reducible refine Rf.wp_sIf ?_; with_reducible refine Rf.wp_B ?_; with_reducible refine Rf.wp_bin ?_; with_reducible refine Rf.wp_comp ?_)
          refine wp_mZip ?_
          (with_reducible refine Rf.wp_cons ?_; with_reducible refine Rf.wp_varD (by with_unfolding_all exact rfl) ?_; with_reducible refine Rf.wp_cons ?_; with_reducible refine Rf.wp_sl ?_; with_reducible refine Rf.wp_varD (by with_unfolding_all exact rfl) ?_; with_reducible refine Rf.wp_part ?_; with_reducible refine Rf.wp_con ?_; with_reducible refine Rf.exInt ?_; with_reducible refine Rf.wp_noPart ?_; with_reducible refine Rf.sl_tup ?_; with_reducible refine Rf.wp_nil ?_; with_reducible refine Rf.ex2 ?_)
          refine zp_tup ?_
          rw [show cutW ss (some 1) none = ss.drop 1 from cut_from ss 1]
          refine wp_compZ (fun p => if (match p with | (.dat a, .dat b) => !ltS (keyS a) (keyS b) | _ => false) = true then some (W.dat (.int 1)) else none) (by rw [List.length_map]; omega) (fun p hp => ?_) ?_
          · obtain ⟨a, b⟩ := p
            obtain ⟨ha, hb⟩ := List.of_mem_zip hp
            obtain ⟨a, hma, rfl⟩ := List.mem_map.mp ha
            obtain ⟨b, hmb, rfl⟩ := List.mem_map.mp hb
            obtain ⟨z, rr, rfl⟩ := nm0_cases (List.all_eq_true.mp h8' a hma)
            obtain ⟨z', rr', rfl⟩ := nm0_cases (List.all_eq_true.mp h8' b (List.mem_of_mem_drop hmb))
            rw [show mkTup [W.dat (.tuple [.str z, rr]), W.dat (.tuple [.str z', rr'])] = .dat (.tuple [.tuple [.str z, rr], .tuple [.str z', rr']]) from rfl]
            refine wp_tTup (ws := [.dat (.tuple [.str z, rr]), .dat (.tuple [.str z', rr'])]) rfl rfl ?_
            refine wp_tCons (wp_name (wp_tCons (wp_name (wp_tNil ?_))))
            (dsimp only [Rf.strB, Rf.intB, Rf.boolB, Rf.tupB, Rf.dicB, Rf.noneB]; with_reducible refine Rf.wp_B ?_; with_reducible refine Rf.wp_bin ?_; with_reducible refine Rf.wp_bin ?_; with_reducible refine Rf.wp_varD (by with_unfolding_all exact rfl) ?_; with_reducible refine Rf.wp_con ?_)
            refine ix_tup (d := .str z) (atI_ofNat (n := 0) rfl) ?_
            (with_reducible refine Rf.wp_bin ?_; with_reducible refine Rf.wp_varD (by with_unfolding_all exact rfl) ?_; with_reducible refine Rf.wp_con ?_)
            refine ix_tup (d := .str z') (atI_ofNat (n := 0) rfl) ?_
            refine ge_str ?_
            refine ⟨fun h9 => ?_, fun h9 => ?_⟩
            · (with_reducible refine Rf.wp_con ?_)
              exact ⟨if_pos h9, rfl⟩
            · exact ⟨by rw [if_neg (by rw [show (!ltS (keyS (.tuple [.str z, rr])) (keyS (.tuple [.str z', rr']))) = false from h9]; decide)], rfl⟩
          · rw [zip_up]
            have e1 : ((ss.zip (ss.drop 1)).filter fun p => !ltS (keyS p.1) (keyS p.2)).map (fun _ => W.dat (.int 1)) = (((ss.zip (ss.drop 1)).filter fun p => !ltS (keyS p.1) (keyS p.2)).map fun _ => PyData.int 1).map W.dat := by rw [List.map_map]; rfl
            rw [e1]
            (with_reducible refine Rf.nl_dat ?_; with_reducible refine Rf.wp_lst ?_; with_reducible refine Rf.wp_nil ?_; with_reducible refine Rf.lp_dat (by with_unfolding_all exact rfl) (by with_unfolding_all exact rfl) ?_)
            refine nil_of (d := .none) (fun x hx => ?_) ?_
            · obtain ⟨_, _, rfl⟩ := List.mem_map.mp hx
              exact pd_int _
            rw [filter_empty]
            have e2 : ((ss.zip (ss.drop 1)).all fun x => !!ltS (keyS x.1) (keyS x.2)) = upB ss := by
              rw [← upB_zip]; simp
            rw [e2]
            (with_reducible refine Rf.isB_mk ?_)
            refine ⟨fun h9 => ?_, fun h9 => ?_⟩
            · (with_reducible refine Rf.wp_ret ?_; with_reducible refine Rf.wp_con ?_; with_reducible refine Rf.rt_same ?_)
              refine ⟨?_, rfl⟩
              have h9' : upB ss = false := by simpa using h9
              rw [shotsB_tup, h9']; simp
            have h9' : upB ss = true := by simpa using h9
            (with_reducible refine Rf.wp_sNil ?_; with_reducible refine Rf.wp_seq ?_; with_reducible refine Rf.wp_asg ?_; with_reducible refine Rf.wp_bin ?_; with_reducible refine Rf.wp_lst ?_; with_reducible refine Rf.wp_cons ?_; with_reducible refine Rf.wp_varD (by with_unfolding_all exact rfl) ?_; with_reducible refine Rf.wp_nil ?_; with_reducible refine Rf.lp_dat (by with_unfolding_all exact rfl) (by with_unfolding_all exact rfl) ?_; dsimp only [Rf.strB, Rf.intB, Rf.boolB, Rf.tupB, Rf.dicB, Rf.noneB]; with_reducible refine Rf.wp_comp ?_; with_reducible refine Rf.wp_itS ?_; with_reducible refine Rf.wp_varD (by with_unfolding_all exact rfl) ?_; with_reducible refine Rf.its_tup ?_)
            refine wp_compM (f := W.dat) (xs := ss) (fun s => .dat (seconds s)) (by omega) (fun s hm => ?_) ?_
            · obtain ⟨z, rr, rfl⟩ := nm0_cases (List.all_eq_true.mp h8' s hm)
              (with_reducible refine Rf.wp_bin ?_; with_reducible refine Rf.wp_varD (by with_unfolding_all exact rfl) ?_; with_reducible refine Rf.wp_con ?_)
              refine ix_tup (d := rr) (atI_ofNat (n := 1) rfl) ?_
              exact ⟨rfl, rfl⟩
            · rw [show (ss.map fun s => W.dat (seconds s)) = (ss.map seconds).map W.dat by rw [List.map_map]; rfl]
              (with_reducible refine Rf.nl_dat ?_)
              refine add_lst (by simp; omega) ?_
              (with_reducible refine Rf.wp_name ?_; with_reducible refine Rf.wp_ret ?_; with_reducible refine Rf.wp_bin ?_; with_reducible refine Rf.wp_comp ?_; with_reducible refine Rf.wp_itS ?_; with_reducible refine Rf.wp_varD (by with_unfolding_all exact rfl) ?_; with_reducible refine Rf.its_lst ?_)
              refine wp_compP (f := W.dat) (xs := [r] ++ ss.map seconds) (fun s => if (!rootO size i s) = true then some (.dat s) else none) (by simp; omega) (fun s hm => ?_) ?_
              · (with_reducible refine Rf.wp_name ?_; with_reducible refine Rf.wp_if ?_; with_reducible refine Rf.wp_not ?_; with_reducible refine Rf.wp_tru ?_; with_reducible refine Rf.wp_call ?_; with_reducible refine Rf.wp_cons ?_; with_reducible refine Rf.wp_varD (by with_unfolding_all exact rfl) ?_; with_reducible refine Rf.wp_cons ?_; with_reducible refine Rf.wp_con ?_; with_reducible refine Rf.wp_cons ?_; with_reducible refine Rf.wp_bin ?_; with_reducible refine Rf.wp_varD (by with_unfolding_all exact rfl) ?_; with_reducible refine Rf.wp_con ?_; with_reducible refine Rf.sub_int ?_; with_reducible refine Rf.wp_nil ?_)
                refine wp_eq (ev_law_is_cell _ _ _) ?_
                (with_reducible refine Rf.exTru (by with_unfolding_all exact rfl) ?_)
                refine ⟨fun h10 => ?_, fun h10 => ?_⟩
                · (with_reducible refine Rf.wp_ok ?_; with_reducible refine Rf.ifT ?_; with_reducible refine Rf.wp_varD (by with_unfolding_all exact rfl) ?_)
                  have h10' : isNum 0 (size - 1) s = false := by simpa using h10
                  refine ⟨?_, rfl⟩
                  refine if_pos ?_
                  cases s with
                  | int j =>
                    have : (decide (0 ≤ j) && decide (j ≤ size - 1)) = false := h10'
                    show (!((decide (0 ≤ j) && decide (j ≤ size - 1)) && !(decide (0 < j) && decide (j < 2 + i)))) = true
                    rw [this]; rfl
                  | _ => rfl
                · have h10' : isNum 0 (size - 1) s = true := by simpa using h10
                  obtain ⟨j, rfl, j0, j1⟩ := num_int h10'
                  (with_reducible refine Rf.wp_B ?_; with_reducible refine Rf.wp_chain ?_; with_reducible refine Rf.wp_con ?_; with_reducible refine Rf.wp_varD (by with_unfolding_all exact rfl) ?_; with_reducible refine Rf.lt_int ?_; with_reducible refine Rf.isB_mk ?_)
                  have er : rootO size i (.int j) = !(decide (0 < j) && decide (j < 2 + i)) := by
                    show ((decide (0 ≤ j) && decide (j ≤ size - 1)) && _) = _
                    rw [decide_eq_true j0, decide_eq_true j1]; rfl
                  rw [er]
                  refine ifD (fun h11 => ?_) (fun h11 => ?_)
                  · (with_reducible refine Rf.wp_bin ?_; with_reducible refine Rf.wp_con ?_; with_reducible refine Rf.wp_varD (by with_unfolding_all exact rfl) ?_; with_reducible refine Rf.add_int ?_; with_reducible refine Rf.lt_int ?_; with_reducible refine Rf.isB_mk ?_)
                    rw [decide_eq_true h11]
                    refine ifD (fun h12 => ?_) (fun h12 => ?_)
                    · (with_reducible refine Rf.wp_varD (by with_unfolding_all exact rfl) ?_)
                      rw [decide_eq_true h12]
                      exact ⟨rfl, rfl⟩
                    · rw [decide_eq_false h12]
                      exact ⟨rfl, rfl⟩
                  · (with_reducible refine Rf.isB_mk ?_; with_reducible refine Rf.ifF ?_)
                    rw [decide_eq_false h11]
                    exact ⟨rfl, rfl⟩
              · rw [filter_none (p := fun s => !rootO size i s) (f := fun s => s)]
                (with_reducible refine Rf.nl_dat ?_; with_reducible refine Rf.wp_lst ?_; with_reducible refine Rf.wp_nil ?_; with_reducible refine Rf.lp_dat (by with_unfolding_all exact rfl) (by with_unfolding_all exact rfl) ?_)
                refine nil_of (d := .none) (fun x hx => ?_) ?_
                · rw [List.map_id'] at hx
                  rcases List.mem_append.mp (List.mem_filter.mp hx).1 with h | h
                  · rw [List.mem_singleton.mp h]; exact fr
                  · obtain ⟨s, hm, rfl⟩ := List.mem_map.mp h
                    obtain ⟨z, rr, rfl⟩ := nm0_cases (List.all_eq_true.mp h8' s hm)
                    exact second_pd (fs _ hm)
                rw [filter_empty]
                (with_reducible refine Rf.rt_same ?_)
                refine ⟨?_, rfl⟩
                rw [shotsB_tup, shots_parts, h8', h9', show decide (ss.length ≤ 6) = true from decide_eq_true hl]
                have e3 : (([r] ++ ss.map seconds).all fun x => !!rootO size i x) = (rootB size i r && ss.all fun s => rootB size i (seconds s)) := by
                  rw [List.all_append, List.all_map]
                  simp only [List.all_cons, List.all_nil, Bool.and_true, Bool.not_not, root_own hs i4]
                  rfl
                rw [e3]; simp
      | _ =>
        (try array_get_dec)
        exact ⟨by simp [shotsB], rfl⟩
  | _ =>
    (try array_get_dec)
    exact ⟨rfl, rfl⟩
end
end V

namespace V
open PySem L2 PyProof.Rows Rf Nm

/-! ### heads and their cells -/
structure Hd where
  turn : Int
  log : Int
  number : Int
  root : Int
  shots : List (List Nat × Int)
def shD (p : List Nat × Int) : PyData := .tuple [.str (sg p.1), .int p.2]
def headD (h : Hd) : PyData := .tuple [.int h.turn, .int h.log, .int h.number, .int h.root, .tuple (h.shots.map shD)]
def shC (p : List Nat × Int) : List Int := [cellOf p.1, p.2]
def cellsD (h : Hd) : List Int := [h.turn, h.log, h.number, h.root, (h.shots.length : Int)] ++ (h.shots.map shC).flatten
def Named (h : Hd) : Prop := h.shots.length ≤ 20 ∧ ∀ p ∈ h.shots, nameB p.1 = true
theorem flat_two : ∀ l : List (List Nat × Int), (l.map shC).flatten.length = 2 * l.length
  | [] => rfl
  | p :: l => by
    rw [List.map_cons, List.flatten_cons, List.length_append, flat_two l, List.length_cons]
    show 2 + _ = _
    omega
def pairAt (cs : List Int) (i : Nat) : PyData := .tuple [optN (nameOf (cs.getD (5 + 2 * i) 0)), .int (cs.getD (5 + 2 * i + 1) 0)]
def decD (cs : List Int) : PyData := .tuple ((cs.take 4).map .int ++ [.tuple ((List.range ((cs.length - 5) / 2)).map (pairAt cs))])
def headIn (size : Int) (cs : List Int) : PyData := if cs.length < 5 ∨ (cs.length : Int) ≠ 5 + 2 * cs.getD 4 0 then .none else if headB size (decD cs) = true then decD cs else .none
theorem rgs : ∀ k : Fin 50, L2.RgC 5 (5 + 2 * (k.val : Int)) 2 (rgN 5 (5 + 2 * (k.val : Int)) 2) ∧ rgN 5 (5 + 2 * (k.val : Int)) 2 = k.val := by decide +kernel
theorem getD_int {cs : List Int} {i : Nat} (h : i < cs.length) : (cs.map PyData.int)[i]? = some (.int (cs.getD i 0)) := by
  rw [List.getElem?_map, List.getElem?_eq_getElem h, List.getD_eq_getElem?_getD, List.getElem?_eq_getElem h]; rfl
section
variable {bs : List Nat} {S : Store} {n : Nat} {E : EK} {Q : W → Store → Prop}
theorem ev_cells_of {h : Hd} (hn : Named h) : F__cells_of bs [.dat (headD h)] S = .ok (.dat (tI (cellsD h))) S := by
  refine eq_of_wp ?_
  (unfold F__cells_of m__cells_of; with_reducible refine Rf.wp_fn rfl ?_; simp only [Rf.startE, List.map_cons, List.map_nil, List.length_cons, List.length_nil, Nat.reduceAdd, Nat.reduceSub, List.replicate, List.cons_append, List.nil_append])
  unfold headD
  (with_reducible refine Rf.wp_seq ?_; with_reducible refine Rf.wp_asg ?_; with_reducible refine Rf.wp_comp2 ?_; with_reducible refine Rf.wp_itS ?_; with_reducible refine Rf.wp_bin ?_; with_reducible refine Rf.wp_varD (by with_unfolding_all exact rfl) ?_; with_reducible refine Rf.wp_con ?_)
  refine ix_tup (d := .tuple (h.shots.map shD)) (atI_ofNat (n := 4) rfl) ?_
  (with_reducible refine Rf.its_tup ?_)
  rw [List.map_map]
  refine wp_comp2T (f := W.dat ∘ shD) (xs := h.shots) (fun p => ((shC p).map PyData.int).map W.dat) ?_ (fun p hp acc ha => ?_) ?_
  · have : (h.shots.map fun p => ((shC p).map PyData.int).map W.dat).flatten.length = (h.shots.map shC).flatten.length := by
      generalize h.shots = l
      induction l with
      | nil => rfl
      | cons p l ih => simp only [List.map_cons, List.flatten_cons, List.length_append, List.length_map, ih]
    rw [this, flat_two]; have := hn.1; omega
  · refine wp_tTup (ws := [.dat (.str (sg p.1)), .dat (.int p.2)]) rfl rfl ?_
    refine wp_tCons (wp_name (wp_tCons (wp_name (wp_tNil ?_))))
    refine wp_yes ⟨rfl, ?_⟩
    (with_reducible refine Rf.wp_itS ?_; with_reducible refine Rf.wp_tup ?_; with_reducible refine Rf.wp_cons ?_; with_reducible refine Rf.wp_call ?_; with_reducible refine Rf.wp_cons ?_; with_reducible refine Rf.wp_varD (by with_unfolding_all exact rfl) ?_; with_reducible refine Rf.wp_nil ?_)
    refine wp_eq (ev_name_cell _ _ _ (hn.2 p hp)) ?_
    (with_reducible refine Rf.wp_cons ?_; with_reducible refine Rf.wp_varD (by with_unfolding_all exact rfl) ?_; with_reducible refine Rf.wp_nil ?_; with_reducible refine Rf.tp_dat (by with_unfolding_all exact rfl) (by with_unfolding_all exact rfl) ?_; with_reducible refine Rf.its_tup ?_; dsimp only [Rf.strB, Rf.intB, Rf.boolB, Rf.tupB, Rf.dicB, Rf.noneB])
    exact wp_copyTo (ds := (shC p).map .int) (by simp [wipeE]) ha
  · have e1 : (h.shots.map fun p => ((shC p).map PyData.int).map W.dat).flatten = ((h.shots.map shC).flatten.map PyData.int).map W.dat := by
      generalize h.shots = l
      induction l with
      | nil => rfl
      | cons p l ih => simp only [List.map_cons, List.flatten_cons, List.map_append, ih]
    rw [e1]
    (with_reducible refine Rf.nl_dat ?_; with_reducible refine Rf.wp_name ?_; with_reducible refine Rf.wp_ret ?_; with_reducible refine Rf.wp_bin ?_; with_reducible refine Rf.wp_bin ?_; with_reducible refine Rf.wp_sl ?_; with_reducible refine Rf.wp_varD (by with_unfolding_all exact rfl) ?_; with_reducible refine Rf.wp_noPart ?_; with_reducible refine Rf.wp_part ?_; with_reducible refine Rf.wp_con ?_; with_reducible refine Rf.exInt ?_; with_reducible refine Rf.sl_tup ?_; with_reducible refine Rf.wp_tup ?_; with_reducible refine Rf.wp_cons ?_; with_reducible refine Rf.wp_CB ?_; with_reducible refine Rf.wp_cons ?_; with_reducible refine Rf.wp_bin ?_; with_reducible refine Rf.wp_varD (by with_unfolding_all exact rfl) ?_; with_reducible refine Rf.wp_con ?_)
    rw [show cutW [PyData.int h.turn, .int h.log, .int h.number, .int h.root, .tuple (h.shots.map shD)] none (some 4) = [.int h.turn, .int h.log, .int h.number, .int h.root] from cut_to _ 4]
    skip
    refine ix_tup (d := .tuple (h.shots.map shD)) (atI_ofNat (n := 4) rfl) ?_
    (with_reducible refine Rf.wp_nil ?_; with_reducible refine Rf.len_tup ?_; with_reducible refine Rf.wp_nil ?_; with_reducible refine Rf.tp_dat (by with_unfolding_all exact rfl) (by with_unfolding_all exact rfl) ?_; dsimp only [Rf.strB, Rf.intB, Rf.boolB, Rf.tupB, Rf.dicB, Rf.noneB])
    rw [List.length_map]
    refine add_tup (Nat.le_of_ble_eq_true rfl) ?_
    (with_reducible refine Rf.wp_CB ?_; with_reducible refine Rf.wp_cons ?_; with_reducible refine Rf.wp_varD (by with_unfolding_all exact rfl) ?_; with_reducible refine Rf.wp_nil ?_; with_reducible refine Rf.tuple_lst ?_)
    have lf : ((h.shots.map shC).flatten.map PyData.int).length ≤ 40 := by rw [List.length_map, flat_two]; have := hn.1; omega
    refine add_tup (Nat.le_trans (Nat.add_le_add (show _ ≤ 5 from Nat.le_of_ble_eq_true rfl) lf) (by decide)) ?_
    (with_reducible refine Rf.rt_same ?_)
    exact ⟨rfl, rfl⟩
theorem ev_law_cells {h : Hd} (hn : Named h) : F__law_cells bs [.dat (headD h)] S = .ok (.dat (tI (cellsD h))) S := by
  refine eq_of_wp ?_
  (unfold F__law_cells m__law_cells; with_reducible refine Rf.wp_fn rfl ?_; simp only [Rf.startE, List.map_cons, List.map_nil, List.length_cons, List.length_nil, Nat.reduceAdd, Nat.reduceSub, List.replicate, List.cons_append, List.nil_append])
  unfold headD
  (with_reducible refine Rf.wp_seq ?_; with_reducible refine Rf.wp_asg ?_; with_reducible refine Rf.wp_varD (by with_unfolding_all exact rfl) ?_)
  refine wp_tTup (ws := [.dat (.int h.turn), .dat (.int h.log), .dat (.int h.number), .dat (.int h.root), .dat (.tuple (h.shots.map shD))]) rfl rfl ?_
  refine wp_tCons (wp_name (wp_tCons (wp_name (wp_tCons (wp_name (wp_tCons (wp_name (wp_tCons (wp_name (wp_tNil ?_))))))))))
  (with_reducible refine Rf.wp_seq ?_; with_reducible refine Rf.wp_asg ?_; with_reducible refine Rf.wp_lst ?_; with_reducible refine Rf.wp_cons ?_; with_reducible refine Rf.wp_varD (by with_unfolding_all exact rfl) ?_; with_reducible refine Rf.wp_cons ?_; with_reducible refine Rf.wp_varD (by with_unfolding_all exact rfl) ?_; with_reducible refine Rf.wp_cons ?_; with_reducible refine Rf.wp_varD (by with_unfolding_all exact rfl) ?_; with_reducible refine Rf.wp_cons ?_; with_reducible refine Rf.wp_varD (by with_unfolding_all exact rfl) ?_; with_reducible refine Rf.wp_cons ?_; with_reducible refine Rf.wp_CB ?_; with_reducible refine Rf.wp_cons ?_; with_reducible refine Rf.wp_varD (by with_unfolding_all exact rfl) ?_; with_reducible refine Rf.wp_nil ?_; with_reducible refine Rf.len_tup ?_; with_reducible refine Rf.wp_nil ?_; with_reducible refine Rf.lp_cell (by with_unfolding_all exact rfl) ?_; with_reducible refine Rf.wp_name ?_; with_reducible refine Rf.wp_seq ?_; with_reducible refine Rf.wp_for ?_; with_reducible refine Rf.wp_itS ?_; with_reducible refine Rf.wp_varD (by with_unfolding_all exact rfl) ?_; with_reducible refine Rf.its_tup ?_)
  rw [List.length_map, List.map_map]
  refine wp_items (f := W.dat ∘ shD) (xs := h.shots) (fun pre env S' => ∃ x y, env = [some (.dat (headD h)), some (.loc S.length), some (.dat (.int h.turn)), some (.dat (.int h.log)), some (.dat (.int h.number)), some (.dat (.int h.root)), some (.dat (.tuple (h.shots.map shD))), x, y] ∧
    S' = S ++ [.lst (([h.turn, h.log, h.number, h.root, (h.shots.length : Int)] ++ (pre.map shC).flatten).map fun i => .dat (.int i))]) ⟨none, none, rfl, rfl⟩ (fun pre p post env S' hx ⟨x, y, he, hS⟩ => ?_) (fun env S' ⟨x, y, he, hS⟩ => ?_)
  · subst he hS
    have hp : p ∈ h.shots := by rw [hx]; simp
    have hs := at_app1 S (.lst (([h.turn, h.log, h.number, h.root, (h.shots.length : Int)] ++ (pre.map shC).flatten).map fun i => W.dat (.int i)))
    refine wp_body ?_
    refine wp_tTup (ws := [.dat (.str (sg p.1)), .dat (.int p.2)]) rfl rfl ?_
    refine wp_tCons (wp_name (wp_tCons (wp_name (wp_tNil ?_))))
    obtain ⟨n1, n2, n3⟩ := name_bits (hn.2 p hp)
    (with_reducible refine Rf.wp_drop ?_; with_reducible refine Rf.wp_mt ?_; with_reducible refine Rf.wp_varL (by with_unfolding_all exact rfl) ?_; with_reducible refine Rf.tyLc (by assumption) ?_; with_reducible refine Rf.wp_cons ?_; with_reducible refine Rf.wp_lst ?_; with_reducible refine Rf.wp_cons ?_; with_reducible refine Rf.wp_call ?_; with_reducible refine Rf.wp_cons ?_; with_reducible refine Rf.wp_varD (by with_unfolding_all exact rfl) ?_; with_reducible refine Rf.wp_nil ?_)
    refine wp_eq (ev_law_name_cell _ _ _ n3 n2) ?_
    (with_reducible refine Rf.wp_cons ?_; with_reducible refine Rf.wp_varD (by with_unfolding_all exact rfl) ?_; with_reducible refine Rf.wp_nil ?_; with_reducible refine Rf.lp_dat (by with_unfolding_all exact rfl) (by with_unfolding_all exact rfl) ?_; dsimp only [Rf.strB, Rf.intB, Rf.boolB, Rf.tupB, Rf.dicB, Rf.noneB]; with_reducible refine Rf.wp_nil ?_)
    refine ext_loc hs ?_ ?_
    · have := hn.1
      have l2 := congrArg List.length hx
      simp only [List.length_append, List.length_cons] at l2
      rw [List.length_map, List.length_append, flat_two]
      show 5 + 2 * pre.length + 2 ≤ 100000
      omega
    skip
    refine ⟨_, _, rfl, ?_⟩
    rw [set_app]
    simp [shC]
  · subst he hS
    have hs := at_app1 S (.lst (([h.turn, h.log, h.number, h.root, (h.shots.length : Int)] ++ (h.shots.map shC).flatten).map fun i => W.dat (.int i)))
    (with_reducible refine Rf.wp_ret ?_; with_reducible refine Rf.wp_CB ?_; with_reducible refine Rf.wp_cons ?_; with_reducible refine Rf.wp_varL (by with_unfolding_all exact rfl) ?_; with_reducible refine Rf.wp_nil ?_)
    refine tuple_loc (ds := (cellsD h).map .int) hs (by rw [List.map_map]; rfl) ?_
    exact rt_app ⟨rfl, rfl⟩
theorem optN_short (o : Option (List Nat)) (h : ∀ l, o = some l → l.length ≤ 8) : shortS (optN o) := fun z e => by
  cases o with
  | none => cases e
  | some l =>
    cases e
    have := h l rfl
    simpa using (by omega : l.length ≤ 100000)
theorem name8 {c : Int} {l : List Nat} (h : nameOf c = some l) : l.length ≤ 8 := (name_bits (nameOf_some h).1).2.1
theorem dec_tame (cs : List Int) (h5 : 5 ≤ cs.length) : tameH (decD cs) ∧ fineH (decD cs) := by
  obtain ⟨a, b, c, d, r, rfl⟩ : ∃ a b c d r, cs = a :: b :: c :: d :: r := by
    match cs, h5 with
    | a :: b :: c :: d :: r, _ => exact ⟨a, b, c, d, r, rfl⟩
  refine ⟨fun s hs nm r e => ?_, pd_int _, fun s hs => ?_⟩
  · obtain ⟨i, _, rfl⟩ := List.mem_map.mp hs
    unfold pairAt at e
    cases e
    exact optN_short _ fun l hl => name8 hl
  · obtain ⟨i, _, rfl⟩ := List.mem_map.mp hs
    unfold pairAt
    refine PD.mono (pd_tup (n := 0) fun x hx => ?_) (by decide)
    simp only [List.mem_cons, List.not_mem_nil, or_false] at hx
    rcases hx with rfl | rfl
    · cases nameOf (List.getD (a :: b :: c :: d :: r) (5 + 2 * i) 0) with
      | none => exact pd_non
      | some l => exact pd_str _
    · exact pd_int _
end
end V

namespace V
open PySem L2 PyProof.Rows Rf Nm

section
variable {bs : List Nat} {S : Store} {n : Nat} {E : EK} {Q : W → Store → Prop}
theorem ix_cs {cs : List Int} {i : Nat} (h : i < cs.length) {Q : W → Store → Prop} (q : Q (.dat (.int (cs.getD i 0))) S) : wpo (ixF bs (.dat (tI cs)) (.dat (.int (i : Nat))) S) Q := ix_tup (atI_ofNat (getD_int h)) q
theorem kOf {n : Nat} {c : Int} (h5 : ¬ (n : Int) < 5) (hz : (n : Int) = 5 + 2 * c) : n = 5 + 2 * c.toNat := by omega
theorem ev_head_in {size : Int} {cs : List Int} (hl : cs.length ≤ 52) : F__head_in bs [.dat (.int size), .dat (tI cs)] S = .ok (.dat (headIn size cs)) S := by
  refine eq_of_wp ?_
  (unfold F__head_in m__head_in; with_reducible refine Rf.wp_fn rfl ?_; simp only [Rf.startE, List.map_cons, List.map_nil, List.length_cons, List.length_nil, Nat.reduceAdd, Nat.reduceSub, List.replicate, List.cons_append, List.nil_append])
  (with_reducible refine Rf.wp_seq ?_; with_reducible refine Rf.wp_sIf ?_; with_reducible refine Rf.wp_if ?_; with_reducible refine Rf.wp_B ?_; with_reducible refine Rf.wp_bin ?_; with_reducible refine Rf.wp_CB ?_; with_reducible refine Rf.wp_cons ?_; with_reducible refine Rf.wp_varD (by with_unfolding_all exact rfl) ?_; with_reducible refine Rf.wp_nil ?_; with_reducible refine Rf.len_tup ?_; with_reducible refine Rf.wp_con ?_; with_reducible refine Rf.lt_int ?_; with_reducible refine Rf.isB_mk ?_)
  rw [List.length_map]
  unfold headIn
  refine ifD (fun h5 => ?_) (fun h5 => ?_)
  · (with_reducible refine Rf.wp_ok ?_; with_reducible refine Rf.ifT ?_; with_reducible refine Rf.wp_ret ?_; with_reducible refine Rf.wp_con ?_; with_reducible refine Rf.rt_same ?_)
    rw [if_pos (.inl (by omega))]
    exact ⟨rfl, rfl⟩
  (with_reducible refine Rf.wp_B ?_; with_reducible refine Rf.wp_bin ?_; with_reducible refine Rf.wp_CB ?_; with_reducible refine Rf.wp_cons ?_; with_reducible refine Rf.wp_varD (by with_unfolding_all exact rfl) ?_; with_reducible refine Rf.wp_nil ?_; with_reducible refine Rf.len_tup ?_; with_reducible refine Rf.wp_bin ?_; with_reducible refine Rf.wp_con ?_; with_reducible refine Rf.wp_bin ?_; with_reducible refine Rf.wp_con ?_; with_reducible refine Rf.wp_bin ?_; with_reducible refine Rf.wp_varD (by with_unfolding_all exact rfl) ?_; with_reducible refine Rf.wp_con ?_)
  refine ix_cs (i := 4) (by omega) ?_
  ((with_reducible refine Rf.mul_int ?_ ?_; first | (refine Rf.mulOk_l ?_; decide) | (refine Rf.mulOk_r ?_; decide) | (refine Rf.mulOk_l ?_; omega) | (refine Rf.mulOk_r ?_; omega)); with_reducible refine Rf.add_int ?_; with_reducible refine Rf.ne_int ?_; with_reducible refine Rf.isB_mk ?_)
  rw [List.length_map]
  refine ifN (fun hz => ?_) (fun hz => ?_)
  rotate_left
  · (with_reducible refine Rf.wp_ret ?_; with_reducible refine Rf.wp_con ?_; with_reducible refine Rf.rt_same ?_)
    rw [if_pos (.inr hz)]
    exact ⟨rfl, rfl⟩
  rw [if_neg (fun z => z.elim (fun z => by omega) (fun z => z hz))]
  have hk := kOf h5 hz
  generalize (cs.getD 4 0).toNat = k at hk
  have ek : (cs.length - 5) / 2 = k := by omega
  have r := rgs ⟨k, by omega⟩
  (with_reducible refine Rf.wp_sNil ?_; with_reducible refine Rf.wp_seq ?_; with_reducible refine Rf.wp_asg ?_)
  (with_reducible refine wp_rgV3 ?_)
  (with_reducible refine Rf.wp_cons ?_; with_reducible refine Rf.wp_con ?_; with_reducible refine Rf.wp_cons ?_; with_reducible refine Rf.wp_CB ?_; with_reducible refine Rf.wp_cons ?_; with_reducible refine Rf.wp_varD (by with_unfolding_all exact rfl) ?_; with_reducible refine Rf.wp_nil ?_; with_reducible refine Rf.len_tup ?_; with_reducible refine Rf.wp_cons ?_; with_reducible refine Rf.wp_con ?_; with_reducible refine Rf.wp_nil ?_)
  have rok : L2.RgC 5 ((cs.map PyData.int).length : Int) 2 (rgN 5 ((cs.map PyData.int).length : Int) 2) := by rw [List.length_map, hk, show ((5 + 2 * k : Nat) : Int) = 5 + 2 * (k : Int) by omega]; exact r.1
  refine rg3_mk rok ?_
  (with_reducible refine Rf.wp_name ?_; with_reducible refine Rf.wp_seq ?_; with_reducible refine Rf.wp_asg ?_; with_reducible refine Rf.wp_CB ?_; with_reducible refine Rf.wp_cons ?_; with_reducible refine Rf.wp_comp ?_)
  (with_reducible refine wp_itR ?_)
  (with_reducible apply wp_varRg (x := 5) (y := ((cs.map PyData.int).length : Int)) (z := 2))
  · exact rfl
  (with_reducible refine rgw_mk rok ?_)
  have en : rgN 5 ((cs.map PyData.int).length : Int) 2 = k := by rw [List.length_map, hk, show ((5 + 2 * k : Nat) : Int) = 5 + 2 * (k : Int) by omega]; exact r.2
  rw [en]
  refine wp_compM (f := fun i : Nat => W.int (5 + (i : Int) * 2)) (xs := List.range k) (fun i => .dat (pairAt cs i)) (by rw [List.length_range]; omega) (fun i hi => ?_) ?_
  · have hi := List.mem_range.mp hi
    (with_reducible refine Rf.wp_tup ?_; with_reducible refine Rf.wp_cons ?_; with_reducible refine Rf.wp_call ?_; with_reducible refine Rf.wp_cons ?_; with_reducible refine Rf.wp_bin ?_; with_reducible refine Rf.wp_varD (by with_unfolding_all exact rfl) ?_; with_reducible refine Rf.wp_varD (by with_unfolding_all exact rfl) ?_)
    rw [show (5 + (i : Int) * 2) = ((5 + 2 * i : Nat) : Int) by omega]
    refine ix_cs (by omega) ?_
    (with_reducible refine Rf.wp_nil ?_)
    refine wp_eq (ev_name_of _ _ _) ?_
    (with_reducible refine Rf.wp_cons ?_; with_reducible refine Rf.wp_bin ?_; with_reducible refine Rf.wp_varD (by with_unfolding_all exact rfl) ?_; with_reducible refine Rf.wp_bin ?_; with_reducible refine Rf.wp_varD (by with_unfolding_all exact rfl) ?_; with_reducible refine Rf.wp_con ?_; with_reducible refine Rf.add_int ?_)
    rw [show (((5 + 2 * i : Nat) : Int) + 1) = ((5 + 2 * i + 1 : Nat) : Int) by omega]
    refine ix_cs (by omega) ?_
    (with_reducible refine Rf.wp_nil ?_; with_reducible refine Rf.tp_dat (by with_unfolding_all exact rfl) (by with_unfolding_all exact rfl) ?_; dsimp only [Rf.strB, Rf.intB, Rf.boolB, Rf.tupB, Rf.dicB, Rf.noneB])
    exact ⟨rfl, rfl⟩
  · rw [show ((List.range k).map fun i => W.dat (pairAt cs i)) = ((List.range k).map (pairAt cs)).map W.dat by rw [List.map_map]; rfl]
    (with_reducible refine Rf.nl_dat ?_; with_reducible refine Rf.wp_nil ?_; with_reducible refine Rf.tuple_lst ?_; with_reducible refine Rf.wp_name ?_; with_reducible refine Rf.wp_seq ?_; with_reducible refine Rf.wp_asg ?_; with_reducible refine Rf.wp_bin ?_; with_reducible refine Rf.wp_sl ?_; with_reducible refine Rf.wp_varD (by with_unfolding_all exact rfl) ?_; with_reducible refine Rf.wp_noPart ?_; with_reducible refine Rf.wp_part ?_; with_reducible refine Rf.wp_con ?_; with_reducible refine Rf.exInt ?_; with_reducible refine Rf.sl_tup ?_; with_reducible refine Rf.wp_tup ?_; with_reducible refine Rf.wp_cons ?_; with_reducible refine Rf.wp_varD (by with_unfolding_all exact rfl) ?_; with_reducible refine Rf.wp_nil ?_; with_reducible refine Rf.tp_dat (by with_unfolding_all exact rfl) (by with_unfolding_all exact rfl) ?_; dsimp only [Rf.strB, Rf.intB, Rf.boolB, Rf.tupB, Rf.dicB, Rf.noneB])
    rw [show cutW (cs.map PyData.int) none (some 4) = (cs.take 4).map .int by rw [List.map_take]; exact cut_to _ 4]
    refine add_tup (by simp; omega) ?_
    (with_reducible refine Rf.wp_name ?_; with_reducible refine Rf.wp_ret ?_; with_reducible refine Rf.wp_if ?_; with_reducible refine Rf.wp_tru ?_; with_reducible refine Rf.wp_call ?_; with_reducible refine Rf.wp_cons ?_; with_reducible refine Rf.wp_varD (by with_unfolding_all exact rfl) ?_; with_reducible refine Rf.wp_cons ?_; with_reducible refine Rf.wp_varD (by with_unfolding_all exact rfl) ?_; with_reducible refine Rf.wp_nil ?_)
    have ed : PyData.tuple ((cs.take 4).map .int ++ [.tuple ((List.range k).map (pairAt cs))]) = decD cs := by unfold decD; rw [ek]
    rw [ed]
    refine wp_eq (ev_fits (dec_tame cs (by omega)).1) ?_
    (with_reducible refine Rf.exTru (by with_unfolding_all exact rfl) ?_)
    refine ⟨fun hb => ?_, fun hb => ?_⟩
    · (with_reducible refine Rf.wp_varD (by with_unfolding_all exact rfl) ?_; with_reducible refine Rf.rt_same ?_)
      rw [if_pos hb]
      exact ⟨rfl, rfl⟩
    · (with_reducible refine Rf.wp_con ?_; with_reducible refine Rf.rt_same ?_)
      rw [if_neg (by rw [hb]; decide)]
      exact ⟨rfl, rfl⟩
theorem ev_law_of_cells {size : Int} (hsz : 24 ≤ size) {cs : List Int} (hl : cs.length ≤ 52) : F__law_of_cells bs [.dat (.int size), .dat (tI cs)] S = .ok (.dat (headIn size cs)) S := by
  refine eq_of_wp ?_
  (unfold F__law_of_cells m__law_of_cells; with_reducible refine Rf.wp_fn rfl ?_; simp only [Rf.startE, List.map_cons, List.map_nil, List.length_cons, List.length_nil, Nat.reduceAdd, Nat.reduceSub, List.replicate, List.cons_append, List.nil_append])
  (with_reducible refine Rf.wp_seq ?_; with_reducible refine Rf.wp_sIf ?_; with_reducible refine Rf.wp_if ?_; with_reducible refine Rf.wp_B ?_; with_reducible refine Rf.wp_bin ?_; with_reducible refine Rf.wp_CB ?_; with_reducible refine Rf.wp_cons ?_; with_reducible refine Rf.wp_varD (by with_unfolding_all exact rfl) ?_; with_reducible refine Rf.wp_nil ?_; with_reducible refine Rf.len_tup ?_; with_reducible refine Rf.wp_con ?_; with_reducible refine Rf.lt_int ?_; with_reducible refine Rf.isB_mk ?_)
  rw [List.length_map]
  unfold headIn
  refine ifD (fun h5 => ?_) (fun h5 => ?_)
  · (with_reducible refine Rf.wp_ok ?_; with_reducible refine Rf.ifT ?_; with_reducible refine Rf.wp_ret ?_; with_reducible refine Rf.wp_con ?_; with_reducible refine Rf.rt_same ?_)
    rw [if_pos (.inl (by omega))]
    exact ⟨rfl, rfl⟩
  (with_reducible refine Rf.wp_B ?_; with_reducible refine Rf.wp_bin ?_; with_reducible refine Rf.wp_CB ?_; with_reducible refine Rf.wp_cons ?_; with_reducible refine Rf.wp_varD (by with_unfolding_all exact rfl) ?_; with_reducible refine Rf.wp_nil ?_; with_reducible refine Rf.len_tup ?_; with_reducible refine Rf.wp_bin ?_; with_reducible refine Rf.wp_con ?_; with_reducible refine Rf.wp_bin ?_; with_reducible refine Rf.wp_con ?_; with_reducible refine Rf.wp_bin ?_; with_reducible refine Rf.wp_varD (by with_unfolding_all exact rfl) ?_; with_reducible refine Rf.wp_con ?_)
  refine ix_cs (i := 4) (by omega) ?_
  ((with_reducible refine Rf.mul_int ?_ ?_; first | (refine Rf.mulOk_l ?_; decide) | (refine Rf.mulOk_r ?_; decide) | (refine Rf.mulOk_l ?_; omega) | (refine Rf.mulOk_r ?_; omega)); with_reducible refine Rf.add_int ?_; with_reducible refine Rf.ne_int ?_; with_reducible refine Rf.isB_mk ?_)
  rw [List.length_map]
  refine ifN (fun hz => ?_) (fun hz => ?_)
  rotate_left
  · (with_reducible refine Rf.wp_ret ?_; with_reducible refine Rf.wp_con ?_; with_reducible refine Rf.rt_same ?_)
    rw [if_pos (.inr hz)]
    exact ⟨rfl, rfl⟩
  rw [if_neg (fun z => z.elim (fun z => by omega) (fun z => z hz))]
  have hk := kOf h5 hz
  generalize (cs.getD 4 0).toNat = k at hk
  have ek : (cs.length - 5) / 2 = k := by omega
  have r := rgs ⟨k, by omega⟩
  (with_reducible refine Rf.wp_sNil ?_; with_reducible refine Rf.wp_seq ?_; with_reducible refine Rf.wp_asg ?_; with_reducible refine Rf.wp_comp ?_)
  (with_reducible refine wp_rng3 ?_)
  (with_reducible refine Rf.wp_cons ?_; with_reducible refine Rf.wp_con ?_; with_reducible refine Rf.wp_cons ?_; with_reducible refine Rf.wp_CB ?_; with_reducible refine Rf.wp_cons ?_; with_reducible refine Rf.wp_varD (by with_unfolding_all exact rfl) ?_; with_reducible refine Rf.wp_nil ?_; with_reducible refine Rf.len_tup ?_; with_reducible refine Rf.wp_cons ?_; with_reducible refine Rf.wp_con ?_; with_reducible refine Rf.wp_nil ?_)
  have rok : L2.RgC 5 ((cs.map PyData.int).length : Int) 2 (rgN 5 ((cs.map PyData.int).length : Int) 2) := by rw [List.length_map, hk, show ((5 + 2 * k : Nat) : Int) = 5 + 2 * (k : Int) by omega]; exact r.1
  refine rg3_mk rok ?_
  have en : rgN 5 ((cs.map PyData.int).length : Int) 2 = k := by rw [List.length_map, hk, show ((5 + 2 * k : Nat) : Int) = 5 + 2 * (k : Int) by omega]; exact r.2
  rw [en]
  refine wp_compM (f := fun i : Nat => W.int (5 + (i : Int) * 2)) (xs := List.range k) (fun i => .dat (pairAt cs i)) (by rw [List.length_range]; omega) (fun i hi => ?_) ?_
  · have hi := List.mem_range.mp hi
    (with_reducible refine Rf.wp_tup ?_; with_reducible refine Rf.wp_cons ?_; with_reducible refine Rf.wp_call ?_; with_reducible refine Rf.wp_cons ?_; with_reducible refine Rf.wp_bin ?_; with_reducible refine Rf.wp_varD (by with_unfolding_all exact rfl) ?_; with_reducible refine Rf.wp_varD (by with_unfolding_all exact rfl) ?_)
    rw [show (5 + (i : Int) * 2) = ((5 + 2 * i : Nat) : Int) by omega]
    refine ix_cs (by omega) ?_
    (with_reducible refine Rf.wp_nil ?_)
    refine wp_eq (ev_law_cell_name _ _ _) ?_
    (with_reducible refine Rf.wp_cons ?_; with_reducible refine Rf.wp_bin ?_; with_reducible refine Rf.wp_varD (by with_unfolding_all exact rfl) ?_; with_reducible refine Rf.wp_bin ?_; with_reducible refine Rf.wp_varD (by with_unfolding_all exact rfl) ?_; with_reducible refine Rf.wp_con ?_; with_reducible refine Rf.add_int ?_)
    rw [show (((5 + 2 * i : Nat) : Int) + 1) = ((5 + 2 * i + 1 : Nat) : Int) by omega]
    refine ix_cs (by omega) ?_
    (with_reducible refine Rf.wp_nil ?_; with_reducible refine Rf.tp_dat (by with_unfolding_all exact rfl) (by with_unfolding_all exact rfl) ?_; dsimp only [Rf.strB, Rf.intB, Rf.boolB, Rf.tupB, Rf.dicB, Rf.noneB])
    exact ⟨rfl, rfl⟩
  · rw [show ((List.range k).map fun i => W.dat (pairAt cs i)) = ((List.range k).map (pairAt cs)).map W.dat by rw [List.map_map]; rfl]
    (with_reducible refine Rf.nl_dat ?_; with_reducible refine Rf.wp_name ?_; with_reducible refine Rf.wp_seq ?_; with_reducible refine Rf.wp_asg ?_; with_reducible refine Rf.wp_bin ?_; with_reducible refine Rf.wp_sl ?_; with_reducible refine Rf.wp_varD (by with_unfolding_all exact rfl) ?_; with_reducible refine Rf.wp_noPart ?_; with_reducible refine Rf.wp_part ?_; with_reducible refine Rf.wp_con ?_; with_reducible refine Rf.exInt ?_; with_reducible refine Rf.sl_tup ?_; with_reducible refine Rf.wp_tup ?_; with_reducible refine Rf.wp_cons ?_; with_reducible refine Rf.wp_CB ?_; with_reducible refine Rf.wp_cons ?_; with_reducible refine Rf.wp_varD (by with_unfolding_all exact rfl) ?_; with_reducible refine Rf.wp_nil ?_; with_reducible refine Rf.tuple_lst ?_; with_reducible refine Rf.wp_nil ?_; with_reducible refine Rf.tp_dat (by with_unfolding_all exact rfl) (by with_unfolding_all exact rfl) ?_; dsimp only [Rf.strB, Rf.intB, Rf.boolB, Rf.tupB, Rf.dicB, Rf.noneB])
    rw [show cutW (cs.map PyData.int) none (some 4) = (cs.take 4).map .int by rw [List.map_take]; exact cut_to _ 4]
    skip
    refine add_tup (by simp; omega) ?_
    (with_reducible refine Rf.wp_name ?_; with_reducible refine Rf.wp_ret ?_; with_reducible refine Rf.wp_if ?_; with_reducible refine Rf.wp_tru ?_; with_reducible refine Rf.wp_call ?_; with_reducible refine Rf.wp_cons ?_; with_reducible refine Rf.wp_varD (by with_unfolding_all exact rfl) ?_; with_reducible refine Rf.wp_cons ?_; with_reducible refine Rf.wp_varD (by with_unfolding_all exact rfl) ?_; with_reducible refine Rf.wp_nil ?_)
    have ed : PyData.tuple ((cs.take 4).map .int ++ [.tuple ((List.range k).map (pairAt cs))]) = decD cs := by unfold decD; rw [ek]
    rw [ed]
    refine wp_eq (ev_law_is_head hsz (dec_tame cs (by omega)).1 (dec_tame cs (by omega)).2) ?_
    (with_reducible refine Rf.exTru (by with_unfolding_all exact rfl) ?_)
    refine ⟨fun hb => ?_, fun hb => ?_⟩
    · (with_reducible refine Rf.wp_varD (by with_unfolding_all exact rfl) ?_; with_reducible refine Rf.rt_same ?_)
      rw [if_pos hb]
      exact ⟨rfl, rfl⟩
    · (with_reducible refine Rf.wp_con ?_; with_reducible refine Rf.rt_same ?_)
      rw [if_neg (by rw [hb]; decide)]
      exact ⟨rfl, rfl⟩
end
end V

namespace V
open PySem L2 PyProof.Rows Rf Nm

theorem flat_at : ∀ (l : List (List Nat × Int)) (i : Nat) (h : i < l.length), (l.map shC).flatten[2 * i]? = some (cellOf l[i].1) ∧ (l.map shC).flatten[2 * i + 1]? = some l[i].2
  | p :: l, 0, _ => ⟨rfl, rfl⟩
  | p :: l, i + 1, h => by
    have ih := flat_at l i (by simp at h; omega)
    rw [List.map_cons, List.flatten_cons, show 2 * (i + 1) = 2 + 2 * i by omega, show 2 + 2 * i + 1 = 2 + (2 * i + 1) by omega]
    refine ⟨?_, ?_⟩
    · rw [List.getElem?_append_right (by simp [shC])]
      simpa [shC] using ih.1
    · rw [List.getElem?_append_right (by simp [shC])]
      simpa [shC] using ih.2
theorem cells_len (h : Hd) : (cellsD h).length = 5 + 2 * h.shots.length := by
  unfold cellsD
  rw [List.length_append, flat_two]; rfl
theorem cells_at (h : Hd) (j : Nat) : (cellsD h)[5 + j]? = (h.shots.map shC).flatten[j]? := by
  unfold cellsD
  rw [List.getElem?_append_right (by simp)]
  simp
theorem dec_cells {h : Hd} (hn : Named h) : decD (cellsD h) = headD h := by
  have e1 : ((cellsD h).length - 5) / 2 = h.shots.length := by rw [cells_len]; omega
  unfold decD headD
  rw [e1]
  have e2 : (List.range h.shots.length).map (pairAt (cellsD h)) = h.shots.map shD := by
    apply List.ext_getElem
    · simp
    · intro i h1 h2
      have hi : i < h.shots.length := by simpa using h2
      rw [List.getElem_map, List.getElem_map, List.getElem_range]
      obtain ⟨a1, a2⟩ := flat_at h.shots i hi
      unfold pairAt shD
      rw [List.getD_eq_getElem?_getD, List.getD_eq_getElem?_getD, show 5 + 2 * i + 1 = 5 + (2 * i + 1) by omega, cells_at, cells_at, a1, a2]
      show PyData.tuple [optN (nameOf (cellOf h.shots[i].1)), .int h.shots[i].2] = _
      rw [nameOf_cell (hn.2 _ (List.getElem_mem hi))]
      rfl
  rw [e2]
  rfl
theorem head_back {size : Int} {h : Hd} (hn : Named h) (ok : headB size (headD h) = true) : headIn size (cellsD h) = headD h := by
  unfold headIn
  have e1 : (cellsD h).getD 4 0 = (h.shots.length : Int) := rfl
  rw [e1, cells_len, if_neg (by intro z; omega), dec_cells hn, if_pos ok]
section
variable {bs : List Nat} {S : Store} {n : Nat} {E : EK} {Q : W → Store → Prop}
theorem ev_is_head {size : Int} (hs : 24 ≤ size ∧ size ≤ 240) {d : PyData} (tame : tameH d) : F_is_head bs [.dat (.int size), .dat d] S = .ok (.dat (.bool (headB size d))) S := by
  refine eq_of_wp ?_
  (unfold F_is_head m_is_head; with_reducible refine Rf.wp_fn rfl ?_; simp only [Rf.startE, List.map_cons, List.map_nil, List.length_cons, List.length_nil, Nat.reduceAdd, Nat.reduceSub, List.replicate, List.cons_append, List.nil_append])
  (with_reducible refine Rf.wp_seq ?_; with_reducible refine Rf.wp_drop ?_; with_reducible refine Rf.wp_call ?_; with_reducible refine Rf.wp_cons ?_; with_reducible refine Rf.wp_varD (by with_unfolding_all exact rfl) ?_; with_reducible refine Rf.wp_nil ?_)
  refine wp_eq (ev_check_size hs) ?_
  (with_reducible refine Rf.wp_ret ?_; with_reducible refine Rf.wp_call ?_; with_reducible refine Rf.wp_cons ?_; with_reducible refine Rf.wp_varD (by with_unfolding_all exact rfl) ?_; with_reducible refine Rf.wp_cons ?_; with_reducible refine Rf.wp_varD (by with_unfolding_all exact rfl) ?_; with_reducible refine Rf.wp_nil ?_)
  refine wp_eq (ev_fits tame) ?_
  (with_reducible refine Rf.rt_same ?_)
  exact ⟨rfl, rfl⟩
theorem ev_check_head {size : Int} {d : PyData} (tame : tameH d) (ok : headB size d = true) : F__check_head bs [.dat (.int size), .dat d] S = .ok (.dat .none) S := by
  refine eq_of_wp ?_
  (unfold F__check_head m__check_head; with_reducible refine Rf.wp_fn rfl ?_; simp only [Rf.startE, List.map_cons, List.map_nil, List.length_cons, List.length_nil, Nat.reduceAdd, Nat.reduceSub, List.replicate, List.cons_append, List.nil_append])
  (with_reducible refine Rf.wp_sIf ?_; with_reducible refine Rf.wp_not ?_; with_reducible refine Rf.wp_tru ?_; with_reducible refine Rf.wp_call ?_; with_reducible refine Rf.wp_cons ?_; with_reducible refine Rf.wp_varD (by with_unfolding_all exact rfl) ?_; with_reducible refine Rf.wp_cons ?_; with_reducible refine Rf.wp_varD (by with_unfolding_all exact rfl) ?_; with_reducible refine Rf.wp_nil ?_)
  refine wp_eq (ev_fits tame) ?_
  rw [ok]
  (with_reducible refine Rf.exTru (by with_unfolding_all exact rfl) ?_; with_reducible refine Rf.ifNT ?_; with_reducible refine Rf.wp_sNil ?_)
  exact ⟨trivial, List.take_length⟩
theorem ev_check_head_no {size : Int} {d : PyData} (tame : tameH d) (ok : headB size d = false) : F__check_head bs [.dat (.int size), .dat d] S = .ex 53 [] S := by
  refine eq_ex_wp ?_
  (unfold F__check_head m__check_head; with_reducible refine Rf.wp_fn rfl ?_; simp only [Rf.startE, List.map_cons, List.map_nil, List.length_cons, List.length_nil, Nat.reduceAdd, Nat.reduceSub, List.replicate, List.cons_append, List.nil_append])
  (with_reducible refine Rf.wp_sIf ?_; with_reducible refine Rf.wp_not ?_; with_reducible refine Rf.wp_tru ?_; with_reducible refine Rf.wp_call ?_; with_reducible refine Rf.wp_cons ?_; with_reducible refine Rf.wp_varD (by with_unfolding_all exact rfl) ?_; with_reducible refine Rf.wp_cons ?_; with_reducible refine Rf.wp_varD (by with_unfolding_all exact rfl) ?_; with_reducible refine Rf.wp_nil ?_)
  refine wp_eq (ev_fits tame) ?_
  rw [ok]
  (with_reducible refine Rf.exTru (by with_unfolding_all exact rfl) ?_; with_reducible refine Rf.ifNF ?_; with_reducible refine Rf.wp_raise ?_; with_reducible refine Rf.ex_nil' ?_)
  exact ⟨rfl, rfl, rfl⟩
theorem named_tame (h : Hd) (hn : Named h) : tameH (headD h) ∧ fineH (headD h) := by
  refine ⟨fun s hs nm r e => ?_, pd_int _, fun s hs => ?_⟩
  · obtain ⟨p, hp, rfl⟩ := List.mem_map.mp hs
    unfold shD at e
    cases e
    intro z e; cases e
    have := (name_bits (hn.2 p hp)).2.1
    simpa using (by omega : p.1.length ≤ 100000)
  · obtain ⟨p, _, rfl⟩ := List.mem_map.mp hs
    unfold shD
    refine PD.mono (pd_tup (n := 0) fun x hx => ?_) (by decide)
    simp only [List.mem_cons, List.not_mem_nil, or_false] at hx
    rcases hx with rfl | rfl
    · exact pd_str _
    · exact pd_int _
theorem ev_head_cells {size : Int} (hs : 24 ≤ size ∧ size ≤ 240) {h : Hd} (hn : Named h) (ok : headB size (headD h) = true) : F_head_cells bs [.dat (.int size), .dat (headD h)] S = .ok (.dat (tI (cellsD h))) S := by
  refine eq_of_wp ?_
  (unfold F_head_cells m_head_cells; with_reducible refine Rf.wp_fn rfl ?_; simp only [Rf.startE, List.map_cons, List.map_nil, List.length_cons, List.length_nil, Nat.reduceAdd, Nat.reduceSub, List.replicate, List.cons_append, List.nil_append])
  (with_reducible refine Rf.wp_seq ?_; with_reducible refine Rf.wp_drop ?_; with_reducible refine Rf.wp_call ?_; with_reducible refine Rf.wp_cons ?_; with_reducible refine Rf.wp_varD (by with_unfolding_all exact rfl) ?_; with_reducible refine Rf.wp_nil ?_)
  refine wp_eq (ev_check_size hs) ?_
  (with_reducible refine Rf.wp_seq ?_; with_reducible refine Rf.wp_drop ?_; with_reducible refine Rf.wp_call ?_; with_reducible refine Rf.wp_cons ?_; with_reducible refine Rf.wp_varD (by with_unfolding_all exact rfl) ?_; with_reducible refine Rf.wp_cons ?_; with_reducible refine Rf.wp_varD (by with_unfolding_all exact rfl) ?_; with_reducible refine Rf.wp_nil ?_)
  refine wp_eq (ev_check_head (named_tame h hn).1 ok) ?_
  (with_reducible refine Rf.wp_ret ?_; with_reducible refine Rf.wp_call ?_; with_reducible refine Rf.wp_cons ?_; with_reducible refine Rf.wp_varD (by with_unfolding_all exact rfl) ?_; with_reducible refine Rf.wp_nil ?_)
  refine wp_eq (ev_cells_of hn) ?_
  (with_reducible refine Rf.rt_same ?_)
  exact ⟨rfl, rfl⟩
theorem ev_is_cell {c : Int} (h : okC c) : F_is_cell bs [.dat (.int c)] S = .ok (.dat (.bool true)) S := by
  refine eq_of_wp ?_
  (unfold F_is_cell m_is_cell; with_reducible refine Rf.wp_fn rfl ?_; simp only [Rf.startE, List.map_cons, List.map_nil, List.length_cons, List.length_nil, Nat.reduceAdd, Nat.reduceSub, List.replicate, List.cons_append, List.nil_append])
  (with_reducible refine Rf.wp_ret ?_; with_reducible refine Rf.wp_andV ?_; with_reducible refine Rf.wp_isi ?_; with_reducible refine Rf.wp_varD (by with_unfolding_all exact rfl) ?_; with_reducible refine Rf.isi_int ?_; dsimp only [Rf.strB, Rf.intB, Rf.boolB, Rf.tupB, Rf.dicB, Rf.noneB]; with_reducible refine Rf.exTru (by with_unfolding_all exact rfl) ?_; with_reducible refine Rf.ifT ?_; with_reducible refine Rf.wp_andV ?_; with_reducible refine Rf.wp_notV ?_; with_reducible refine Rf.wp_isi ?_; with_reducible refine Rf.wp_varD (by with_unfolding_all exact rfl) ?_; with_reducible refine Rf.isi_bool ?_; dsimp only [Rf.strB, Rf.intB, Rf.boolB, Rf.tupB, Rf.dicB, Rf.noneB]; with_reducible refine Rf.exTru (by with_unfolding_all exact rfl) ?_; with_reducible refine Rf.exTru (by with_unfolding_all exact rfl) ?_; with_reducible refine Rf.ifNF ?_; with_reducible refine Rf.wp_chain ?_; with_reducible refine Rf.wp_con ?_; with_reducible refine Rf.wp_varD (by with_unfolding_all exact rfl) ?_; with_reducible refine Rf.le_int ?_; with_reducible refine Rf.isB_mk ?_)
  refine ifD (fun h1 => ?_) (fun h1 => absurd h.1 h1)
  (with_reducible refine Rf.wp_con ?_; with_reducible refine Rf.le_int ?_; with_reducible refine Rf.rt_same ?_)
  exact ⟨by rw [decide_eq_true h.2], rfl⟩
theorem ev_are_cells {ns : List Int} {most : Nat} (hl : ns.length ≤ most) (hm : most ≤ 1000) (hc : ∀ c ∈ ns, okC c) : F_are_cells bs [.dat (tI ns), .dat (.int most)] S = .ok (.dat (.bool true)) S := by
  refine eq_of_wp ?_
  (unfold F_are_cells m_are_cells; with_reducible refine Rf.wp_fn rfl ?_; simp only [Rf.startE, List.map_cons, List.map_nil, List.length_cons, List.length_nil, Nat.reduceAdd, Nat.reduceSub, List.replicate, List.cons_append, List.nil_append])
  (with_reducible refine Rf.wp_seq ?_; with_reducible refine Rf.wp_sIf ?_; with_reducible refine Rf.wp_if ?_; with_reducible refine Rf.wp_not ?_; with_reducible refine Rf.wp_tru ?_; with_reducible refine Rf.wp_isi ?_; with_reducible refine Rf.wp_varD (by with_unfolding_all exact rfl) ?_; with_reducible refine Rf.isi_tup ?_; dsimp only [Rf.strB, Rf.intB, Rf.boolB, Rf.tupB, Rf.dicB, Rf.noneB]; with_reducible refine Rf.exTru (by with_unfolding_all exact rfl) ?_; with_reducible refine Rf.ifNT ?_; with_reducible refine Rf.wp_B ?_; with_reducible refine Rf.wp_bin ?_; with_reducible refine Rf.wp_CB ?_; with_reducible refine Rf.wp_cons ?_; with_reducible refine Rf.wp_varD (by with_unfolding_all exact rfl) ?_; with_reducible refine Rf.wp_nil ?_; with_reducible refine Rf.len_tup ?_; with_reducible refine Rf.wp_varD (by with_unfolding_all exact rfl) ?_; with_reducible refine Rf.gt_int ?_; with_reducible refine Rf.isB_mk ?_)
  rw [List.length_map]
  refine ifBF (decide_eq_false (by omega)) ?_
  (with_reducible refine Rf.wp_sNil ?_; with_reducible refine Rf.wp_ret ?_; with_reducible refine Rf.wp_CB ?_; with_reducible refine Rf.wp_cons ?_; with_reducible refine Rf.wp_comp ?_; with_reducible refine Rf.wp_itS ?_; with_reducible refine Rf.wp_varD (by with_unfolding_all exact rfl) ?_; with_reducible refine Rf.its_tup ?_)
  (with_reducible refine wp_compM (f := W.dat) (xs := ns.map PyData.int) (fun _ => .dat (.bool true)) ?_ ?_ ?_)
  · rw [List.length_map]; omega
  · intro d hd
    obtain ⟨c, hcm, rfl⟩ := List.mem_map.mp hd
    (with_reducible refine Rf.wp_call ?_; with_reducible refine Rf.wp_cons ?_; with_reducible refine Rf.wp_varD (by with_unfolding_all exact rfl) ?_; with_reducible refine Rf.wp_nil ?_)
    refine wp_eq (ev_is_cell (hc c hcm)) ?_
    exact ⟨rfl, rfl⟩
  have e : ((ns.map PyData.int).map fun _ => W.dat (.bool true)) = (ns.map fun _ => PyData.bool true).map W.dat := by rw [List.map_map, List.map_map]; rfl
  rw [e]
  (with_reducible refine Rf.nl_dat ?_; with_reducible refine Rf.wp_nil ?_; with_reducible refine Rf.all_map ?_; with_reducible refine Rf.rt_same ?_)
  rw [List.all_eq_true.mpr fun _ _ => rfl]
  exact ⟨rfl, rfl⟩
theorem ev_check_cells {ns : List Int} (hl : ns.length ≤ 52) (hc : ∀ c ∈ ns, okC c) : F_check_cells bs [.dat (tI ns)] S = .ok (.dat .none) S := by
  refine eq_of_wp ?_
  (unfold F_check_cells m_check_cells; with_reducible refine Rf.wp_fn rfl ?_; simp only [Rf.startE, List.map_cons, List.map_nil, List.length_cons, List.length_nil, Nat.reduceAdd, Nat.reduceSub, List.replicate, List.cons_append, List.nil_append])
  (with_reducible refine Rf.wp_sIf ?_; with_reducible refine Rf.wp_not ?_; with_reducible refine Rf.wp_tru ?_; with_reducible refine Rf.wp_call ?_; with_reducible refine Rf.wp_cons ?_; with_reducible refine Rf.wp_varD (by with_unfolding_all exact rfl) ?_; with_reducible refine Rf.wp_cons ?_; with_reducible refine Rf.wp_con ?_; with_reducible refine Rf.wp_nil ?_)
  refine wp_eq (ev_are_cells (most := 52) hl (by decide) hc) ?_
  (with_reducible refine Rf.exTru (by with_unfolding_all exact rfl) ?_; with_reducible refine Rf.ifNT ?_; with_reducible refine Rf.wp_sNil ?_)
  exact ⟨trivial, List.take_length⟩
theorem ev_head_of {size : Int} (hs : 24 ≤ size ∧ size ≤ 240) {cs : List Int} (hl : cs.length ≤ 52) (hc : ∀ c ∈ cs, okC c) : F_head_of bs [.dat (.int size), .dat (tI cs)] S = .ok (.dat (headIn size cs)) S := by
  refine eq_of_wp ?_
  (unfold F_head_of m_head_of; with_reducible refine Rf.wp_fn rfl ?_; simp only [Rf.startE, List.map_cons, List.map_nil, List.length_cons, List.length_nil, Nat.reduceAdd, Nat.reduceSub, List.replicate, List.cons_append, List.nil_append])
  (with_reducible refine Rf.wp_seq ?_; with_reducible refine Rf.wp_drop ?_; with_reducible refine Rf.wp_call ?_; with_reducible refine Rf.wp_cons ?_; with_reducible refine Rf.wp_varD (by with_unfolding_all exact rfl) ?_; with_reducible refine Rf.wp_nil ?_)
  refine wp_eq (ev_check_size hs) ?_
  (with_reducible refine Rf.wp_seq ?_; with_reducible refine Rf.wp_drop ?_; with_reducible refine Rf.wp_call ?_; with_reducible refine Rf.wp_cons ?_; with_reducible refine Rf.wp_varD (by with_unfolding_all exact rfl) ?_; with_reducible refine Rf.wp_nil ?_)
  refine wp_eq (ev_check_cells hl hc) ?_
  (with_reducible refine Rf.wp_ret ?_; with_reducible refine Rf.wp_call ?_; with_reducible refine Rf.wp_cons ?_; with_reducible refine Rf.wp_varD (by with_unfolding_all exact rfl) ?_; with_reducible refine Rf.wp_cons ?_; with_reducible refine Rf.wp_varD (by with_unfolding_all exact rfl) ?_; with_reducible refine Rf.wp_nil ?_)
  refine wp_eq (ev_head_in hl) ?_
  (with_reducible refine Rf.rt_same ?_)
  exact ⟨rfl, rfl⟩
/-- what comes next of a head -/
def nextD (h : Hd) (a b c : PyData) : PyData := .tuple [.int (h.turn + 1), .int h.log, a, b, c]
theorem ev_next_yes {size : Int} (hs : 24 ≤ size ∧ size ≤ 240) {h : Hd} (hn : Named h) (ok : headB size (headD h) = true) {a b c : PyData} (tame : tameS c) (ok2 : headB size (nextD h a b c) = true) :
    F_next_head bs [.dat (.int size), .dat (headD h), .dat a, .dat b, .dat c] S = .ok (.dat (nextD h a b c)) S := by
  refine eq_of_wp ?_
  (unfold F_next_head m_next_head; with_reducible refine Rf.wp_fn rfl ?_; simp only [Rf.startE, List.map_cons, List.map_nil, List.length_cons, List.length_nil, Nat.reduceAdd, Nat.reduceSub, List.replicate, List.cons_append, List.nil_append])
  (with_reducible refine Rf.wp_seq ?_; with_reducible refine Rf.wp_drop ?_; with_reducible refine Rf.wp_call ?_; with_reducible refine Rf.wp_cons ?_; with_reducible refine Rf.wp_varD (by with_unfolding_all exact rfl) ?_; with_reducible refine Rf.wp_nil ?_)
  refine wp_eq (ev_check_size hs) ?_
  (with_reducible refine Rf.wp_seq ?_; with_reducible refine Rf.wp_drop ?_; with_reducible refine Rf.wp_call ?_; with_reducible refine Rf.wp_cons ?_; with_reducible refine Rf.wp_varD (by with_unfolding_all exact rfl) ?_; with_reducible refine Rf.wp_cons ?_; with_reducible refine Rf.wp_varD (by with_unfolding_all exact rfl) ?_; with_reducible refine Rf.wp_nil ?_)
  refine wp_eq (ev_check_head (named_tame h hn).1 ok) ?_
  unfold headD
  (with_reducible refine Rf.wp_seq ?_; with_reducible refine Rf.wp_asg ?_; with_reducible refine Rf.wp_tup ?_; with_reducible refine Rf.wp_cons ?_; with_reducible refine Rf.wp_bin ?_; with_reducible refine Rf.wp_bin ?_; with_reducible refine Rf.wp_varD (by with_unfolding_all exact rfl) ?_; with_reducible refine Rf.wp_con ?_)
  refine ix_tup (d := .int h.turn) (atI_ofNat (n := 0) rfl) ?_
  (with_reducible refine Rf.wp_con ?_; with_reducible refine Rf.add_int ?_; with_reducible refine Rf.wp_cons ?_; with_reducible refine Rf.wp_bin ?_; with_reducible refine Rf.wp_varD (by with_unfolding_all exact rfl) ?_; with_reducible refine Rf.wp_con ?_)
  refine ix_tup (d := .int h.log) (atI_ofNat (n := 1) rfl) ?_
  (with_reducible refine Rf.wp_cons ?_; with_reducible refine Rf.wp_varD (by with_unfolding_all exact rfl) ?_; with_reducible refine Rf.wp_cons ?_; with_reducible refine Rf.wp_varD (by with_unfolding_all exact rfl) ?_; with_reducible refine Rf.wp_cons ?_; with_reducible refine Rf.wp_varD (by with_unfolding_all exact rfl) ?_; with_reducible refine Rf.wp_nil ?_; with_reducible refine Rf.tp_dat (by with_unfolding_all exact rfl) (by with_unfolding_all exact rfl) ?_; dsimp only [Rf.strB, Rf.intB, Rf.boolB, Rf.tupB, Rf.dicB, Rf.noneB]; with_reducible refine Rf.wp_name ?_; with_reducible refine Rf.wp_seq ?_; with_reducible refine Rf.wp_drop ?_; with_reducible refine Rf.wp_call ?_; with_reducible refine Rf.wp_cons ?_; with_reducible refine Rf.wp_varD (by with_unfolding_all exact rfl) ?_; with_reducible refine Rf.wp_cons ?_; with_reducible refine Rf.wp_varD (by with_unfolding_all exact rfl) ?_; with_reducible refine Rf.wp_nil ?_)
  refine wp_eq (ev_check_head (d := nextD h a b c) tame ok2) ?_
  (with_reducible refine Rf.wp_ret ?_; with_reducible refine Rf.wp_varD (by with_unfolding_all exact rfl) ?_; with_reducible refine Rf.rt_same ?_)
  exact ⟨rfl, rfl⟩
theorem ev_next_no {size : Int} (hs : 24 ≤ size ∧ size ≤ 240) {h : Hd} (hn : Named h) (ok : headB size (headD h) = true) {a b c : PyData} (tame : tameS c) (ok2 : headB size (nextD h a b c) = false) :
    F_next_head bs [.dat (.int size), .dat (headD h), .dat a, .dat b, .dat c] S = .ex 53 [] S := by
  refine eq_ex_wp ?_
  (unfold F_next_head m_next_head; with_reducible refine Rf.wp_fn rfl ?_; simp only [Rf.startE, List.map_cons, List.map_nil, List.length_cons, List.length_nil, Nat.reduceAdd, Nat.reduceSub, List.replicate, List.cons_append, List.nil_append])
  (with_reducible refine Rf.wp_seq ?_; with_reducible refine Rf.wp_drop ?_; with_reducible refine Rf.wp_call ?_; with_reducible refine Rf.wp_cons ?_; with_reducible refine Rf.wp_varD (by with_unfolding_all exact rfl) ?_; with_reducible refine Rf.wp_nil ?_)
  refine wp_eq (ev_check_size hs) ?_
  (with_reducible refine Rf.wp_seq ?_; with_reducible refine Rf.wp_drop ?_; with_reducible refine Rf.wp_call ?_; with_reducible refine Rf.wp_cons ?_; with_reducible refine Rf.wp_varD (by with_unfolding_all exact rfl) ?_; with_reducible refine Rf.wp_cons ?_; with_reducible refine Rf.wp_varD (by with_unfolding_all exact rfl) ?_; with_reducible refine Rf.wp_nil ?_)
  refine wp_eq (ev_check_head (named_tame h hn).1 ok) ?_
  unfold headD
  (with_reducible refine Rf.wp_seq ?_; with_reducible refine Rf.wp_asg ?_; with_reducible refine Rf.wp_tup ?_; with_reducible refine Rf.wp_cons ?_; with_reducible refine Rf.wp_bin ?_; with_reducible refine Rf.wp_bin ?_; with_reducible refine Rf.wp_varD (by with_unfolding_all exact rfl) ?_; with_reducible refine Rf.wp_con ?_)
  refine ix_tup (d := .int h.turn) (atI_ofNat (n := 0) rfl) ?_
  (with_reducible refine Rf.wp_con ?_; with_reducible refine Rf.add_int ?_; with_reducible refine Rf.wp_cons ?_; with_reducible refine Rf.wp_bin ?_; with_reducible refine Rf.wp_varD (by with_unfolding_all exact rfl) ?_; with_reducible refine Rf.wp_con ?_)
  refine ix_tup (d := .int h.log) (atI_ofNat (n := 1) rfl) ?_
  (with_reducible refine Rf.wp_cons ?_; with_reducible refine Rf.wp_varD (by with_unfolding_all exact rfl) ?_; with_reducible refine Rf.wp_cons ?_; with_reducible refine Rf.wp_varD (by with_unfolding_all exact rfl) ?_; with_reducible refine Rf.wp_cons ?_; with_reducible refine Rf.wp_varD (by with_unfolding_all exact rfl) ?_; with_reducible refine Rf.wp_nil ?_; with_reducible refine Rf.tp_dat (by with_unfolding_all exact rfl) (by with_unfolding_all exact rfl) ?_; dsimp only [Rf.strB, Rf.intB, Rf.boolB, Rf.tupB, Rf.dicB, Rf.noneB]; with_reducible refine Rf.wp_name ?_; with_reducible refine Rf.wp_seq ?_; with_reducible refine Rf.wp_drop ?_; with_reducible refine Rf.wp_call ?_; with_reducible refine Rf.wp_cons ?_; with_reducible refine Rf.wp_varD (by with_unfolding_all exact rfl) ?_; with_reducible refine Rf.wp_cons ?_; with_reducible refine Rf.wp_varD (by with_unfolding_all exact rfl) ?_; with_reducible refine Rf.wp_nil ?_)
  refine wp_exq (ev_check_head_no (d := nextD h a b c) tame ok2) ?_
  exact ex_nil' ⟨rfl, rfl, rfl⟩
theorem wp_next_ok {lam : Lam} {d : PyData} (h : ∀ bs', lam bs' S = .ok (.dat d) S) (q : Q (.dat (.tuple [.str "told", d])) S) : (F__law_next lam bs S).wp Q E := by
  unfold F__law_next m__law_next
  refine wp_fnL ?_
  (with_reducible refine Rf.wp_try ?_; with_reducible refine Rf.wp_ret ?_; with_reducible refine Rf.wp_tup ?_; with_reducible refine Rf.wp_cons ?_; with_reducible refine Rf.wp_con ?_; with_reducible refine Rf.wp_cons ?_; with_reducible refine Rf.wp_thunk ?_)
  refine wp_eq (h _) ?_
  (with_reducible refine Rf.wp_nil ?_; with_reducible refine Rf.tp_dat (by with_unfolding_all exact rfl) (by with_unfolding_all exact rfl) ?_; dsimp only [Rf.strB, Rf.intB, Rf.boolB, Rf.tupB, Rf.dicB, Rf.noneB]; with_reducible refine Rf.rt_same ?_)
  exact q
theorem wp_next_ex {lam : Lam} (h : ∀ bs', lam bs' S = .ex 53 [] S) (q : Q (.dat (.tuple [.str "refused", .int 0])) S) : (F__law_next lam bs S).wp Q E := by
  unfold F__law_next m__law_next
  refine wp_fnL ?_
  (with_reducible refine Rf.wp_try ?_; with_reducible refine Rf.wp_ret ?_; with_reducible refine Rf.wp_tup ?_; with_reducible refine Rf.wp_cons ?_; with_reducible refine Rf.wp_con ?_; with_reducible refine Rf.wp_cons ?_; with_reducible refine Rf.wp_thunk ?_)
  refine wp_exq (h _) ?_
  refine xp_hit (h := ⟨53, none, _⟩) (by decide) rfl ?_
  (with_reducible refine Rf.wp_suite ?_; dsimp only [Rf.strB, Rf.intB, Rf.boolB, Rf.tupB, Rf.dicB, Rf.noneB]; with_reducible refine Rf.wp_ret ?_; with_reducible refine Rf.wp_tup ?_; with_reducible refine Rf.wp_cons ?_; with_reducible refine Rf.wp_con ?_; with_reducible refine Rf.wp_cons ?_; with_reducible refine Rf.wp_con ?_; with_reducible refine Rf.wp_nil ?_; with_reducible refine Rf.tp_dat (by with_unfolding_all exact rfl) (by with_unfolding_all exact rfl) ?_; dsimp only [Rf.strB, Rf.intB, Rf.boolB, Rf.tupB, Rf.dicB, Rf.noneB]; with_reducible refine Rf.rt_same ?_)
  exact q
end
end V

namespace V
open PySem L2 PyProof.Rows Rf Nm

/-! ### draws -/
section
variable {bs : List Nat} {S : Store} {n : Nat} {E : EK}
theorem wp_drop (hv : Vat S n) {t : Int} (ht : 0 < t) (ht2 : t ≤ 1000000000000000000) : (F__law_draw bs [.loc n, .dat (.int t)] S).wp (fun w S' => DW n S (fun w => ∃ r : Int, w = .dat (.int r) ∧ 0 ≤ r ∧ r < t) w S') E := by
  have hn := hv.lt
  obtain ⟨a, b, c, e⟩ := hv
  have res : ∀ x : Int, ∃ r : Int, W.dat (.int (x % t)) = .dat (.int r) ∧ 0 ≤ r ∧ r < t := fun x => ⟨x % t, rfl, Int.emod_nonneg _ (by omega), Int.emod_lt_of_pos _ ht⟩
  (unfold F__law_draw m__law_draw; with_reducible refine Rf.wp_fn rfl ?_; simp only [Rf.startE, List.map_cons, List.map_nil, List.length_cons, List.length_nil, Nat.reduceAdd, Nat.reduceSub, List.replicate, List.cons_append, List.nil_append])
  (with_reducible refine Rf.wp_seq ?_; with_reducible refine Rf.wp_sIf ?_; with_reducible refine Rf.wp_B ?_; with_reducible refine Rf.wp_bin ?_; with_reducible refine Rf.wp_bin ?_; with_reducible refine Rf.wp_varL (by with_unfolding_all exact rfl) ?_; with_reducible refine Rf.wp_con ?_)
  refine ix_loc (w := .int a) e rfl ?_
  (with_reducible refine Rf.wp_con ?_; with_reducible refine Rf.gt_int ?_; with_reducible refine Rf.isB_mk ?_)
  refine ifD (fun h => ?_) (fun h => ?_)
  · (with_reducible refine Rf.wp_seq ?_; with_reducible refine Rf.wp_asg ?_; with_reducible refine Rf.wp_bin ?_; with_reducible refine Rf.wp_CB ?_; with_reducible refine Rf.wp_cons ?_; with_reducible refine Rf.wp_bin ?_; with_reducible refine Rf.wp_varL (by with_unfolding_all exact rfl) ?_; with_reducible refine Rf.wp_con ?_)
    refine ix_loc (w := .int a) e rfl ?_
    (with_reducible refine Rf.wp_nil ?_; with_reducible refine Rf.int_int ?_; with_reducible refine Rf.wp_varD (by with_unfolding_all exact rfl) ?_; (with_reducible refine Rf.mod_int ?_ ?_; first | decide | omega); with_reducible refine Rf.wp_name ?_; with_reducible refine Rf.wp_seq ?_; with_reducible refine Rf.wp_asg ?_; with_reducible refine Rf.wp_bin ?_; with_reducible refine Rf.wp_bin ?_; with_reducible refine Rf.wp_varL (by with_unfolding_all exact rfl) ?_; with_reducible refine Rf.wp_con ?_)
    refine ix_loc (w := .int a) e rfl ?_
    (with_reducible refine Rf.wp_varD (by with_unfolding_all exact rfl) ?_; (with_reducible refine Rf.div_int ?_ ?_; first | decide | omega))
    refine wp_tSub ?_
    (with_reducible refine Rf.wp_varL (by with_unfolding_all exact rfl) ?_; with_reducible refine Rf.wp_con ?_)
    refine set_loc (m := 0) e rfl ?_
    (with_reducible refine Rf.wp_ret ?_; with_reducible refine Rf.wp_varD (by with_unfolding_all exact rfl) ?_)
    refine rt_len (by simp) ⟨res _, drawn_set hn _ _ _⟩
  · (with_reducible refine Rf.wp_sNil ?_; with_reducible refine Rf.wp_seq ?_; with_reducible refine Rf.wp_asg ?_; with_reducible refine Rf.wp_bin ?_; with_reducible refine Rf.wp_bin ?_; with_reducible refine Rf.wp_varL (by with_unfolding_all exact rfl) ?_; with_reducible refine Rf.wp_con ?_)
    refine ix_loc (w := .int c) e rfl ?_
    (with_reducible refine Rf.wp_con ?_; with_reducible refine Rf.add_int ?_)
    refine wp_tSub ?_
    (with_reducible refine Rf.wp_varL (by with_unfolding_all exact rfl) ?_; with_reducible refine Rf.wp_con ?_)
    refine set_loc (m := 2) e rfl ?_
    have e1 : (S.set n (.lst [.int a, .int b, .int (c + 1)]))[n]? = some (.lst [.int a, .int b, .int (c + 1)]) := List.getElem?_set_self hn
    show SO.wp _ _ _ _ _ _
    (with_reducible refine Rf.wp_seq ?_; with_reducible refine Rf.wp_asg ?_; with_reducible refine Rf.wp_bin ?_; with_reducible refine Rf.wp_CB ?_; with_reducible refine Rf.wp_cons ?_; with_reducible refine Rf.wp_bin ?_; with_reducible refine Rf.wp_bin ?_; with_reducible refine Rf.wp_varL (by with_unfolding_all exact rfl) ?_; with_reducible refine Rf.wp_con ?_)
    refine ix_loc (w := .int b) e1 rfl ?_
    (with_reducible refine Rf.wp_bin ?_; with_reducible refine Rf.wp_con ?_; with_reducible refine Rf.wp_bin ?_; with_reducible refine Rf.wp_varL (by with_unfolding_all exact rfl) ?_; with_reducible refine Rf.wp_con ?_)
    refine ix_loc (w := .int (c + 1)) e1 rfl ?_
    ((with_reducible refine Rf.mul_int ?_ ?_; first | (refine Rf.mulOk_l ?_; decide) | (refine Rf.mulOk_r ?_; decide) | (refine Rf.mulOk_l ?_; omega) | (refine Rf.mulOk_r ?_; omega)); with_reducible refine Rf.add_int ?_; with_reducible refine Rf.wp_nil ?_; with_reducible refine Rf.int_int ?_; with_reducible refine Rf.wp_con ?_; (with_reducible refine Rf.mod_int ?_ ?_; first | decide | omega); with_reducible refine Rf.wp_name ?_; with_reducible refine Rf.wp_seq ?_; with_reducible refine Rf.wp_asg ?_; with_reducible refine Rf.wp_bin ?_; with_reducible refine Rf.wp_bin ?_; with_reducible refine Rf.wp_bin ?_; with_reducible refine Rf.wp_CB ?_; with_reducible refine Rf.wp_cons ?_; with_reducible refine Rf.wp_bin ?_; with_reducible refine Rf.wp_bin ?_; with_reducible refine Rf.wp_varD (by with_unfolding_all exact rfl) ?_; with_reducible refine Rf.wp_varD (by with_unfolding_all exact rfl) ?_; (with_reducible refine Rf.mul_int ?_ ?_; first | (refine Rf.mulOk_l ?_; decide) | (refine Rf.mulOk_r ?_; decide) | (refine Rf.mulOk_l ?_; omega) | (refine Rf.mulOk_r ?_; omega)); with_reducible refine Rf.wp_bin ?_; with_reducible refine Rf.wp_con ?_; with_reducible refine Rf.wp_bin ?_; with_reducible refine Rf.wp_varL (by with_unfolding_all exact rfl) ?_; with_reducible refine Rf.wp_con ?_)
    refine ix_loc (w := .int (c + 1)) e1 rfl ?_
    ((with_reducible refine Rf.mul_int ?_ ?_; first | (refine Rf.mulOk_l ?_; decide) | (refine Rf.mulOk_r ?_; decide) | (refine Rf.mulOk_l ?_; omega) | (refine Rf.mulOk_r ?_; omega)); with_reducible refine Rf.add_int ?_; with_reducible refine Rf.wp_nil ?_; with_reducible refine Rf.int_int ?_; with_reducible refine Rf.wp_con ?_; (with_reducible refine Rf.mod_int ?_ ?_; first | decide | omega); with_reducible refine Rf.wp_con ?_; (with_reducible refine Rf.mul_int ?_ ?_; first | (refine Rf.mulOk_l ?_; decide) | (refine Rf.mulOk_r ?_; decide) | (refine Rf.mulOk_l ?_; omega) | (refine Rf.mulOk_r ?_; omega)); with_reducible refine Rf.wp_varD (by with_unfolding_all exact rfl) ?_; with_reducible refine Rf.add_int ?_; with_reducible refine Rf.wp_name ?_; with_reducible refine Rf.wp_ret ?_; with_reducible refine Rf.wp_bin ?_; with_reducible refine Rf.wp_CB ?_; with_reducible refine Rf.wp_cons ?_; with_reducible refine Rf.wp_bin ?_; with_reducible refine Rf.wp_varD (by with_unfolding_all exact rfl) ?_; with_reducible refine Rf.wp_con ?_; (with_reducible refine Rf.div_int ?_ ?_; first | decide | omega); with_reducible refine Rf.wp_nil ?_; with_reducible refine Rf.int_int ?_; with_reducible refine Rf.wp_varD (by with_unfolding_all exact rfl) ?_; (with_reducible refine Rf.mod_int ?_ ?_; first | decide | omega))
    refine rt_len (by simp) ⟨res _, drawn_set hn _ _ _⟩
theorem wp_taste (hv : Vat S n) {ds : List PyData} (h0 : ds ≠ []) (hl : ds.length ≤ 100000) : (F__law_take bs [.loc n, .dat (.list ds)] S).wp (fun w S' => DW n S (fun w => ∃ d ∈ ds, w = .dat d) w S') E := by
  have hp : 0 < ds.length := List.length_pos_iff.mpr h0
  (unfold F__law_take m__law_take; with_reducible refine Rf.wp_fn rfl ?_; simp only [Rf.startE, List.map_cons, List.map_nil, List.length_cons, List.length_nil, Nat.reduceAdd, Nat.reduceSub, List.replicate, List.cons_append, List.nil_append])
  (with_reducible refine Rf.wp_ret ?_; with_reducible refine Rf.wp_bin ?_; with_reducible refine Rf.wp_varD (by with_unfolding_all exact rfl) ?_; with_reducible refine Rf.wp_call ?_; with_reducible refine Rf.wp_cons ?_; with_reducible refine Rf.wp_varL (by with_unfolding_all exact rfl) ?_; with_reducible refine Rf.wp_cons ?_; with_reducible refine Rf.wp_CB ?_; with_reducible refine Rf.wp_cons ?_; with_reducible refine Rf.wp_varD (by with_unfolding_all exact rfl) ?_; with_reducible refine Rf.wp_nil ?_; with_reducible refine Rf.len_lst ?_; with_reducible refine Rf.wp_nil ?_)
  refine (wp_drop hv (by omega) (by omega)).use fun w S' ⟨⟨r, hw, r0, r1⟩, hd⟩ => ?_
  subst hw
  skip
  obtain ⟨k, rfl⟩ := Int.eq_ofNat_of_zero_le r0
  have hk : k < ds.length := by omega
  refine ix_lst (d := ds[k]) (atI_ofNat (List.getElem?_eq_getElem hk)) ?_
  exact rt_len hd.len ⟨⟨_, List.getElem_mem hk, rfl⟩, hd⟩
theorem wp_vat (ns : List Int) (k : Nat) : (F__law_chest bs [.lw (ns.map fun n => .dat (.int n)), .dat (.int k)] S).wp (fun w S' => w = .loc S.length ∧ ∃ a b c : Int, S' = S ++ [.lst [.int a, .int b, .int c]]) E := by
  (unfold F__law_chest m__law_chest; with_reducible refine Rf.wp_fn rfl ?_; simp only [Rf.startE, List.map_cons, List.map_nil, List.length_cons, List.length_nil, Nat.reduceAdd, Nat.reduceSub, List.replicate, List.cons_append, List.nil_append])
  (with_reducible refine Rf.wp_seq ?_; with_reducible refine Rf.wp_asg ?_; with_reducible refine Rf.wp_if ?_; with_reducible refine Rf.wp_B ?_; with_reducible refine Rf.wp_bin ?_; with_reducible refine Rf.wp_varD (by with_unfolding_all exact rfl) ?_; with_reducible refine Rf.wp_CB ?_; with_reducible refine Rf.wp_cons ?_; with_reducible refine Rf.wp_varLw (by with_unfolding_all exact rfl) ?_; with_reducible refine Rf.wp_nil ?_; with_reducible refine Rf.len_lw ?_; with_reducible refine Rf.lt_int ?_; with_reducible refine Rf.isB_mk ?_)
  refine ifD (fun h => ?_) (fun h => ?_)
  · rw [List.length_map] at h
    have hk : k < ns.length := by omega
    (with_reducible refine Rf.wp_CB ?_; with_reducible refine Rf.wp_cons ?_; with_reducible refine Rf.wp_bin ?_; with_reducible refine Rf.wp_varLw (by with_unfolding_all exact rfl) ?_; with_reducible refine Rf.wp_varD (by with_unfolding_all exact rfl) ?_)
    refine ix_seq (w := .dat (.int ns[k])) (ws := ns.map fun n => .dat (.int n)) rfl (atI_ofNat (by rw [List.getElem?_map, List.getElem?_eq_getElem hk]; rfl)) ?_
    (with_reducible refine Rf.wp_nil ?_; with_reducible refine Rf.int_int ?_; with_reducible refine Rf.wp_name ?_; with_reducible refine Rf.wp_seq ?_; with_reducible refine Rf.wp_asg ?_; with_reducible refine Rf.wp_bin ?_; with_reducible refine Rf.wp_CB ?_; with_reducible refine Rf.wp_cons ?_; with_reducible refine Rf.wp_CB ?_; with_reducible refine Rf.wp_cons ?_; with_reducible refine Rf.wp_varD (by with_unfolding_all exact rfl) ?_; with_reducible refine Rf.wp_nil ?_; with_reducible refine Rf.abs_int ?_; with_reducible refine Rf.wp_nil ?_; with_reducible refine Rf.int_int ?_; with_reducible refine Rf.wp_bin ?_; with_reducible refine Rf.wp_bin ?_; with_reducible refine Rf.wp_con ?_; with_reducible refine Rf.wp_con ?_)
    refine pow_int (r := 10000000000000000000000000000000000000000000000000000) (by decide) (by decide) ?_
    (with_reducible refine Rf.wp_con ?_)
    refine pow_int (r := 10000000000000000000000000000000000000000000000000000000000000000000000000000000000000000000000000000000000000000000000000000000000000000000000000000000000000000000000000000000000000000000000000000000000000000000000000000000000000000000000000000000000000000000000000000000000000000000000000000000000000000000000000000000000000000000000000000000000000000000000000000) (by decide +kernel) (by decide +kernel) ?_
    refine mod_int (by decide +kernel) ?_
    (with_reducible refine Rf.wp_name ?_; with_reducible refine Rf.wp_seq ?_; with_reducible refine Rf.wp_asg ?_; with_reducible refine Rf.wp_CB ?_; with_reducible refine Rf.wp_cons ?_; with_reducible refine Rf.wp_bin ?_; with_reducible refine Rf.wp_bin ?_; with_reducible refine Rf.wp_bin ?_; with_reducible refine Rf.wp_bin ?_; with_reducible refine Rf.wp_bin ?_; with_reducible refine Rf.wp_varD (by with_unfolding_all exact rfl) ?_; with_reducible refine Rf.wp_con ?_; (with_reducible refine Rf.mod_int ?_ ?_; first | decide | omega); with_reducible refine Rf.wp_con ?_; (with_reducible refine Rf.mul_int ?_ ?_; first | (refine Rf.mulOk_l ?_; decide) | (refine Rf.mulOk_r ?_; decide) | (refine Rf.mulOk_l ?_; omega) | (refine Rf.mulOk_r ?_; omega)); with_reducible refine Rf.wp_bin ?_; with_reducible refine Rf.wp_con ?_; with_reducible refine Rf.wp_varD (by with_unfolding_all exact rfl) ?_; (with_reducible refine Rf.mul_int ?_ ?_; first | (refine Rf.mulOk_l ?_; decide) | (refine Rf.mulOk_r ?_; decide) | (refine Rf.mulOk_l ?_; omega) | (refine Rf.mulOk_r ?_; omega)); with_reducible refine Rf.add_int ?_; with_reducible refine Rf.wp_bin ?_; with_reducible refine Rf.wp_con ?_; with_reducible refine Rf.wp_CB ?_; with_reducible refine Rf.wp_cons ?_; with_reducible refine Rf.wp_bin ?_; with_reducible refine Rf.wp_varD (by with_unfolding_all exact rfl) ?_; with_reducible refine Rf.wp_con ?_; with_reducible refine Rf.lt_int ?_; with_reducible refine Rf.wp_nil ?_; with_reducible refine Rf.int_bool ?_; (with_reducible refine Rf.mul_int ?_ ?_; first | (refine Rf.mulOk_l ?_; decide) | (refine Rf.mulOk_r ?_; decide) | (refine Rf.mulOk_l ?_; omega) | (refine Rf.mulOk_r ?_; omega)); with_reducible refine Rf.add_int ?_; with_reducible refine Rf.wp_con ?_; with_reducible refine Rf.add_int ?_; with_reducible refine Rf.wp_nil ?_; with_reducible refine Rf.int_int ?_; with_reducible refine Rf.wp_name ?_; with_reducible refine Rf.wp_ret ?_; with_reducible refine Rf.wp_lst ?_; with_reducible refine Rf.wp_cons ?_; with_reducible refine Rf.wp_CB ?_; with_reducible refine Rf.wp_cons ?_; with_reducible refine Rf.wp_con ?_; with_reducible refine Rf.wp_cons ?_; with_reducible refine Rf.wp_bin ?_; with_reducible refine Rf.wp_varD (by with_unfolding_all exact rfl) ?_; with_reducible refine Rf.wp_bin ?_; with_reducible refine Rf.wp_con ?_; with_reducible refine Rf.wp_con ?_)
    refine pow_int (r := 10000000000000000) (by decide) (by decide) ?_
    (with_reducible refine Rf.sub_int ?_; with_reducible refine Rf.wp_nil ?_; with_reducible refine Rf.max_int ?_; with_reducible refine Rf.wp_cons ?_; with_reducible refine Rf.wp_bin ?_; with_reducible refine Rf.wp_varD (by with_unfolding_all exact rfl) ?_; with_reducible refine Rf.wp_con ?_; (with_reducible refine Rf.mod_int ?_ ?_; first | decide | omega); with_reducible refine Rf.wp_cons ?_; with_reducible refine Rf.wp_con ?_; with_reducible refine Rf.wp_nil ?_; with_reducible refine Rf.lp_cell (by with_unfolding_all exact rfl) ?_)
    exact rt_new (Nat.le_refl _) ⟨rfl, _, _, _, rfl⟩
  · (with_reducible refine Rf.wp_bin ?_; with_reducible refine Rf.wp_bin ?_; with_reducible refine Rf.wp_con ?_; with_reducible refine Rf.wp_varD (by with_unfolding_all exact rfl) ?_; (with_reducible refine Rf.mul_int ?_ ?_; first | (refine Rf.mulOk_l ?_; decide) | (refine Rf.mulOk_r ?_; decide) | (refine Rf.mulOk_l ?_; omega) | (refine Rf.mulOk_r ?_; omega)); with_reducible refine Rf.wp_con ?_; with_reducible refine Rf.add_int ?_; with_reducible refine Rf.wp_name ?_; with_reducible refine Rf.wp_seq ?_; with_reducible refine Rf.wp_asg ?_; with_reducible refine Rf.wp_bin ?_; with_reducible refine Rf.wp_CB ?_; with_reducible refine Rf.wp_cons ?_; with_reducible refine Rf.wp_CB ?_; with_reducible refine Rf.wp_cons ?_; with_reducible refine Rf.wp_varD (by with_unfolding_all exact rfl) ?_; with_reducible refine Rf.wp_nil ?_; with_reducible refine Rf.abs_int ?_; with_reducible refine Rf.wp_nil ?_; with_reducible refine Rf.int_int ?_; with_reducible refine Rf.wp_bin ?_; with_reducible refine Rf.wp_bin ?_; with_reducible refine Rf.wp_con ?_; with_reducible refine Rf.wp_con ?_)
    refine pow_int (r := 10000000000000000000000000000000000000000000000000000) (by decide) (by decide) ?_
    (with_reducible refine Rf.wp_con ?_)
    refine pow_int (r := 10000000000000000000000000000000000000000000000000000000000000000000000000000000000000000000000000000000000000000000000000000000000000000000000000000000000000000000000000000000000000000000000000000000000000000000000000000000000000000000000000000000000000000000000000000000000000000000000000000000000000000000000000000000000000000000000000000000000000000000000000000) (by decide +kernel) (by decide +kernel) ?_
    refine mod_int (by decide +kernel) ?_
    (with_reducible refine Rf.wp_name ?_; with_reducible refine Rf.wp_seq ?_; with_reducible refine Rf.wp_asg ?_; with_reducible refine Rf.wp_CB ?_; with_reducible refine Rf.wp_cons ?_; with_reducible refine Rf.wp_bin ?_; with_reducible refine Rf.wp_bin ?_; with_reducible refine Rf.wp_bin ?_; with_reducible refine Rf.wp_bin ?_; with_reducible refine Rf.wp_bin ?_; with_reducible refine Rf.wp_varD (by with_unfolding_all exact rfl) ?_; with_reducible refine Rf.wp_con ?_; (with_reducible refine Rf.mod_int ?_ ?_; first | decide | omega); with_reducible refine Rf.wp_con ?_; (with_reducible refine Rf.mul_int ?_ ?_; first | (refine Rf.mulOk_l ?_; decide) | (refine Rf.mulOk_r ?_; decide) | (refine Rf.mulOk_l ?_; omega) | (refine Rf.mulOk_r ?_; omega)); with_reducible refine Rf.wp_bin ?_; with_reducible refine Rf.wp_con ?_; with_reducible refine Rf.wp_varD (by with_unfolding_all exact rfl) ?_; (with_reducible refine Rf.mul_int ?_ ?_; first | (refine Rf.mulOk_l ?_; decide) | (refine Rf.mulOk_r ?_; decide) | (refine Rf.mulOk_l ?_; omega) | (refine Rf.mulOk_r ?_; omega)); with_reducible refine Rf.add_int ?_; with_reducible refine Rf.wp_bin ?_; with_reducible refine Rf.wp_con ?_; with_reducible refine Rf.wp_CB ?_; with_reducible refine Rf.wp_cons ?_; with_reducible refine Rf.wp_bin ?_; with_reducible refine Rf.wp_varD (by with_unfolding_all exact rfl) ?_; with_reducible refine Rf.wp_con ?_; with_reducible refine Rf.lt_int ?_; with_reducible refine Rf.wp_nil ?_; with_reducible refine Rf.int_bool ?_; (with_reducible refine Rf.mul_int ?_ ?_; first | (refine Rf.mulOk_l ?_; decide) | (refine Rf.mulOk_r ?_; decide) | (refine Rf.mulOk_l ?_; omega) | (refine Rf.mulOk_r ?_; omega)); with_reducible refine Rf.add_int ?_; with_reducible refine Rf.wp_con ?_; with_reducible refine Rf.add_int ?_; with_reducible refine Rf.wp_nil ?_; with_reducible refine Rf.int_int ?_; with_reducible refine Rf.wp_name ?_; with_reducible refine Rf.wp_ret ?_; with_reducible refine Rf.wp_lst ?_; with_reducible refine Rf.wp_cons ?_; with_reducible refine Rf.wp_CB ?_; with_reducible refine Rf.wp_cons ?_; with_reducible refine Rf.wp_con ?_; with_reducible refine Rf.wp_cons ?_; with_reducible refine Rf.wp_bin ?_; with_reducible refine Rf.wp_varD (by with_unfolding_all exact rfl) ?_; with_reducible refine Rf.wp_bin ?_; with_reducible refine Rf.wp_con ?_; with_reducible refine Rf.wp_con ?_)
    refine pow_int (r := 10000000000000000) (by decide) (by decide) ?_
    (with_reducible refine Rf.sub_int ?_; with_reducible refine Rf.wp_nil ?_; with_reducible refine Rf.max_int ?_; with_reducible refine Rf.wp_cons ?_; with_reducible refine Rf.wp_bin ?_; with_reducible refine Rf.wp_varD (by with_unfolding_all exact rfl) ?_; with_reducible refine Rf.wp_con ?_; (with_reducible refine Rf.mod_int ?_ ?_; first | decide | omega); with_reducible refine Rf.wp_cons ?_; with_reducible refine Rf.wp_con ?_; with_reducible refine Rf.wp_nil ?_; with_reducible refine Rf.lp_cell (by with_unfolding_all exact rfl) ?_)
    exact rt_new (Nat.le_refl _) ⟨rfl, _, _, _, rfl⟩
end
end V

namespace V
open PySem L2 PyProof.Rows Rf Nm

/-! ### a drawn head -/
theorem sortX {ys : List Str} (few : ys.length < 4000) {bs : List Nat} {S : Store} {Q : W → Store → Prop} (q : Q (.dat (.list (((uniq ys).mergeSort sLe).map .str))) S) : wpo (sortSetXF false bs [.dat (.list (ys.map .str))] S) Q := by
  have e : sortSetXF false bs [.dat (.list (ys.map .str))] S = some (.dat (.list (((uniq ys).mergeSort sLe).map .str)), S) := by
    have l : lstOf S (.dat (.list (ys.map .str))) = some ((ys.map PyData.str).map W.dat) := rfl
    cases ys with
    | nil =>
      have : (uniq ([] : List Str)).mergeSort sLe = [] := List.mergeSort_nil
      have s0 : sortInts (uniq ([] : List Int)) = [] := (sortInts_eq (ns := uniq ([] : List Int)) (ms := []) (by decide) (by decide)).symm
      rw [this]
      have f1 : sortSetF false bs [.dat (.list (([] : List Str).map .str))] S = some (.dat (.list []), S) := by
        show (if 0 < 60 then some (newL false ((sortInts (uniq ([] : List Int))).map fun i => W.dat (.int i)) S) else none) = _
        rw [s0]; rfl
      unfold sortSetXF
      rw [f1]; rfl
    | cons y ys =>
      have i : intsW (((y :: ys).map PyData.str).map W.dat) = none := rfl
      have a : (allDat (((y :: ys).map PyData.str).map W.dat)).bind rowsID = none := by rw [allDat_map]; rfl
      have s : strsW (((y :: ys).map PyData.str).map W.dat) = some (y :: ys) := by
        generalize y :: ys = l
        induction l with
        | nil => rfl
        | cons z l ih => simp only [List.map_cons, strsW, ih]; rfl
      have f1 : sortSetF false bs [.dat (.list ((y :: ys).map .str))] S = none := by
        unfold sortSetF
        dsimp only
        simp only [l, i, a]
      unfold sortSetXF
      simp only [f1, l, Option.bind_some, s, if_pos few]
      show some (mkLst _, S) = _
      rw [show (((uniq (y :: ys)).mergeSort sLe).map fun y => W.dat (.str y)) = (((uniq (y :: ys)).mergeSort sLe).map PyData.str).map W.dat by rw [List.map_map]; rfl, mkLst_dat]
  unfold wpo
  rw [e]; exact q
theorem sorted_strict {ys : List Str} : ((uniq ys).mergeSort sLe).Pairwise fun a b => ltS a b = true := by
  have h1 := strs_up (uniq ys)
  have h2 : ((uniq ys).mergeSort sLe).Nodup := (List.mergeSort_perm _ _).nodup_iff.mpr (uniq_nodup ys)
  refine (List.pairwise_and_iff.mpr ⟨h1, h2⟩).imp fun {a b} ⟨h, ne⟩ => ?_
  unfold sLe at h
  unfold ltS
  rw [decide_eq_true_iff] at h ⊢
  by_cases z : a.cps.toList < b.cps.toList
  · exact z
  · exact absurd (str_ext (List.le_antisymm h (List.not_lt.mp z))) ne
theorem up_pairwise : ∀ {ss : List PyData}, (ss.map keyS).Pairwise (fun a b => ltS a b = true) → upB ss = true
  | [], _ => rfl
  | [a], _ => rfl
  | a :: b :: r, h => by
    rw [List.map_cons, List.map_cons, List.pairwise_cons] at h
    show (ltS (keyS a) (keyS b) && upB (b :: r)) = true
    rw [h.1 (keyS b) (by simp), up_pairwise (by rw [List.map_cons]; exact h.2)]
    rfl
def six : List Str := ["a", "log", "zz", "zzzzzzzz", "ab", "b"]
theorem six_ok : ∀ y ∈ six, nameB y.cps.toList = true := by decide +kernel
def okRoot (size log r : Int) : Prop := r = 0 ∨ (2 + log ≤ r ∧ r ≤ size - 1)
theorem root_ok {size log r : Int} (h : okRoot size log r) : rootB size log (.int r) = true := by
  unfold rootB isNum
  simp only [Bool.or_eq_true, Bool.and_eq_true, decide_eq_true_eq]
  unfold okRoot at h
  omega
section
variable {bs : List Nat} {S : Store} {n : Nat} {E : EK}
theorem head_ok {size t log num root : Int} {l : List (Str × Int)} (hs : 24 ≤ size ∧ size ≤ 240) (ht : 1 ≤ t ∧ t ≤ 999999999999999999) (hl : 4 ≤ log ∧ log ≤ mlog size) (hn : 1 ≤ num ∧ num ≤ 999999999999999999) (hr : okRoot size log root)
    (few : l.length ≤ 6) (up : (l.map (·.1)).Pairwise fun a b => ltS a b = true) (nm : ∀ p ∈ l, nameB p.1.cps.toList = true) (rt : ∀ p ∈ l, okRoot size log p.2) :
    Named ⟨t, log, num, root, l.map fun p => (p.1.cps.toList, p.2)⟩ ∧ headB size (headD ⟨t, log, num, root, l.map fun p => (p.1.cps.toList, p.2)⟩) = true := by
  refine ⟨⟨by rw [List.length_map]; omega, fun p hp => ?_⟩, ?_⟩
  · obtain ⟨q, hq, rfl⟩ := List.mem_map.mp hp
    exact nm q hq
  unfold headD
  rw [headB_five]
  have num' : ∀ {lo hi i : Int}, lo ≤ i ∧ i ≤ hi → isNum lo hi (.int i) = true := fun {lo hi i} h => by simp [isNum, h]
  rw [num' ht, num' hn, num' hl]
  show (true && true && true && (rootB size log (.int root) && shotsB size log _)) = true
  rw [root_ok hr, shotsB_tup, List.length_map, List.length_map, decide_eq_true few]
  have e : ((l.map fun p => (p.1.cps.toList, p.2)).map shD) = l.map fun p => PyData.tuple [.str p.1, .int p.2] := by
    rw [List.map_map]
    apply List.map_congr_left
    intro p _
    show PyData.tuple [.str (sg p.1.cps.toList), .int p.2] = _
    rw [sg_list]
  rw [e]
  have a1 : (l.map fun p => PyData.tuple [.str p.1, .int p.2]).all (shotB size log) = true := by
    rw [List.all_eq_true]
    intro d hd
    obtain ⟨p, hp, rfl⟩ := List.mem_map.mp hd
    rw [shotB_two, root_ok (rt p hp)]
    show (nameB p.1.cps.toList && true) = true
    rw [nm p hp]; rfl
  rw [a1]
  have a2 : upB (l.map fun p => PyData.tuple [.str p.1, .int p.2]) = true := up_pairwise (by rw [List.map_map]; exact up)
  rw [a2]; rfl
theorem wp_law_head (hv : Vat S n) {size t : Int} (hs : 24 ≤ size ∧ size ≤ 240) (ht : 1 ≤ t ∧ t ≤ 999999999999999999) :
    (F__law_head bs [.loc n, .dat (.int size), .dat (.int t)] S).wp (fun w S' => DW n S (fun w => ∃ h : Hd, w = .dat (headD h) ∧ Named h ∧ headB size (headD h) = true ∧ h.turn = t ∧ h.shots.length ≤ 6) w S') E := by
  (unfold F__law_head m__law_head; with_reducible refine Rf.wp_fn rfl ?_; simp only [Rf.startE, List.map_cons, List.map_nil, List.length_cons, List.length_nil, Nat.reduceAdd, Nat.reduceSub, List.replicate, List.cons_append, List.nil_append])
  (with_reducible refine Rf.wp_seq ?_; with_reducible refine Rf.wp_asg ?_; with_reducible refine Rf.wp_bin ?_; with_reducible refine Rf.wp_con ?_; with_reducible refine Rf.wp_call ?_; with_reducible refine Rf.wp_cons ?_; with_reducible refine Rf.wp_varL (by with_unfolding_all exact rfl) ?_; with_reducible refine Rf.wp_cons ?_; with_reducible refine Rf.wp_CB ?_; with_reducible refine Rf.wp_cons ?_; with_reducible refine Rf.wp_con ?_; with_reducible refine Rf.wp_cons ?_; with_reducible refine Rf.wp_bin ?_; with_reducible refine Rf.wp_varD (by with_unfolding_all exact rfl) ?_; with_reducible refine Rf.wp_con ?_; with_reducible refine Rf.sub_int ?_; with_reducible refine Rf.wp_nil ?_; with_reducible refine Rf.min_int ?_; with_reducible refine Rf.wp_nil ?_)
  have em : (if size - 21 < 37 then size - 21 else 37) ≤ 37 ∧ (if size - 21 < 37 then size - 21 else 37) ≤ size - 21 ∧ 0 < (if size - 21 < 37 then size - 21 else 37) := by split <;> omega
  generalize (if size - 21 < 37 then size - 21 else 37) = q at em
  refine (wp_drop hv em.2.2 (by omega)).use fun w S1 ⟨⟨r, hw, r0, r1⟩, d1⟩ => ?_
  subst hw
  (with_reducible refine Rf.add_int ?_; with_reducible refine Rf.wp_name ?_; with_reducible refine Rf.wp_seq ?_; with_reducible refine Rf.wp_asg ?_; with_reducible refine Rf.wp_CB ?_; with_reducible refine Rf.wp_cons ?_; with_reducible refine Rf.wp_comp ?_; with_reducible refine Rf.wp_rng1 ?_; with_reducible refine Rf.wp_cons ?_; with_reducible refine Rf.wp_call ?_; with_reducible refine Rf.wp_cons ?_; with_reducible refine Rf.wp_varL (by with_unfolding_all exact rfl) ?_; with_reducible refine Rf.wp_cons ?_; with_reducible refine Rf.wp_con ?_; with_reducible refine Rf.wp_nil ?_)
  have hlog : 4 ≤ 4 + r ∧ 4 + r ≤ mlog size := by unfold mlog; split <;> omega
  have hlog2 : 4 + r ≤ size - 18 := by omega
  generalize 4 + r = log at hlog hlog2
  refine (wp_drop d1.vat (by decide) (by decide)).use fun w S2 ⟨⟨k, hw, k0, k1⟩, d2⟩ => ?_
  subst hw
  (with_reducible refine Rf.wp_nil ?_; (with_reducible refine Rf.exRng1 ?_ ?_; omega))
  refine wp_compRange (fun i acc S3 => ∃ ys : List Str, acc = (ys.map fun y => W.dat (.str y)) ∧ ys.length = i ∧ (∀ y ∈ ys, y ∈ six) ∧ Drawn n S S3) ⟨[], rfl, rfl, by simp, d1.trans d2⟩ ?_ ?_
  · rintro i acc S3 hi ⟨ys, rfl, len, all, dr⟩
    (with_reducible refine Rf.wp_name ?_; with_reducible refine Rf.wp_yes ?_; with_reducible refine Rf.ifT ?_; with_reducible refine Rf.wp_call ?_; with_reducible refine Rf.wp_cons ?_; with_reducible refine Rf.wp_varL (by with_unfolding_all exact rfl) ?_; with_reducible refine Rf.wp_cons ?_; with_reducible refine Rf.wp_lst ?_; with_reducible refine Rf.wp_cons ?_; with_reducible refine Rf.wp_con ?_; with_reducible refine Rf.wp_cons ?_; with_reducible refine Rf.wp_con ?_; with_reducible refine Rf.wp_cons ?_; with_reducible refine Rf.wp_con ?_; with_reducible refine Rf.wp_cons ?_; with_reducible refine Rf.wp_con ?_; with_reducible refine Rf.wp_cons ?_; with_reducible refine Rf.wp_con ?_; with_reducible refine Rf.wp_cons ?_; with_reducible refine Rf.wp_con ?_; with_reducible refine Rf.wp_nil ?_; with_reducible refine Rf.lp_dat (by with_unfolding_all exact rfl) (by with_unfolding_all exact rfl) ?_; dsimp only [Rf.strB, Rf.intB, Rf.boolB, Rf.tupB, Rf.dicB, Rf.noneB]; with_reducible refine Rf.wp_nil ?_)
    refine (wp_taste dr.vat (ds := six.map .str) (by decide) (by decide)).use fun w S4 ⟨⟨d, hd, hw⟩, d4⟩ => ?_
    subst hw
    obtain ⟨y, hy, rfl⟩ := List.mem_map.mp hd
    refine ⟨by rw [List.length_map]; omega, ys ++ [y], by simp, by simp [len], fun z hz => ?_, dr.trans d4⟩
    rcases List.mem_append.mp hz with h | h
    · exact all z h
    · rw [List.mem_singleton.mp h]; exact hy
  · rintro acc S3 ⟨ys, rfl, len, all, dr⟩
    rw [show (ys.map fun y => W.dat (.str y)) = (ys.map PyData.str).map W.dat by rw [List.map_map]; rfl]
    (with_reducible refine Rf.nl_dat ?_; with_reducible refine Rf.wp_nil ?_)
    have few : ys.length ≤ 3 := by omega
    refine sortX (by omega) ?_
    have strict := sorted_strict (ys := ys)
    have mem : ∀ y ∈ (uniq ys).mergeSort sLe, y ∈ six := fun y hy => all y (uniq_mem.mp ((List.mergeSort_perm _ _).mem_iff.mp hy))
    have few2 : ((uniq ys).mergeSort sLe).length ≤ 3 := by rw [(List.mergeSort_perm _ _).length_eq]; exact Nat.le_trans (uniq_len ys) few
    generalize (uniq ys).mergeSort sLe = zs at strict mem few2
    (with_reducible refine Rf.wp_name ?_; with_reducible refine Rf.wp_seq ?_; with_reducible refine Rf.wp_asg ?_; with_reducible refine Rf.wp_lst ?_; with_reducible refine Rf.wp_cons ?_; with_reducible refine Rf.wp_con ?_; with_reducible refine Rf.wp_cons ?_; with_reducible refine Rf.wp_bin ?_; with_reducible refine Rf.wp_con ?_; with_reducible refine Rf.wp_varD (by with_unfolding_all exact rfl) ?_; with_reducible refine Rf.add_int ?_; with_reducible refine Rf.wp_cons ?_; with_reducible refine Rf.wp_bin ?_; with_reducible refine Rf.wp_varD (by with_unfolding_all exact rfl) ?_; with_reducible refine Rf.wp_con ?_; with_reducible refine Rf.sub_int ?_; with_reducible refine Rf.wp_cons ?_; with_reducible refine Rf.wp_bin ?_; with_reducible refine Rf.wp_bin ?_; with_reducible refine Rf.wp_con ?_; with_reducible refine Rf.wp_varD (by with_unfolding_all exact rfl) ?_; with_reducible refine Rf.add_int ?_; with_reducible refine Rf.wp_call ?_; with_reducible refine Rf.wp_cons ?_; with_reducible refine Rf.wp_varL (by with_unfolding_all exact rfl) ?_; with_reducible refine Rf.wp_cons ?_; with_reducible refine Rf.wp_bin ?_; with_reducible refine Rf.wp_bin ?_; with_reducible refine Rf.wp_varD (by with_unfolding_all exact rfl) ?_; with_reducible refine Rf.wp_con ?_; with_reducible refine Rf.sub_int ?_; with_reducible refine Rf.wp_varD (by with_unfolding_all exact rfl) ?_; with_reducible refine Rf.sub_int ?_; with_reducible refine Rf.wp_nil ?_)
    refine (wp_drop dr.vat (t := size - 2 - log) (by omega) (by omega)).use fun w S4 ⟨⟨p, hw, p0, p1⟩, d4⟩ => ?_
    subst hw
    (with_reducible refine Rf.add_int ?_; with_reducible refine Rf.wp_nil ?_; with_reducible refine Rf.lp_dat (by with_unfolding_all exact rfl) (by with_unfolding_all exact rfl) ?_; dsimp only [Rf.strB, Rf.intB, Rf.boolB, Rf.tupB, Rf.dicB, Rf.noneB]; with_reducible refine Rf.wp_name ?_; with_reducible refine Rf.wp_seq ?_; with_reducible refine Rf.wp_asg ?_; with_reducible refine Rf.wp_CB ?_; with_reducible refine Rf.wp_cons ?_; with_reducible refine Rf.wp_comp ?_; with_reducible refine Rf.wp_itS ?_; with_reducible refine Rf.wp_varD (by with_unfolding_all exact rfl) ?_; with_reducible refine Rf.its_lst ?_)
    have places : ∀ x ∈ [PyData.int 0, .int (2 + log), .int (size - 1), .int (2 + log + p)], ∃ v, x = .int v ∧ okRoot size log v := by
      intro x hx
      simp only [List.mem_cons, List.not_mem_nil, or_false] at hx
      unfold okRoot
      rcases hx with rfl | rfl | rfl | rfl
      · exact ⟨_, rfl, by omega⟩
      · exact ⟨_, rfl, by omega⟩
      · exact ⟨_, rfl, by omega⟩
      · exact ⟨_, rfl, by omega⟩
    have dr4 := dr.trans d4
    refine wp_compG (f := W.dat) (xs := zs.map .str) (fun pre acc S5 => ∃ l : List (Str × Int), pre = l.map (fun p => PyData.str p.1) ∧ acc = l.map (fun p => W.dat (.tuple [.str p.1, .int p.2])) ∧ (∀ p ∈ l, okRoot size log p.2) ∧ Drawn n S S5)
      (fun pre post acc S hx _ => next_of hx) (fun pre x post acc S5 hx ⟨l, h1, h2, h3, h4⟩ => ?_) (fun acc S5 ⟨l, h1, h2, h3, h4⟩ => ?_) _ [] (zs.map .str) [] S4 rfl (by simp [Iter.fuel]) ⟨[], rfl, rfl, by simp, dr4⟩
    · have hx' : x ∈ zs.map PyData.str := by rw [hx]; simp
      obtain ⟨y, _, rfl⟩ := List.mem_map.mp hx'
      have lx := congrArg List.length hx
      simp only [List.length_map, List.length_append, List.length_cons] at lx
      (with_reducible refine Rf.wp_name ?_; with_reducible refine Rf.wp_yes ?_; with_reducible refine Rf.ifT ?_; with_reducible refine Rf.wp_tup ?_; with_reducible refine Rf.wp_cons ?_; with_reducible refine Rf.wp_varD (by with_unfolding_all exact rfl) ?_; with_reducible refine Rf.wp_cons ?_; with_reducible refine Rf.wp_call ?_; with_reducible refine Rf.wp_cons ?_; with_reducible refine Rf.wp_varL (by with_unfolding_all exact rfl) ?_; with_reducible refine Rf.wp_cons ?_; with_reducible refine Rf.wp_varD (by with_unfolding_all exact rfl) ?_; with_reducible refine Rf.wp_nil ?_)
      refine (wp_taste h4.vat (by simp) (by simp)).use fun w S6 ⟨⟨d, hd, hw⟩, d6⟩ => ?_
      subst hw
      obtain ⟨v, rfl, hv⟩ := places d hd
      (with_reducible refine Rf.wp_nil ?_; with_reducible refine Rf.tp_dat (by with_unfolding_all exact rfl) (by with_unfolding_all exact rfl) ?_; dsimp only [Rf.strB, Rf.intB, Rf.boolB, Rf.tupB, Rf.dicB, Rf.noneB])
      refine ⟨?_, l ++ [(y, v)], by rw [h1]; simp, by rw [h2]; simp, fun p hp => ?_, h4.trans d6⟩
      · have := congrArg List.length h1
        simp only [List.length_map] at this
        rw [h2, List.length_map]; omega
      · rcases List.mem_append.mp hp with h | h
        · exact h3 p h
        · rw [List.mem_singleton.mp h]; exact hv
    · subst h2
      have ez : zs = l.map (·.1) := by
        have := congrArg (List.map fun d => match d with | PyData.str s => s | _ => "") h1
        simpa [List.map_map, Function.comp_def] using this
      subst ez
      rw [show (l.map fun p => W.dat (.tuple [.str p.1, .int p.2])) = (l.map fun p => PyData.tuple [.str p.1, .int p.2]).map W.dat by rw [List.map_map]; rfl]
      (with_reducible refine Rf.nl_dat ?_; with_reducible refine Rf.wp_nil ?_; with_reducible refine Rf.tuple_lst ?_; with_reducible refine Rf.wp_name ?_; with_reducible refine Rf.wp_ret ?_; with_reducible refine Rf.wp_tup ?_; with_reducible refine Rf.wp_cons ?_; with_reducible refine Rf.wp_varD (by with_unfolding_all exact rfl) ?_; with_reducible refine Rf.wp_cons ?_; with_reducible refine Rf.wp_varD (by with_unfolding_all exact rfl) ?_; with_reducible refine Rf.wp_cons ?_; with_reducible refine Rf.wp_call ?_; with_reducible refine Rf.wp_cons ?_; with_reducible refine Rf.wp_varL (by with_unfolding_all exact rfl) ?_; with_reducible refine Rf.wp_cons ?_; with_reducible refine Rf.wp_lst ?_; with_reducible refine Rf.wp_cons ?_; with_reducible refine Rf.wp_con ?_; with_reducible refine Rf.wp_cons ?_; with_reducible refine Rf.wp_con ?_; with_reducible refine Rf.wp_cons ?_; with_reducible refine Rf.wp_con ?_; with_reducible refine Rf.wp_cons ?_; with_reducible refine Rf.wp_bin ?_; with_reducible refine Rf.wp_bin ?_; with_reducible refine Rf.wp_con ?_; with_reducible refine Rf.wp_con ?_)
      refine pow_int (r := 1000000000000000000) (by decide) (by decide) ?_
      (with_reducible refine Rf.wp_con ?_; with_reducible refine Rf.sub_int ?_; with_reducible refine Rf.wp_nil ?_; with_reducible refine Rf.lp_dat (by with_unfolding_all exact rfl) (by with_unfolding_all exact rfl) ?_; dsimp only [Rf.strB, Rf.intB, Rf.boolB, Rf.tupB, Rf.dicB, Rf.noneB]; with_reducible refine Rf.wp_nil ?_)
      refine (wp_taste h4.vat (by simp) (by simp)).use fun w S6 ⟨⟨d, hd, hw⟩, d6⟩ => ?_
      subst hw
      have hnum : ∃ v, d = .int v ∧ 1 ≤ v ∧ v ≤ 999999999999999999 := by
        simp only [List.mem_cons, List.not_mem_nil, or_false] at hd
        rcases hd with rfl | rfl | rfl | rfl
        · exact ⟨_, rfl, by decide, by decide⟩
        · exact ⟨_, rfl, by decide, by decide⟩
        · exact ⟨_, rfl, by decide, by decide⟩
        · exact ⟨_, rfl, by decide, by decide⟩
      obtain ⟨num, rfl, hnum⟩ := hnum
      (with_reducible refine Rf.wp_cons ?_; with_reducible refine Rf.wp_call ?_; with_reducible refine Rf.wp_cons ?_; with_reducible refine Rf.wp_varL (by with_unfolding_all exact rfl) ?_; with_reducible refine Rf.wp_cons ?_; with_reducible refine Rf.wp_varD (by with_unfolding_all exact rfl) ?_; with_reducible refine Rf.wp_nil ?_)
      refine (wp_taste (h4.trans d6).vat (by simp) (by simp)).use fun w S7 ⟨⟨d, hd, hw⟩, d7⟩ => ?_
      subst hw
      obtain ⟨root, rfl, hroot⟩ := places d hd
      (with_reducible refine Rf.wp_cons ?_; with_reducible refine Rf.wp_varD (by with_unfolding_all exact rfl) ?_; with_reducible refine Rf.wp_nil ?_; with_reducible refine Rf.tp_dat (by with_unfolding_all exact rfl) (by with_unfolding_all exact rfl) ?_; dsimp only [Rf.strB, Rf.intB, Rf.boolB, Rf.tupB, Rf.dicB, Rf.noneB])
      have lz : l.length ≤ 3 := by simpa using few2
      obtain ⟨g1, g2⟩ := head_ok (l := l) hs ht hlog hnum hroot (by omega) strict (fun p hp => six_ok _ (mem _ (List.mem_map_of_mem hp))) h3
      refine rt_len ((h4.trans d6).trans d7).len ⟨⟨_, ?_, g1, g2, rfl, by rw [List.length_map]; omega⟩, (h4.trans d6).trans d7⟩
      unfold headD
      rw [List.map_map]
      have eM : (l.map fun p => PyData.tuple [.str p.1, .int p.2]) = l.map (shD ∘ fun p => (p.1.cps.toList, p.2)) := by
        apply List.map_congr_left
        intro p _
        show PyData.tuple [.str p.1, .int p.2] = PyData.tuple [.str (sg p.1.cps.toList), .int p.2]
        rw [sg_list]
      rw [← eM]
end
end V

namespace V
open PySem L2 PyProof.Rows Rf Nm

def SOk (s : PyData) : Prop := (∀ nm r, s = .tuple [nm, r] → shortS nm) ∧ PD 10 s
theorem sok_two {z : Str} {i : Int} (h : z.length ≤ 100000) : SOk (.tuple [.str z, .int i]) := by
  refine ⟨fun nm r e => ?_, ?_⟩
  · cases e
    intro y e; cases e; exact h
  · refine PD.mono (pd_tup (n := 0) fun x hx => ?_) (by decide)
    simp only [List.mem_cons, List.not_mem_nil, or_false] at hx
    rcases hx with rfl | rfl
    · exact pd_str _
    · exact pd_int _
theorem v5_ok {t l n r : PyData} {ss : List PyData} (hr : PD 10 r) (h : ∀ s ∈ ss, SOk s) : tameH (.tuple [t, l, n, r, .tuple ss]) ∧ fineH (.tuple [t, l, n, r, .tuple ss]) :=
  ⟨fun s hs nm r e => (h s hs).1 nm r e, hr, fun s hs => (h s hs).2⟩
theorem v5_l {t l n r : PyData} {ss : List PyData} (hr : PD 10 r) : tameH (.tuple [t, l, n, r, .list ss]) ∧ fineH (.tuple [t, l, n, r, .list ss]) := ⟨trivial, hr, trivial⟩
theorem pow18 {bs : List Nat} {S : Store} {Q : W → Store → Prop} (q : Q (.dat (.int 1000000000000000000)) S) : wpo (powF bs (.dat (.int 10)) (.dat (.int 18)) S) Q := pow_int (r := 1000000000000000000) (by decide) (by decide) q
theorem shots_sok {h : Hd} (hn : Named h) : ∀ s ∈ h.shots.map shD, SOk s := fun s hs => by
  obtain ⟨p, hp, rfl⟩ := List.mem_map.mp hs
  refine sok_two ?_
  have := (name_bits (hn.2 p hp)).2.1
  simpa using (by omega : p.1.length ≤ 100000)
def many7 : List PyData := [.tuple [.str "a", .int 0], .tuple [.str "b", .int 0], .tuple [.str "c", .int 0], .tuple [.str "d", .int 0], .tuple [.str "e", .int 0], .tuple [.str "f", .int 0], .tuple [.str "g", .int 0]]
theorem many_sok : ∀ s ∈ many7, SOk s := by
  intro s hs
  simp only [many7, List.mem_cons, List.not_mem_nil, or_false] at hs
  rcases hs with rfl | rfl | rfl | rfl | rfl | rfl | rfl <;> exact sok_two (by decide)
def Good (m : Nat) (xs : List PyData) : Prop := xs.length ≤ m ∧ ∀ v ∈ xs, tameH v ∧ fineH v
theorem good_1 {a : PyData} (ha : tameH a ∧ fineH a) : Good 1 [a] := ⟨Nat.le_refl _, fun v hv => by rw [List.mem_singleton.mp hv]; exact ha⟩
theorem good_c {m : Nat} {a : PyData} {xs : List PyData} (ha : tameH a ∧ fineH a) (h : Good m xs) : Good (m + 1) (a :: xs) := ⟨by simp; exact h.1, fun v hv => by
  rcases List.mem_cons.mp hv with z | z
  · rw [z]; exact ha
  · exact h.2 v z⟩
theorem addG {xs ys : List PyData} {m j : Nat} {bs : List Nat} {S : Store} {Q : W → Store → Prop} (hx : Good m xs) (hy : Good j ys) (hm : m + j ≤ 1000) (q : ∀ zs, Good (m + j) zs → Q (.dat (.list zs)) S) : wpo (addF false bs (.dat (.list xs)) (.dat (.list ys)) S) Q :=
  add_lst (by have := hx.1; have := hy.1; omega) (q _ ⟨by rw [List.length_append]; have := hx.1; have := hy.1; omega, fun v hv => (List.mem_append.mp hv).elim (hx.2 v) (hy.2 v)⟩)
theorem sok_app {ss xs : List PyData} (h : ∀ s ∈ ss, SOk s) (k : ∀ s ∈ xs, SOk s) : ∀ s ∈ ss ++ xs, SOk s := fun s hs => (List.mem_append.mp hs).elim (h s) (k s)
theorem sok_1 {s : PyData} (h : SOk s) : ∀ x ∈ [s], SOk x := fun x hx => by rw [List.mem_singleton.mp hx]; exact h
theorem sok_three {a : Str} {b c : Int} : SOk (.tuple [.str a, .int b, .int c]) := by
  refine ⟨fun nm r e => (by cases e), ?_⟩
  refine PD.mono (pd_tup (n := 0) fun x hx => ?_) (by decide)
  simp only [List.mem_cons, List.not_mem_nil, or_false] at hx
  rcases hx with rfl | rfl | rfl
  · exact pd_str _
  · exact pd_int _
  · exact pd_int _
section
variable {bs : List Nat} {S : Store} {n : Nat} {E : EK}
theorem str_int {i : Int} (hi : 0 ≤ i ∧ i ≤ 1000) {bs : List Nat} {S : Store} {Q : W → Store → Prop} (q : ∀ z : Str, Q (.dat (.str z)) S) : wpo (un strW bs [.dat (.int i)] S) Q := by
  have hl : i.natAbs.log2 < 1920 := Nat.lt_of_le_of_lt (Nat.log2_le_self _) (by omega)
  have e : strW S (.dat (.int i)) = some (.dat (.str (toString i))) := by
    unfold strW
    dsimp only
    rw [if_pos hl]
  unfold wpo un
  dsimp only
  rw [e]
  exact q _
theorem ev_law_near {h : Hd} (hn : Named h) (hlog : 0 ≤ h.log ∧ h.log ≤ 1000) (w : W) (size : Int) : ∃ vs : List PyData, F__law_near bs [w, .dat (.int size), .dat (headD h)] S = .ok (.dat (.list vs)) S ∧ vs.length ≤ 1000 ∧ ∀ v ∈ vs, tameH v ∧ fineH v := by
  have main : (F__law_near bs [w, .dat (.int size), .dat (headD h)] S).wp (fun x S' => S' = S ∧ ∃ vs : List PyData, x = .dat (.list vs) ∧ vs.length ≤ 1000 ∧ ∀ v ∈ vs, tameH v ∧ fineH v) NoE := by
    (unfold F__law_near m__law_near; with_reducible refine Rf.wp_fn rfl ?_; simp only [Rf.startE, List.map_cons, List.map_nil, List.length_cons, List.length_nil, Nat.reduceAdd, Nat.reduceSub, List.replicate, List.cons_append, List.nil_append])
    unfold headD
    generalize hss : h.shots.map shD = ss
    have sk : ∀ s ∈ ss, SOk s := by rw [← hss]; exact shots_sok hn
    have sl : ss.length ≤ 20 := by rw [← hss, List.length_map]; exact hn.1
    (with_reducible refine Rf.wp_seq ?_; with_reducible refine Rf.wp_asg ?_; with_reducible refine Rf.wp_varD (by with_unfolding_all exact rfl) ?_)
    (with_reducible refine wp_tTup (ws := [.dat (.int h.turn), .dat (.int h.log), .dat (.int h.number), .dat (.int h.root), .dat (.tuple ss)]) rfl rfl ?_)
    (with_reducible refine wp_tCons (wp_name (wp_tCons (wp_name (wp_tCons (wp_name (wp_tCons (wp_name (wp_tCons (wp_name (wp_tNil ?_)))))))))))
    have ad : ∀ (xs : List PyData) {Q : W → Store → Prop} {T : Store} {bs : List Nat}, xs.length ≤ 100 → Q (.dat (.tuple (ss ++ xs))) T → wpo (addF false bs (.dat (.tuple ss)) (.dat (.tuple xs)) T) Q := fun xs Q T bs hx q => add_tup (by omega) q
    have ad2 : ∀ (xs ys : List PyData) (m : Nat) {Q : W → Store → Prop} {T : Store} {bs : List Nat}, xs.length + ys.length ≤ 100 → Q (.dat (.list (xs ++ ys))) T → wpo (addF false bs (.dat (.list xs)) (.dat (.list ys)) T) Q := fun xs ys m Q T bs hx q => add_lst (by omega) q
    (with_reducible refine Rf.wp_seq ?_; with_reducible refine Rf.wp_asg ?_; with_reducible refine Rf.wp_lst ?_; with_reducible refine Rf.wp_cons ?_; with_reducible refine Rf.wp_varD (by with_unfolding_all exact rfl) ?_; with_reducible refine Rf.wp_cons ?_; with_reducible refine Rf.wp_CB ?_; with_reducible refine Rf.wp_cons ?_; with_reducible refine Rf.wp_varD (by with_unfolding_all exact rfl) ?_; with_reducible refine Rf.wp_nil ?_; with_reducible refine Rf.list_tup ?_; with_reducible refine Rf.wp_cons ?_; with_reducible refine Rf.wp_sl ?_; with_reducible refine Rf.wp_varD (by with_unfolding_all exact rfl) ?_; with_reducible refine Rf.wp_noPart ?_; with_reducible refine Rf.wp_part ?_; with_reducible refine Rf.wp_con ?_; with_reducible refine Rf.exInt ?_; with_reducible refine Rf.sl_tup ?_; with_reducible refine Rf.wp_cons ?_; with_reducible refine Rf.wp_bin ?_; with_reducible refine Rf.wp_varD (by with_unfolding_all exact rfl) ?_; with_reducible refine Rf.wp_tup ?_; with_reducible refine Rf.wp_cons ?_; with_reducible refine Rf.wp_con ?_; with_reducible refine Rf.wp_nil ?_; with_reducible refine Rf.tp_dat (by with_unfolding_all exact rfl) (by with_unfolding_all exact rfl) ?_; dsimp only [Rf.strB, Rf.intB, Rf.boolB, Rf.tupB, Rf.dicB, Rf.noneB])
    (with_reducible refine add_tup (Nat.le_of_ble_eq_true rfl) ?_)
    simp only [List.set_cons_zero, List.set_cons_succ]
    have g0 : Good 10 [PyData.tuple [PyData.int h.turn, PyData.int h.log, PyData.int h.number, PyData.int h.root, PyData.tuple ss], PyData.list [PyData.int h.turn, PyData.int h.log, PyData.int h.number, PyData.int h.root, PyData.tuple ss],
        PyData.tuple (cutW [PyData.int h.turn, PyData.int h.log, PyData.int h.number, PyData.int h.root, PyData.tuple ss] none (some 4)), PyData.tuple ([PyData.int h.turn, PyData.int h.log, PyData.int h.number, PyData.int h.root, PyData.tuple ss] ++ [PyData.int 0]),
        PyData.none, PyData.int 0, PyData.tuple [], PyData.str "head", PyData.dict [], PyData.tuple [PyData.int 0, PyData.int h.log, PyData.int h.number, PyData.int h.root, PyData.tuple ss]] := by
      rw [show cutW [PyData.int h.turn, PyData.int h.log, PyData.int h.number, PyData.int h.root, PyData.tuple ss] none (some 4) = [PyData.int h.turn, PyData.int h.log, PyData.int h.number, PyData.int h.root] from cut_to _ 4]
      exact good_c (v5_ok (pd_int _) sk) (good_c ⟨trivial, trivial⟩ (good_c ⟨trivial, trivial⟩ (good_c ⟨trivial, trivial⟩ (good_c ⟨trivial, trivial⟩ (good_c ⟨trivial, trivial⟩ (good_c ⟨trivial, trivial⟩ (good_c ⟨trivial, trivial⟩ (good_c ⟨trivial, trivial⟩ (good_1 (v5_ok (pd_int _) sk))))))))))
    (with_reducible refine Rf.wp_cons ?_; with_reducible refine Rf.wp_con ?_; with_reducible refine Rf.wp_cons ?_; with_reducible refine Rf.wp_con ?_; with_reducible refine Rf.wp_cons ?_; with_reducible refine Rf.wp_tup ?_; with_reducible refine Rf.wp_nil ?_; with_reducible refine Rf.tp_dat (by with_unfolding_all exact rfl) (by with_unfolding_all exact rfl) ?_; with_reducible refine Rf.wp_cons ?_; with_reducible refine Rf.wp_con ?_; with_reducible refine Rf.wp_cons ?_; with_reducible refine Rf.wp_dic0f ?_; with_reducible refine Rf.wp_cons ?_; with_reducible refine Rf.wp_tup ?_; with_reducible refine Rf.wp_cons ?_; with_reducible refine Rf.wp_con ?_; with_reducible refine Rf.wp_cons ?_; with_reducible refine Rf.wp_varD (by with_unfolding_all exact rfl) ?_; with_reducible refine Rf.wp_cons ?_; with_reducible refine Rf.wp_varD (by with_unfolding_all exact rfl) ?_; with_reducible refine Rf.wp_cons ?_; with_reducible refine Rf.wp_varD (by with_unfolding_all exact rfl) ?_; with_reducible refine Rf.wp_cons ?_; with_reducible refine Rf.wp_varD (by with_unfolding_all exact rfl) ?_; with_reducible refine Rf.wp_nil ?_; with_reducible refine Rf.tp_dat (by with_unfolding_all exact rfl) (by with_unfolding_all exact rfl) ?_; dsimp only [Rf.strB, Rf.intB, Rf.boolB, Rf.tupB, Rf.dicB, Rf.noneB]; with_reducible refine Rf.wp_nil ?_; with_reducible refine Rf.lp_dat (by with_unfolding_all exact rfl) (by with_unfolding_all exact rfl) ?_; dsimp only [Rf.strB, Rf.intB, Rf.boolB, Rf.tupB, Rf.dicB, Rf.noneB]; with_reducible refine Rf.wp_name ?_; with_reducible refine Rf.wp_seq ?_; with_reducible refine Rf.wp_asg ?_; with_reducible refine Rf.wp_bin ?_; with_reducible refine Rf.wp_varD (by with_unfolding_all exact rfl) ?_; with_reducible refine Rf.wp_lst ?_; with_reducible refine Rf.wp_cons ?_; with_reducible refine Rf.wp_tup ?_; with_reducible refine Rf.wp_cons ?_; with_reducible refine Rf.wp_varD (by with_unfolding_all exact rfl) ?_; with_reducible refine Rf.wp_cons ?_; with_reducible refine Rf.wp_con ?_; with_reducible refine Rf.wp_cons ?_; with_reducible refine Rf.wp_varD (by with_unfolding_all exact rfl) ?_; with_reducible refine Rf.wp_cons ?_; with_reducible refine Rf.wp_varD (by with_unfolding_all exact rfl) ?_; with_reducible refine Rf.wp_cons ?_; with_reducible refine Rf.wp_varD (by with_unfolding_all exact rfl) ?_; with_reducible refine Rf.wp_nil ?_; with_reducible refine Rf.tp_dat (by with_unfolding_all exact rfl) (by with_unfolding_all exact rfl) ?_; dsimp only [Rf.strB, Rf.intB, Rf.boolB, Rf.tupB, Rf.dicB, Rf.noneB]; with_reducible refine Rf.wp_cons ?_; with_reducible refine Rf.wp_tup ?_; with_reducible refine Rf.wp_cons ?_; with_reducible refine Rf.wp_varD (by with_unfolding_all exact rfl) ?_; with_reducible refine Rf.wp_cons ?_; with_reducible refine Rf.wp_bin ?_; with_reducible refine Rf.wp_varD (by with_unfolding_all exact rfl) ?_; with_reducible refine Rf.wp_con ?_; with_reducible refine Rf.sub_int ?_; with_reducible refine Rf.wp_cons ?_; with_reducible refine Rf.wp_varD (by with_unfolding_all exact rfl) ?_; with_reducible refine Rf.wp_cons ?_; with_reducible refine Rf.wp_varD (by with_unfolding_all exact rfl) ?_; with_reducible refine Rf.wp_cons ?_; with_reducible refine Rf.wp_varD (by with_unfolding_all exact rfl) ?_; with_reducible refine Rf.wp_nil ?_; with_reducible refine Rf.tp_dat (by with_unfolding_all exact rfl) (by with_unfolding_all exact rfl) ?_; dsimp only [Rf.strB, Rf.intB, Rf.boolB, Rf.tupB, Rf.dicB, Rf.noneB]; with_reducible refine Rf.wp_cons ?_; with_reducible refine Rf.wp_tup ?_; with_reducible refine Rf.wp_cons ?_; with_reducible refine Rf.wp_varD (by with_unfolding_all exact rfl) ?_; with_reducible refine Rf.wp_cons ?_; with_reducible refine Rf.wp_con ?_; with_reducible refine Rf.wp_cons ?_; with_reducible refine Rf.wp_varD (by with_unfolding_all exact rfl) ?_; with_reducible refine Rf.wp_cons ?_; with_reducible refine Rf.wp_varD (by with_unfolding_all exact rfl) ?_; with_reducible refine Rf.wp_cons ?_; with_reducible refine Rf.wp_varD (by with_unfolding_all exact rfl) ?_; with_reducible refine Rf.wp_nil ?_; with_reducible refine Rf.tp_dat (by with_unfolding_all exact rfl) (by with_unfolding_all exact rfl) ?_; dsimp only [Rf.strB, Rf.intB, Rf.boolB, Rf.tupB, Rf.dicB, Rf.noneB]; with_reducible refine Rf.wp_nil ?_; with_reducible refine Rf.lp_dat (by with_unfolding_all exact rfl) (by with_unfolding_all exact rfl) ?_; dsimp only [Rf.strB, Rf.intB, Rf.boolB, Rf.tupB, Rf.dicB, Rf.noneB])
    (with_reducible refine addG g0 (good_c (v5_ok (pd_int _) sk) (good_c (v5_ok (pd_int _) sk) (good_1 (v5_ok (pd_int _) sk)))) (by decide) fun z1 g1 => ?_)
    (with_reducible refine wp_name ?_)
    simp only [List.set_cons_zero, List.set_cons_succ]
    (with_reducible refine Rf.wp_seq ?_; with_reducible refine Rf.wp_asg ?_; with_reducible refine Rf.wp_bin ?_; with_reducible refine Rf.wp_varD (by with_unfolding_all exact rfl) ?_; with_reducible refine Rf.wp_lst ?_; with_reducible refine Rf.wp_cons ?_; with_reducible refine Rf.wp_tup ?_; with_reducible refine Rf.wp_cons ?_; with_reducible refine Rf.wp_varD (by with_unfolding_all exact rfl) ?_; with_reducible refine Rf.wp_cons ?_; with_reducible refine Rf.wp_varD (by with_unfolding_all exact rfl) ?_; with_reducible refine Rf.wp_cons ?_; with_reducible refine Rf.wp_con ?_; with_reducible refine Rf.wp_cons ?_; with_reducible refine Rf.wp_varD (by with_unfolding_all exact rfl) ?_; with_reducible refine Rf.wp_cons ?_; with_reducible refine Rf.wp_varD (by with_unfolding_all exact rfl) ?_; with_reducible refine Rf.wp_nil ?_; with_reducible refine Rf.tp_dat (by with_unfolding_all exact rfl) (by with_unfolding_all exact rfl) ?_; dsimp only [Rf.strB, Rf.intB, Rf.boolB, Rf.tupB, Rf.dicB, Rf.noneB]; with_reducible refine Rf.wp_cons ?_; with_reducible refine Rf.wp_tup ?_; with_reducible refine Rf.wp_cons ?_; with_reducible refine Rf.wp_varD (by with_unfolding_all exact rfl) ?_; with_reducible refine Rf.wp_cons ?_; with_reducible refine Rf.wp_varD (by with_unfolding_all exact rfl) ?_; with_reducible refine Rf.wp_cons ?_; with_reducible refine Rf.wp_varD (by with_unfolding_all exact rfl) ?_; with_reducible refine Rf.wp_cons ?_; with_reducible refine Rf.wp_bin ?_; with_reducible refine Rf.wp_con ?_; with_reducible refine Rf.wp_varD (by with_unfolding_all exact rfl) ?_; with_reducible refine Rf.add_int ?_; with_reducible refine Rf.wp_cons ?_; with_reducible refine Rf.wp_varD (by with_unfolding_all exact rfl) ?_; with_reducible refine Rf.wp_nil ?_; with_reducible refine Rf.tp_dat (by with_unfolding_all exact rfl) (by with_unfolding_all exact rfl) ?_; dsimp only [Rf.strB, Rf.intB, Rf.boolB, Rf.tupB, Rf.dicB, Rf.noneB]; with_reducible refine Rf.wp_cons ?_; with_reducible refine Rf.wp_tup ?_; with_reducible refine Rf.wp_cons ?_; with_reducible refine Rf.wp_varD (by with_unfolding_all exact rfl) ?_; with_reducible refine Rf.wp_cons ?_; with_reducible refine Rf.wp_varD (by with_unfolding_all exact rfl) ?_; with_reducible refine Rf.wp_cons ?_; with_reducible refine Rf.wp_varD (by with_unfolding_all exact rfl) ?_; with_reducible refine Rf.wp_cons ?_; with_reducible refine Rf.wp_varD (by with_unfolding_all exact rfl) ?_; with_reducible refine Rf.wp_cons ?_; with_reducible refine Rf.wp_varD (by with_unfolding_all exact rfl) ?_; with_reducible refine Rf.wp_nil ?_; with_reducible refine Rf.tp_dat (by with_unfolding_all exact rfl) (by with_unfolding_all exact rfl) ?_; dsimp only [Rf.strB, Rf.intB, Rf.boolB, Rf.tupB, Rf.dicB, Rf.noneB]; with_reducible refine Rf.wp_nil ?_; with_reducible refine Rf.lp_dat (by with_unfolding_all exact rfl) (by with_unfolding_all exact rfl) ?_; dsimp only [Rf.strB, Rf.intB, Rf.boolB, Rf.tupB, Rf.dicB, Rf.noneB])
    (with_reducible refine addG g1 (good_c (v5_ok (pd_int _) sk) (good_c (v5_ok (pd_int _) sk) (good_1 (v5_ok (pd_int _) sk)))) (by decide) fun z2 g2 => ?_)
    (with_reducible refine wp_name ?_)
    simp only [List.set_cons_zero, List.set_cons_succ]
    (with_reducible refine Rf.wp_seq ?_; with_reducible refine Rf.wp_asg ?_; with_reducible refine Rf.wp_bin ?_; with_reducible refine Rf.wp_varD (by with_unfolding_all exact rfl) ?_; with_reducible refine Rf.wp_lst ?_; with_reducible refine Rf.wp_cons ?_; with_reducible refine Rf.wp_tup ?_; with_reducible refine Rf.wp_cons ?_; with_reducible refine Rf.wp_varD (by with_unfolding_all exact rfl) ?_; with_reducible refine Rf.wp_cons ?_; with_reducible refine Rf.wp_varD (by with_unfolding_all exact rfl) ?_; with_reducible refine Rf.wp_cons ?_; with_reducible refine Rf.wp_varD (by with_unfolding_all exact rfl) ?_; with_reducible refine Rf.wp_cons ?_; with_reducible refine Rf.wp_neg ?_; with_reducible refine Rf.wp_con ?_; with_reducible refine Rf.exInt ?_; with_reducible refine Rf.wp_cons ?_; with_reducible refine Rf.wp_varD (by with_unfolding_all exact rfl) ?_; with_reducible refine Rf.wp_nil ?_; with_reducible refine Rf.tp_dat (by with_unfolding_all exact rfl) (by with_unfolding_all exact rfl) ?_; dsimp only [Rf.strB, Rf.intB, Rf.boolB, Rf.tupB, Rf.dicB, Rf.noneB]; with_reducible refine Rf.wp_cons ?_; with_reducible refine Rf.wp_tup ?_; with_reducible refine Rf.wp_cons ?_; with_reducible refine Rf.wp_varD (by with_unfolding_all exact rfl) ?_; with_reducible refine Rf.wp_cons ?_; with_reducible refine Rf.wp_varD (by with_unfolding_all exact rfl) ?_; with_reducible refine Rf.wp_cons ?_; with_reducible refine Rf.wp_varD (by with_unfolding_all exact rfl) ?_; with_reducible refine Rf.wp_cons ?_; with_reducible refine Rf.wp_con ?_; with_reducible refine Rf.wp_cons ?_; with_reducible refine Rf.wp_varD (by with_unfolding_all exact rfl) ?_; with_reducible refine Rf.wp_nil ?_; with_reducible refine Rf.tp_dat (by with_unfolding_all exact rfl) (by with_unfolding_all exact rfl) ?_; dsimp only [Rf.strB, Rf.intB, Rf.boolB, Rf.tupB, Rf.dicB, Rf.noneB]; with_reducible refine Rf.wp_cons ?_; with_reducible refine Rf.wp_tup ?_; with_reducible refine Rf.wp_cons ?_; with_reducible refine Rf.wp_varD (by with_unfolding_all exact rfl) ?_; with_reducible refine Rf.wp_cons ?_; with_reducible refine Rf.wp_varD (by with_unfolding_all exact rfl) ?_; with_reducible refine Rf.wp_cons ?_; with_reducible refine Rf.wp_varD (by with_unfolding_all exact rfl) ?_; with_reducible refine Rf.wp_cons ?_; with_reducible refine Rf.wp_con ?_; with_reducible refine Rf.wp_cons ?_; with_reducible refine Rf.wp_varD (by with_unfolding_all exact rfl) ?_; with_reducible refine Rf.wp_nil ?_; with_reducible refine Rf.tp_dat (by with_unfolding_all exact rfl) (by with_unfolding_all exact rfl) ?_; dsimp only [Rf.strB, Rf.intB, Rf.boolB, Rf.tupB, Rf.dicB, Rf.noneB]; with_reducible refine Rf.wp_nil ?_; with_reducible refine Rf.lp_dat (by with_unfolding_all exact rfl) (by with_unfolding_all exact rfl) ?_; dsimp only [Rf.strB, Rf.intB, Rf.boolB, Rf.tupB, Rf.dicB, Rf.noneB])
    (with_reducible refine addG g2 (good_c (v5_ok (pd_int _) sk) (good_c (v5_ok (pd_int _) sk) (good_1 (v5_ok (pd_bool _) sk)))) (by decide) fun z3 g3 => ?_)
    (with_reducible refine wp_name ?_)
    simp only [List.set_cons_zero, List.set_cons_succ]
    (with_reducible refine Rf.wp_seq ?_; with_reducible refine Rf.wp_asg ?_; with_reducible refine Rf.wp_bin ?_; with_reducible refine Rf.wp_varD (by with_unfolding_all exact rfl) ?_; with_reducible refine Rf.wp_lst ?_; with_reducible refine Rf.wp_cons ?_; with_reducible refine Rf.wp_tup ?_; with_reducible refine Rf.wp_cons ?_; with_reducible refine Rf.wp_varD (by with_unfolding_all exact rfl) ?_; with_reducible refine Rf.wp_cons ?_; with_reducible refine Rf.wp_varD (by with_unfolding_all exact rfl) ?_; with_reducible refine Rf.wp_cons ?_; with_reducible refine Rf.wp_varD (by with_unfolding_all exact rfl) ?_; with_reducible refine Rf.wp_cons ?_; with_reducible refine Rf.wp_varD (by with_unfolding_all exact rfl) ?_; with_reducible refine Rf.wp_cons ?_; with_reducible refine Rf.wp_CB ?_; with_reducible refine Rf.wp_cons ?_; with_reducible refine Rf.wp_varD (by with_unfolding_all exact rfl) ?_; with_reducible refine Rf.wp_nil ?_; with_reducible refine Rf.list_tup ?_; with_reducible refine Rf.wp_nil ?_; with_reducible refine Rf.tp_dat (by with_unfolding_all exact rfl) (by with_unfolding_all exact rfl) ?_; dsimp only [Rf.strB, Rf.intB, Rf.boolB, Rf.tupB, Rf.dicB, Rf.noneB]; with_reducible refine Rf.wp_cons ?_; with_reducible refine Rf.wp_tup ?_; with_reducible refine Rf.wp_cons ?_; with_reducible refine Rf.wp_varD (by with_unfolding_all exact rfl) ?_; with_reducible refine Rf.wp_cons ?_; with_reducible refine Rf.wp_varD (by with_unfolding_all exact rfl) ?_; with_reducible refine Rf.wp_cons ?_; with_reducible refine Rf.wp_varD (by with_unfolding_all exact rfl) ?_; with_reducible refine Rf.wp_cons ?_; with_reducible refine Rf.wp_varD (by with_unfolding_all exact rfl) ?_; with_reducible refine Rf.wp_cons ?_; with_reducible refine Rf.wp_bin ?_; with_reducible refine Rf.wp_varD (by with_unfolding_all exact rfl) ?_; with_reducible refine Rf.wp_tup ?_; with_reducible refine Rf.wp_cons ?_; with_reducible refine Rf.wp_tup ?_; with_reducible refine Rf.wp_cons ?_; with_reducible refine Rf.wp_con ?_; with_reducible refine Rf.wp_cons ?_; with_reducible refine Rf.wp_con ?_; with_reducible refine Rf.wp_nil ?_; with_reducible refine Rf.tp_dat (by with_unfolding_all exact rfl) (by with_unfolding_all exact rfl) ?_; dsimp only [Rf.strB, Rf.intB, Rf.boolB, Rf.tupB, Rf.dicB, Rf.noneB]; with_reducible refine Rf.wp_nil ?_; with_reducible refine Rf.tp_dat (by with_unfolding_all exact rfl) (by with_unfolding_all exact rfl) ?_; dsimp only [Rf.strB, Rf.intB, Rf.boolB, Rf.tupB, Rf.dicB, Rf.noneB])
    (with_reducible refine ad [.tuple [.str "zzzzzzzzz", .int 0]] (by decide) ?_)
    (with_reducible refine Rf.wp_nil ?_; with_reducible refine Rf.tp_dat (by with_unfolding_all exact rfl) (by with_unfolding_all exact rfl) ?_; dsimp only [Rf.strB, Rf.intB, Rf.boolB, Rf.tupB, Rf.dicB, Rf.noneB]; with_reducible refine Rf.wp_nil ?_; with_reducible refine Rf.lp_dat (by with_unfolding_all exact rfl) (by with_unfolding_all exact rfl) ?_; dsimp only [Rf.strB, Rf.intB, Rf.boolB, Rf.tupB, Rf.dicB, Rf.noneB])
    (with_reducible refine addG g3 (good_c (v5_l (pd_int _)) (good_1 (v5_ok (pd_int _) (sok_app sk (sok_1 (sok_two (by decide +kernel))))))) (by decide) fun z4 g4 => ?_)
    (with_reducible refine wp_name ?_)
    simp only [List.set_cons_zero, List.set_cons_succ]
    (with_reducible refine Rf.wp_seq ?_; with_reducible refine Rf.wp_asg ?_; with_reducible refine Rf.wp_bin ?_; with_reducible refine Rf.wp_varD (by with_unfolding_all exact rfl) ?_; with_reducible refine Rf.wp_lst ?_; with_reducible refine Rf.wp_cons ?_; with_reducible refine Rf.wp_tup ?_; with_reducible refine Rf.wp_cons ?_; with_reducible refine Rf.wp_bin ?_; with_reducible refine Rf.wp_con ?_; with_reducible refine Rf.wp_con ?_)
    (with_reducible refine pow18 ?_)
    (with_reducible refine Rf.wp_cons ?_; with_reducible refine Rf.wp_varD (by with_unfolding_all exact rfl) ?_; with_reducible refine Rf.wp_cons ?_; with_reducible refine Rf.wp_varD (by with_unfolding_all exact rfl) ?_; with_reducible refine Rf.wp_cons ?_; with_reducible refine Rf.wp_varD (by with_unfolding_all exact rfl) ?_; with_reducible refine Rf.wp_cons ?_; with_reducible refine Rf.wp_varD (by with_unfolding_all exact rfl) ?_; with_reducible refine Rf.wp_nil ?_; with_reducible refine Rf.tp_dat (by with_unfolding_all exact rfl) (by with_unfolding_all exact rfl) ?_; dsimp only [Rf.strB, Rf.intB, Rf.boolB, Rf.tupB, Rf.dicB, Rf.noneB]; with_reducible refine Rf.wp_cons ?_; with_reducible refine Rf.wp_tup ?_; with_reducible refine Rf.wp_cons ?_; with_reducible refine Rf.wp_varD (by with_unfolding_all exact rfl) ?_; with_reducible refine Rf.wp_cons ?_; with_reducible refine Rf.wp_varD (by with_unfolding_all exact rfl) ?_; with_reducible refine Rf.wp_cons ?_; with_reducible refine Rf.wp_bin ?_; with_reducible refine Rf.wp_con ?_; with_reducible refine Rf.wp_con ?_)
    (with_reducible refine pow18 ?_)
    (with_reducible refine Rf.wp_cons ?_; with_reducible refine Rf.wp_varD (by with_unfolding_all exact rfl) ?_; with_reducible refine Rf.wp_cons ?_; with_reducible refine Rf.wp_varD (by with_unfolding_all exact rfl) ?_; with_reducible refine Rf.wp_nil ?_; with_reducible refine Rf.tp_dat (by with_unfolding_all exact rfl) (by with_unfolding_all exact rfl) ?_; dsimp only [Rf.strB, Rf.intB, Rf.boolB, Rf.tupB, Rf.dicB, Rf.noneB]; with_reducible refine Rf.wp_cons ?_; with_reducible refine Rf.wp_tup ?_; with_reducible refine Rf.wp_cons ?_; with_reducible refine Rf.wp_con ?_; with_reducible refine Rf.wp_cons ?_; with_reducible refine Rf.wp_varD (by with_unfolding_all exact rfl) ?_; with_reducible refine Rf.wp_cons ?_; with_reducible refine Rf.wp_varD (by with_unfolding_all exact rfl) ?_; with_reducible refine Rf.wp_cons ?_; with_reducible refine Rf.wp_varD (by with_unfolding_all exact rfl) ?_; with_reducible refine Rf.wp_cons ?_; with_reducible refine Rf.wp_varD (by with_unfolding_all exact rfl) ?_; with_reducible refine Rf.wp_nil ?_; with_reducible refine Rf.tp_dat (by with_unfolding_all exact rfl) (by with_unfolding_all exact rfl) ?_; dsimp only [Rf.strB, Rf.intB, Rf.boolB, Rf.tupB, Rf.dicB, Rf.noneB]; with_reducible refine Rf.wp_nil ?_; with_reducible refine Rf.lp_dat (by with_unfolding_all exact rfl) (by with_unfolding_all exact rfl) ?_; dsimp only [Rf.strB, Rf.intB, Rf.boolB, Rf.tupB, Rf.dicB, Rf.noneB])
    (with_reducible refine addG g4 (good_c (v5_ok (pd_int _) sk) (good_c (v5_ok (pd_int _) sk) (good_1 (v5_ok (pd_int _) sk)))) (by decide) fun z5 g5 => ?_)
    (with_reducible refine wp_name ?_)
    simp only [List.set_cons_zero, List.set_cons_succ]
    (with_reducible refine Rf.wp_seq ?_; with_reducible refine Rf.wp_asg ?_; with_reducible refine Rf.wp_bin ?_; with_reducible refine Rf.wp_varD (by with_unfolding_all exact rfl) ?_; with_reducible refine Rf.wp_lst ?_; with_reducible refine Rf.wp_cons ?_; with_reducible refine Rf.wp_tup ?_; with_reducible refine Rf.wp_cons ?_; with_reducible refine Rf.wp_varD (by with_unfolding_all exact rfl) ?_; with_reducible refine Rf.wp_cons ?_; with_reducible refine Rf.wp_varD (by with_unfolding_all exact rfl) ?_; with_reducible refine Rf.wp_cons ?_; with_reducible refine Rf.wp_varD (by with_unfolding_all exact rfl) ?_; with_reducible refine Rf.wp_cons ?_; with_reducible refine Rf.wp_varD (by with_unfolding_all exact rfl) ?_; with_reducible refine Rf.wp_cons ?_; with_reducible refine Rf.wp_bin ?_; with_reducible refine Rf.wp_varD (by with_unfolding_all exact rfl) ?_; with_reducible refine Rf.wp_tup ?_; with_reducible refine Rf.wp_cons ?_; with_reducible refine Rf.wp_tup ?_; with_reducible refine Rf.wp_cons ?_; with_reducible refine Rf.wp_con ?_; with_reducible refine Rf.wp_cons ?_; with_reducible refine Rf.wp_con ?_; with_reducible refine Rf.wp_nil ?_; with_reducible refine Rf.tp_dat (by with_unfolding_all exact rfl) (by with_unfolding_all exact rfl) ?_; dsimp only [Rf.strB, Rf.intB, Rf.boolB, Rf.tupB, Rf.dicB, Rf.noneB]; with_reducible refine Rf.wp_nil ?_; with_reducible refine Rf.tp_dat (by with_unfolding_all exact rfl) (by with_unfolding_all exact rfl) ?_; dsimp only [Rf.strB, Rf.intB, Rf.boolB, Rf.tupB, Rf.dicB, Rf.noneB])
    (with_reducible refine ad [.tuple [.str "a", .int 0]] (by decide) ?_)
    (with_reducible refine Rf.wp_nil ?_; with_reducible refine Rf.tp_dat (by with_unfolding_all exact rfl) (by with_unfolding_all exact rfl) ?_; dsimp only [Rf.strB, Rf.intB, Rf.boolB, Rf.tupB, Rf.dicB, Rf.noneB]; with_reducible refine Rf.wp_cons ?_; with_reducible refine Rf.wp_tup ?_; with_reducible refine Rf.wp_cons ?_; with_reducible refine Rf.wp_varD (by with_unfolding_all exact rfl) ?_; with_reducible refine Rf.wp_cons ?_; with_reducible refine Rf.wp_varD (by with_unfolding_all exact rfl) ?_; with_reducible refine Rf.wp_cons ?_; with_reducible refine Rf.wp_varD (by with_unfolding_all exact rfl) ?_; with_reducible refine Rf.wp_cons ?_; with_reducible refine Rf.wp_varD (by with_unfolding_all exact rfl) ?_; with_reducible refine Rf.wp_cons ?_; with_reducible refine Rf.wp_bin ?_; with_reducible refine Rf.wp_tup ?_; with_reducible refine Rf.wp_cons ?_; with_reducible refine Rf.wp_tup ?_; with_reducible refine Rf.wp_cons ?_; with_reducible refine Rf.wp_con ?_; with_reducible refine Rf.wp_cons ?_; with_reducible refine Rf.wp_con ?_; with_reducible refine Rf.wp_nil ?_; with_reducible refine Rf.tp_dat (by with_unfolding_all exact rfl) (by with_unfolding_all exact rfl) ?_; dsimp only [Rf.strB, Rf.intB, Rf.boolB, Rf.tupB, Rf.dicB, Rf.noneB]; with_reducible refine Rf.wp_nil ?_; with_reducible refine Rf.tp_dat (by with_unfolding_all exact rfl) (by with_unfolding_all exact rfl) ?_; dsimp only [Rf.strB, Rf.intB, Rf.boolB, Rf.tupB, Rf.dicB, Rf.noneB]; with_reducible refine Rf.wp_varD (by with_unfolding_all exact rfl) ?_)
    (with_reducible refine add_tup (Nat.le_trans (Nat.add_le_add (show _ ≤ 1 from Nat.le_of_ble_eq_true rfl) sl) (by decide)) ?_)
    (with_reducible refine Rf.wp_nil ?_; with_reducible refine Rf.tp_dat (by with_unfolding_all exact rfl) (by with_unfolding_all exact rfl) ?_; dsimp only [Rf.strB, Rf.intB, Rf.boolB, Rf.tupB, Rf.dicB, Rf.noneB]; with_reducible refine Rf.wp_nil ?_; with_reducible refine Rf.lp_dat (by with_unfolding_all exact rfl) (by with_unfolding_all exact rfl) ?_; dsimp only [Rf.strB, Rf.intB, Rf.boolB, Rf.tupB, Rf.dicB, Rf.noneB])
    (with_reducible refine addG g5 (good_c (v5_ok (pd_int _) (sok_app sk (sok_1 (sok_two (by decide +kernel))))) (good_1 (v5_ok (pd_int _) (sok_app (sok_1 (sok_two (by decide +kernel))) sk)))) (by decide) fun z6 g6 => ?_)
    (with_reducible refine wp_name ?_)
    simp only [List.set_cons_zero, List.set_cons_succ]
    (with_reducible refine Rf.wp_seq ?_; with_reducible refine Rf.wp_asg ?_; with_reducible refine Rf.wp_bin ?_; with_reducible refine Rf.wp_varD (by with_unfolding_all exact rfl) ?_; with_reducible refine Rf.wp_lst ?_; with_reducible refine Rf.wp_cons ?_; with_reducible refine Rf.wp_tup ?_; with_reducible refine Rf.wp_cons ?_; with_reducible refine Rf.wp_varD (by with_unfolding_all exact rfl) ?_; with_reducible refine Rf.wp_cons ?_; with_reducible refine Rf.wp_varD (by with_unfolding_all exact rfl) ?_; with_reducible refine Rf.wp_cons ?_; with_reducible refine Rf.wp_varD (by with_unfolding_all exact rfl) ?_; with_reducible refine Rf.wp_cons ?_; with_reducible refine Rf.wp_varD (by with_unfolding_all exact rfl) ?_; with_reducible refine Rf.wp_cons ?_; with_reducible refine Rf.wp_bin ?_; with_reducible refine Rf.wp_varD (by with_unfolding_all exact rfl) ?_; with_reducible refine Rf.wp_tup ?_; with_reducible refine Rf.wp_cons ?_; with_reducible refine Rf.wp_tup ?_; with_reducible refine Rf.wp_cons ?_; with_reducible refine Rf.wp_con ?_; with_reducible refine Rf.wp_cons ?_; with_reducible refine Rf.wp_con ?_; with_reducible refine Rf.wp_nil ?_; with_reducible refine Rf.tp_dat (by with_unfolding_all exact rfl) (by with_unfolding_all exact rfl) ?_; dsimp only [Rf.strB, Rf.intB, Rf.boolB, Rf.tupB, Rf.dicB, Rf.noneB]; with_reducible refine Rf.wp_nil ?_; with_reducible refine Rf.tp_dat (by with_unfolding_all exact rfl) (by with_unfolding_all exact rfl) ?_; dsimp only [Rf.strB, Rf.intB, Rf.boolB, Rf.tupB, Rf.dicB, Rf.noneB])
    (with_reducible refine ad [.tuple [.str "zzzzzzzz", .int 1]] (by decide) ?_)
    (with_reducible refine Rf.wp_nil ?_; with_reducible refine Rf.tp_dat (by with_unfolding_all exact rfl) (by with_unfolding_all exact rfl) ?_; dsimp only [Rf.strB, Rf.intB, Rf.boolB, Rf.tupB, Rf.dicB, Rf.noneB]; with_reducible refine Rf.wp_cons ?_; with_reducible refine Rf.wp_tup ?_; with_reducible refine Rf.wp_cons ?_; with_reducible refine Rf.wp_varD (by with_unfolding_all exact rfl) ?_; with_reducible refine Rf.wp_cons ?_; with_reducible refine Rf.wp_varD (by with_unfolding_all exact rfl) ?_; with_reducible refine Rf.wp_cons ?_; with_reducible refine Rf.wp_varD (by with_unfolding_all exact rfl) ?_; with_reducible refine Rf.wp_cons ?_; with_reducible refine Rf.wp_varD (by with_unfolding_all exact rfl) ?_; with_reducible refine Rf.wp_cons ?_; with_reducible refine Rf.wp_tup ?_; with_reducible refine Rf.wp_cons ?_; with_reducible refine Rf.wp_tup ?_; with_reducible refine Rf.wp_cons ?_; with_reducible refine Rf.wp_con ?_; with_reducible refine Rf.wp_cons ?_; with_reducible refine Rf.wp_con ?_; with_reducible refine Rf.wp_cons ?_; with_reducible refine Rf.wp_con ?_; with_reducible refine Rf.wp_nil ?_; with_reducible refine Rf.tp_dat (by with_unfolding_all exact rfl) (by with_unfolding_all exact rfl) ?_; dsimp only [Rf.strB, Rf.intB, Rf.boolB, Rf.tupB, Rf.dicB, Rf.noneB]; with_reducible refine Rf.wp_nil ?_; with_reducible refine Rf.tp_dat (by with_unfolding_all exact rfl) (by with_unfolding_all exact rfl) ?_; dsimp only [Rf.strB, Rf.intB, Rf.boolB, Rf.tupB, Rf.dicB, Rf.noneB]; with_reducible refine Rf.wp_nil ?_; with_reducible refine Rf.tp_dat (by with_unfolding_all exact rfl) (by with_unfolding_all exact rfl) ?_; dsimp only [Rf.strB, Rf.intB, Rf.boolB, Rf.tupB, Rf.dicB, Rf.noneB]; with_reducible refine Rf.wp_nil ?_; with_reducible refine Rf.lp_dat (by with_unfolding_all exact rfl) (by with_unfolding_all exact rfl) ?_; dsimp only [Rf.strB, Rf.intB, Rf.boolB, Rf.tupB, Rf.dicB, Rf.noneB])
    (with_reducible refine addG g6 (good_c (v5_ok (pd_int _) (sok_app sk (sok_1 (sok_two (by decide +kernel))))) (good_1 (v5_ok (pd_int _) (sok_1 sok_three)))) (by decide) fun z7 g7 => ?_)
    (with_reducible refine wp_name ?_)
    simp only [List.set_cons_zero, List.set_cons_succ]
    (with_reducible refine Rf.wp_seq ?_; with_reducible refine Rf.wp_asg ?_; with_reducible refine Rf.wp_CB ?_; with_reducible refine Rf.wp_cons ?_; with_reducible refine Rf.wp_comp ?_; with_reducible refine Rf.wp_itS ?_; with_reducible refine Rf.wp_tup ?_; with_reducible refine Rf.wp_cons ?_; with_reducible refine Rf.wp_con ?_; with_reducible refine Rf.wp_cons ?_; with_reducible refine Rf.wp_con ?_; with_reducible refine Rf.wp_cons ?_; with_reducible refine Rf.wp_con ?_; with_reducible refine Rf.wp_cons ?_; with_reducible refine Rf.wp_con ?_; with_reducible refine Rf.wp_cons ?_; with_reducible refine Rf.wp_con ?_; with_reducible refine Rf.wp_cons ?_; with_reducible refine Rf.wp_con ?_; with_reducible refine Rf.wp_cons ?_; with_reducible refine Rf.wp_con ?_; with_reducible refine Rf.wp_nil ?_; with_reducible refine Rf.tp_dat (by with_unfolding_all exact rfl) (by with_unfolding_all exact rfl) ?_; with_reducible refine Rf.its_tup ?_; dsimp only [Rf.strB, Rf.intB, Rf.boolB, Rf.tupB, Rf.dicB, Rf.noneB])
    (with_reducible refine wp_compM (f := W.dat) (xs := [PyData.str "a", .str "b", .str "c", .str "d", .str "e", .str "f", .str "g"]) (fun d => .dat (.tuple [d, .int 0])) (by decide) (fun d hd => ?_) ?_)
    · (with_reducible refine Rf.wp_tup ?_; with_reducible refine Rf.wp_cons ?_; with_reducible refine Rf.wp_varD (by with_unfolding_all exact rfl) ?_; with_reducible refine Rf.wp_cons ?_; with_reducible refine Rf.wp_con ?_; with_reducible refine Rf.wp_nil ?_; with_reducible refine Rf.tp_dat (by with_unfolding_all exact rfl) (by with_unfolding_all exact rfl) ?_; dsimp only [Rf.strB, Rf.intB, Rf.boolB, Rf.tupB, Rf.dicB, Rf.noneB])
      exact ⟨rfl, rfl⟩
    rw [show ([PyData.str "a", .str "b", .str "c", .str "d", .str "e", .str "f", .str "g"].map fun d => W.dat (.tuple [d, .int 0])) = many7.map W.dat from rfl]
    (with_reducible refine nl_dat ?_)
    generalize hm7 : many7 = m7
    have ms : ∀ s ∈ m7, SOk s := by rw [← hm7]; exact many_sok
    (with_reducible refine Rf.wp_nil ?_; with_reducible refine Rf.tuple_lst ?_; with_reducible refine Rf.wp_name ?_; with_reducible refine Rf.wp_ret ?_; with_reducible refine Rf.wp_bin ?_; with_reducible refine Rf.wp_varD (by with_unfolding_all exact rfl) ?_; with_reducible refine Rf.wp_lst ?_; with_reducible refine Rf.wp_cons ?_; with_reducible refine Rf.wp_tup ?_; with_reducible refine Rf.wp_cons ?_; with_reducible refine Rf.wp_varD (by with_unfolding_all exact rfl) ?_; with_reducible refine Rf.wp_cons ?_; with_reducible refine Rf.wp_varD (by with_unfolding_all exact rfl) ?_; with_reducible refine Rf.wp_cons ?_; with_reducible refine Rf.wp_varD (by with_unfolding_all exact rfl) ?_; with_reducible refine Rf.wp_cons ?_; with_reducible refine Rf.wp_varD (by with_unfolding_all exact rfl) ?_; with_reducible refine Rf.wp_cons ?_; with_reducible refine Rf.wp_varD (by with_unfolding_all exact rfl) ?_; with_reducible refine Rf.wp_nil ?_; with_reducible refine Rf.tp_dat (by with_unfolding_all exact rfl) (by with_unfolding_all exact rfl) ?_; dsimp only [Rf.strB, Rf.intB, Rf.boolB, Rf.tupB, Rf.dicB, Rf.noneB]; with_reducible refine Rf.wp_cons ?_; with_reducible refine Rf.wp_tup ?_; with_reducible refine Rf.wp_cons ?_; with_reducible refine Rf.wp_varD (by with_unfolding_all exact rfl) ?_; with_reducible refine Rf.wp_cons ?_; with_reducible refine Rf.wp_varD (by with_unfolding_all exact rfl) ?_; with_reducible refine Rf.wp_cons ?_; with_reducible refine Rf.wp_varD (by with_unfolding_all exact rfl) ?_; with_reducible refine Rf.wp_cons ?_; with_reducible refine Rf.wp_varD (by with_unfolding_all exact rfl) ?_; with_reducible refine Rf.wp_cons ?_; with_reducible refine Rf.wp_sl ?_; with_reducible refine Rf.wp_varD (by with_unfolding_all exact rfl) ?_; with_reducible refine Rf.wp_noPart ?_; with_reducible refine Rf.wp_part ?_; with_reducible refine Rf.wp_con ?_; with_reducible refine Rf.exInt ?_; with_reducible refine Rf.sl_tup ?_; with_reducible refine Rf.wp_nil ?_; with_reducible refine Rf.tp_dat (by with_unfolding_all exact rfl) (by with_unfolding_all exact rfl) ?_; dsimp only [Rf.strB, Rf.intB, Rf.boolB, Rf.tupB, Rf.dicB, Rf.noneB]; with_reducible refine Rf.wp_cons ?_; with_reducible refine Rf.wp_tup ?_; with_reducible refine Rf.wp_cons ?_; with_reducible refine Rf.wp_varD (by with_unfolding_all exact rfl) ?_; with_reducible refine Rf.wp_cons ?_; with_reducible refine Rf.wp_CB ?_; with_reducible refine Rf.wp_cons ?_; with_reducible refine Rf.wp_varD (by with_unfolding_all exact rfl) ?_; with_reducible refine Rf.wp_nil ?_)
    (with_reducible refine str_int hlog fun zz => ?_)
    (with_reducible refine Rf.wp_cons ?_; with_reducible refine Rf.wp_varD (by with_unfolding_all exact rfl) ?_; with_reducible refine Rf.wp_cons ?_; with_reducible refine Rf.wp_varD (by with_unfolding_all exact rfl) ?_; with_reducible refine Rf.wp_cons ?_; with_reducible refine Rf.wp_varD (by with_unfolding_all exact rfl) ?_; with_reducible refine Rf.wp_nil ?_; with_reducible refine Rf.tp_dat (by with_unfolding_all exact rfl) (by with_unfolding_all exact rfl) ?_; dsimp only [Rf.strB, Rf.intB, Rf.boolB, Rf.tupB, Rf.dicB, Rf.noneB]; with_reducible refine Rf.wp_nil ?_; with_reducible refine Rf.lp_dat (by with_unfolding_all exact rfl) (by with_unfolding_all exact rfl) ?_; dsimp only [Rf.strB, Rf.intB, Rf.boolB, Rf.tupB, Rf.dicB, Rf.noneB])
    rw [show cutW m7 none (some 6) = m7.take 6 from cut_to _ 6]
    (with_reducible refine addG g7 (good_c (v5_ok (pd_int _) ms) (good_c (v5_ok (pd_int _) fun s hs => ms s (List.mem_of_mem_take hs)) (good_1 (v5_ok (pd_int _) sk)))) (by decide) fun z8 g8 => ?_)
    (with_reducible refine rt_same ?_)
    exact ⟨rfl, _, rfl, Nat.le_trans g8.1 (by decide), g8.2⟩
  obtain ⟨x, S', e, h1⟩ := ok_of_wp main
  obtain ⟨h1, vs, h2, r⟩ := h1
  exact ⟨vs, by rw [e, h1, h2], r⟩
end
end V

namespace V
open PySem L2 PyProof.Rows Rf Nm

theorem head_bits {size : Int} {h : Hd} (ok : headB size (headD h) = true) : (1 ≤ h.turn ∧ h.turn ≤ 999999999999999999) ∧ (1 ≤ h.number ∧ h.number ≤ 999999999999999999) ∧ (4 ≤ h.log ∧ h.log ≤ mlog size) ∧ rootB size h.log (.int h.root) = true ∧ (∀ p ∈ h.shots, rootB size h.log (.int p.2) = true) := by
  unfold headD at ok
  rw [headB_five] at ok
  simp only [Bool.and_eq_true] at ok
  obtain ⟨⟨⟨a, b⟩, c⟩, d, e⟩ := ok
  have num : ∀ {lo hi i : Int}, isNum lo hi (.int i) = true → lo ≤ i ∧ i ≤ hi := fun {lo hi i} z => by
    obtain ⟨j, ej, h1⟩ := num_int z
    cases ej; exact h1
  refine ⟨num a, num b, num c, d, fun p hp => ?_⟩
  rw [shotsB_tup] at e
  simp only [Bool.and_eq_true] at e
  have := List.all_eq_true.mp e.1.2 (shD p) (List.mem_map_of_mem hp)
  unfold shD at this
  rw [shotB_two, Bool.and_eq_true] at this
  exact this.2
theorem root_num {size log r : Int} (hs : size ≤ 240) (hl : 4 ≤ log) (h : rootB size log (.int r) = true) : 0 ≤ r ∧ r ≤ 240 := by
  unfold rootB isNum at h
  simp only [Bool.or_eq_true, Bool.and_eq_true, decide_eq_true_eq] at h
  omega
theorem cells_okC {size : Int} (hs : 24 ≤ size ∧ size ≤ 240) {h : Hd} (hn : Named h) (ok : headB size (headD h) = true) : ∀ c ∈ cellsD h, okC c := by
  obtain ⟨a, b, c, d, e⟩ := head_bits ok
  have hm : mlog size ≤ 40 := by unfold mlog; split <;> omega
  have hr := root_num hs.2 c.1 d
  intro x hx
  unfold cellsD at hx
  rcases List.mem_append.mp hx with hx | hx
  · simp only [List.mem_cons, List.not_mem_nil, or_false] at hx
    have := hn.1
    unfold okC
    rcases hx with rfl | rfl | rfl | rfl | rfl <;> omega
  · obtain ⟨l, hl, hx⟩ := List.mem_flatten.mp hx
    obtain ⟨p, hp, rfl⟩ := List.mem_map.mp hl
    simp only [shC, List.mem_cons, List.not_mem_nil, or_false] at hx
    rcases hx with rfl | rfl
    · have := cellOf_lt (name_bits (hn.2 p hp)).2.2
      unfold okC; omega
    · have := root_num hs.2 c.1 (e p hp)
      unfold okC; omega
theorem cutW_map {α β : Type} (f : α → β) (xs : List α) (lo hi : Option Int) : cutW (xs.map f) lo hi = (cutW xs lo hi).map f := by
  unfold cutW
  rw [List.length_map, List.map_take, List.map_drop]
theorem cutW_sub {α : Type} {xs : List α} {lo hi : Option Int} {x : α} (h : x ∈ cutW xs lo hi) : x ∈ xs := List.mem_of_mem_drop (List.mem_of_mem_take h)
theorem cutW_len {α : Type} (xs : List α) (lo hi : Option Int) : (cutW xs lo hi).length ≤ xs.length := by
  unfold cutW
  rw [List.length_take, List.length_drop]; omega
theorem pd_head (h : Hd) : PD 12 (headD h) := by
  unfold headD
  refine PD.mono (pd_tup (n := 3) fun x hx => ?_) (by decide)
  simp only [List.mem_cons, List.not_mem_nil, or_false] at hx
  rcases hx with rfl | rfl | rfl | rfl | rfl
  · exact pd_int _
  · exact pd_int _
  · exact pd_int _
  · exact pd_int _
  · refine pd_tup (n := 2) fun s hs => ?_
    obtain ⟨p, _, rfl⟩ := List.mem_map.mp hs
    refine PD.mono (pd_tup (n := 0) fun y hy => ?_) (by decide)
    simp only [List.mem_cons, List.not_mem_nil, or_false] at hy
    rcases hy with rfl | rfl
    · exact pd_str _
    · exact pd_int _
theorem pd_tI (ns : List Int) : PD 1 (tI ns) := pd_tup (n := 0) fun x hx => by
  obtain ⟨i, _, rfl⟩ := List.mem_map.mp hx
  exact pd_int _
theorem pd_headIn (size : Int) (cs : List Int) : PD 12 (headIn size cs) := by
  unfold headIn
  split
  · exact pd_non
  split
  · unfold decD
    refine PD.mono (pd_tup (n := 3) fun x hx => ?_) (by decide)
    rcases List.mem_append.mp hx with hx | hx
    · obtain ⟨i, _, rfl⟩ := List.mem_map.mp hx
      exact pd_int _
    · rw [List.mem_singleton.mp hx]
      refine pd_tup (n := 2) fun s hs => ?_
      obtain ⟨i, _, rfl⟩ := List.mem_map.mp hs
      unfold pairAt
      refine PD.mono (pd_tup (n := 0) fun y hy => ?_) (by decide)
      simp only [List.mem_cons, List.not_mem_nil, or_false] at hy
      rcases hy with rfl | rfl
      · cases nameOf (cs.getD (5 + 2 * i) 0) with
        | none => exact pd_non
        | some l => exact pd_str _
      · exact pd_int _
  · exact pd_non
section
variable {bs : List Nat} {S : Store} {n : Nat} {E : EK}
theorem add_cs {as cs : List Int} (h : as.length + cs.length ≤ 1000) {Q : W → Store → Prop} (q : Q (.dat (tI (as ++ cs))) S) : wpo (addF false bs (.dat (tI as)) (.dat (tI cs)) S) Q := add_tup (by rw [List.length_map, List.length_map]; omega) (by rw [← List.map_append]; exact q)
theorem wp_other (hv : Vat S n) {cs : List Int} (h5 : 5 ≤ cs.length) (hl : cs.length ≤ 17) (hc : ∀ c ∈ cs, okC c) (h4 : cs.getD 4 0 ≤ 100) :
    (F__law_other_cells bs [.loc n, .dat (tI cs)] S).wp (fun w S' => DW n S (fun w => ∃ os : List Int, w = .dat (tI os) ∧ os.length ≤ 52 ∧ ∀ c ∈ os, okC c) w S') E := by
  have cl : ∀ lo hi, (cutW cs lo hi).length ≤ 17 := fun lo hi => Nat.le_trans (cutW_len _ _ _) hl
  have co : ∀ lo hi, ∀ c ∈ cutW cs lo hi, okC c := fun lo hi c h => hc c (cutW_sub h)
  have ap : ∀ {as bs : List Int}, (∀ c ∈ as, okC c) → (∀ c ∈ bs, okC c) → ∀ c ∈ as ++ bs, okC c := fun h k c hm => (List.mem_append.mp hm).elim (h c) (k c)
  have o1 : ∀ {x : Int}, okC x → ∀ c ∈ [x], okC c := fun h c hm => by rw [List.mem_singleton.mp hm]; exact h
  (unfold F__law_other_cells m__law_other_cells; with_reducible refine Rf.wp_fn rfl ?_; simp only [Rf.startE, List.map_cons, List.map_nil, List.length_cons, List.length_nil, Nat.reduceAdd, Nat.reduceSub, List.replicate, List.cons_append, List.nil_append])
  (with_reducible refine Rf.wp_seq ?_; with_reducible refine Rf.wp_par ?_; with_reducible refine Rf.wp_cons ?_; with_reducible refine Rf.wp_call ?_; with_reducible refine Rf.wp_cons ?_; with_reducible refine Rf.wp_varL (by with_unfolding_all exact rfl) ?_; with_reducible refine Rf.wp_cons ?_; with_reducible refine Rf.wp_CB ?_; with_reducible refine Rf.wp_cons ?_; with_reducible refine Rf.wp_varD (by with_unfolding_all exact rfl) ?_; with_reducible refine Rf.wp_nil ?_; with_reducible refine Rf.len_tup ?_; with_reducible refine Rf.wp_nil ?_)
  refine (wp_drop hv (by rw [List.length_map]; omega) (by rw [List.length_map]; omega)).use fun w S1 ⟨⟨at_, hw, a0, a1⟩, d1⟩ => ?_
  subst hw
  (with_reducible refine Rf.wp_cons ?_; with_reducible refine Rf.wp_call ?_; with_reducible refine Rf.wp_cons ?_; with_reducible refine Rf.wp_varL (by with_unfolding_all exact rfl) ?_; with_reducible refine Rf.wp_cons ?_; with_reducible refine Rf.wp_con ?_; with_reducible refine Rf.wp_nil ?_)
  refine (wp_drop d1.vat (by decide) (by decide)).use fun w S2 ⟨⟨way, hw, w0, w1⟩, d2⟩ => ?_
  subst hw
  (with_reducible refine Rf.wp_nil ?_; with_reducible refine Rf.ex2 ?_; with_reducible refine Rf.wp_seq ?_; with_reducible refine Rf.wp_sIf ?_; with_reducible refine Rf.wp_B ?_; with_reducible refine Rf.wp_bin ?_; with_reducible refine Rf.wp_varD (by with_unfolding_all exact rfl) ?_; with_reducible refine Rf.wp_con ?_; with_reducible refine Rf.eq_int ?_; with_reducible refine Rf.isB_mk ?_)
  have dd := d1.trans d2
  refine ifD (fun h => ?_) (fun h => ?_)
  · (with_reducible refine Rf.wp_ret ?_; with_reducible refine Rf.wp_sl ?_; with_reducible refine Rf.wp_varD (by with_unfolding_all exact rfl) ?_; with_reducible refine Rf.wp_noPart ?_; with_reducible refine Rf.wp_part ?_; with_reducible refine Rf.wp_neg ?_; with_reducible refine Rf.wp_con ?_; with_reducible refine Rf.exInt ?_; with_reducible refine Rf.exInt ?_; with_reducible refine Rf.sl_tup ?_)
    refine rt_len dd.len ⟨⟨cutW cs none (some (-1)), by rw [cutW_map], Nat.le_trans (cl _ _) (by decide), co _ _⟩, dd⟩
  (with_reducible refine Rf.wp_sNil ?_; with_reducible refine Rf.wp_seq ?_; with_reducible refine Rf.wp_sIf ?_; with_reducible refine Rf.wp_B ?_; with_reducible refine Rf.wp_bin ?_; with_reducible refine Rf.wp_varD (by with_unfolding_all exact rfl) ?_; with_reducible refine Rf.wp_con ?_; with_reducible refine Rf.eq_int ?_; with_reducible refine Rf.isB_mk ?_)
  refine ifD (fun h => ?_) (fun h => ?_)
  · (with_reducible refine Rf.wp_ret ?_; with_reducible refine Rf.wp_bin ?_; with_reducible refine Rf.wp_varD (by with_unfolding_all exact rfl) ?_; with_reducible refine Rf.wp_tup ?_; with_reducible refine Rf.wp_cons ?_; with_reducible refine Rf.wp_con ?_; with_reducible refine Rf.wp_nil ?_; with_reducible refine Rf.tp_dat (by with_unfolding_all exact rfl) (by with_unfolding_all exact rfl) ?_; dsimp only [Rf.strB, Rf.intB, Rf.boolB, Rf.tupB, Rf.dicB, Rf.noneB])
    refine add_cs (cs := [0]) (by simp; omega) ?_
    exact rt_len dd.len ⟨⟨_, rfl, by simp; omega, ap hc (o1 ⟨by decide, by decide⟩)⟩, dd⟩
  (with_reducible refine Rf.wp_sNil ?_; with_reducible refine Rf.wp_seq ?_; with_reducible refine Rf.wp_sIf ?_; with_reducible refine Rf.wp_B ?_; with_reducible refine Rf.wp_bin ?_; with_reducible refine Rf.wp_varD (by with_unfolding_all exact rfl) ?_; with_reducible refine Rf.wp_con ?_; with_reducible refine Rf.eq_int ?_; with_reducible refine Rf.isB_mk ?_)
  refine ifD (fun h => ?_) (fun h => ?_)
  · (with_reducible refine Rf.wp_ret ?_; with_reducible refine Rf.wp_bin ?_; with_reducible refine Rf.wp_bin ?_; with_reducible refine Rf.wp_sl ?_; with_reducible refine Rf.wp_varD (by with_unfolding_all exact rfl) ?_; with_reducible refine Rf.wp_noPart ?_; with_reducible refine Rf.wp_part ?_; with_reducible refine Rf.wp_varD (by with_unfolding_all exact rfl) ?_; with_reducible refine Rf.exInt ?_; with_reducible refine Rf.sl_tup ?_; with_reducible refine Rf.wp_tup ?_; with_reducible refine Rf.wp_cons ?_; with_reducible refine Rf.wp_call ?_; with_reducible refine Rf.wp_cons ?_; with_reducible refine Rf.wp_varL (by with_unfolding_all exact rfl) ?_; with_reducible refine Rf.wp_cons ?_; with_reducible refine Rf.wp_lst ?_; with_reducible refine Rf.wp_cons ?_; with_reducible refine Rf.wp_con ?_; with_reducible refine Rf.wp_cons ?_; with_reducible refine Rf.wp_con ?_; with_reducible refine Rf.wp_cons ?_; with_reducible refine Rf.wp_con ?_; with_reducible refine Rf.wp_cons ?_; with_reducible refine Rf.wp_bin ?_; with_reducible refine Rf.wp_bin ?_; with_reducible refine Rf.wp_con ?_; with_reducible refine Rf.wp_con ?_)
    refine pow18 ?_
    (with_reducible refine Rf.wp_con ?_; with_reducible refine Rf.sub_int ?_; with_reducible refine Rf.wp_cons ?_; with_reducible refine Rf.wp_con ?_; with_reducible refine Rf.wp_nil ?_; with_reducible refine Rf.lp_dat (by with_unfolding_all exact rfl) (by with_unfolding_all exact rfl) ?_; dsimp only [Rf.strB, Rf.intB, Rf.boolB, Rf.tupB, Rf.dicB, Rf.noneB]; with_reducible refine Rf.wp_nil ?_)
    refine (wp_taste dd.vat (by simp) (by simp)).use fun w S3 ⟨⟨d, hd, hw⟩, d3⟩ => ?_
    subst hw
    have hd' : ∃ x, d = .int x ∧ okC x := by
      simp only [List.mem_cons, List.not_mem_nil, or_false] at hd
      rcases hd with rfl | rfl | rfl | rfl | rfl
      · exact ⟨_, rfl, by decide, by decide⟩
      · exact ⟨_, rfl, by decide, by decide⟩
      · exact ⟨_, rfl, by decide, by decide⟩
      · exact ⟨_, rfl, by decide, by decide⟩
      · exact ⟨_, rfl, by decide, by decide⟩
    obtain ⟨x, rfl, hx⟩ := hd'
    (with_reducible refine Rf.wp_nil ?_; with_reducible refine Rf.tp_dat (by with_unfolding_all exact rfl) (by with_unfolding_all exact rfl) ?_; dsimp only [Rf.strB, Rf.intB, Rf.boolB, Rf.tupB, Rf.dicB, Rf.noneB])
    rw [cutW_map]
    refine add_cs (as := cutW cs none (some at_)) (cs := [x]) (by have := cl none (some at_); simp; omega) ?_
    (with_reducible refine Rf.wp_sl ?_; with_reducible refine Rf.wp_varD (by with_unfolding_all exact rfl) ?_; with_reducible refine Rf.wp_part ?_; with_reducible refine Rf.wp_bin ?_; with_reducible refine Rf.wp_varD (by with_unfolding_all exact rfl) ?_; with_reducible refine Rf.wp_con ?_; with_reducible refine Rf.add_int ?_; with_reducible refine Rf.exInt ?_; with_reducible refine Rf.wp_noPart ?_; with_reducible refine Rf.sl_tup ?_)
    rw [cutW_map]
    refine add_cs (as := cutW cs none (some at_) ++ [x]) (by have := cl none (some at_); have := cl (some (at_ + 1)) none; simp; omega) ?_
    refine rt_len (dd.trans d3).len ⟨⟨_, rfl, ?_, ap (ap (co _ _) (o1 hx)) (co _ _)⟩, dd.trans d3⟩
    have := cl none (some at_); have := cl (some (at_ + 1)) none
    simp; omega
  (with_reducible refine Rf.wp_sNil ?_; with_reducible refine Rf.wp_seq ?_; with_reducible refine Rf.wp_sIf ?_; with_reducible refine Rf.wp_B ?_; with_reducible refine Rf.wp_bin ?_; with_reducible refine Rf.wp_varD (by with_unfolding_all exact rfl) ?_; with_reducible refine Rf.wp_con ?_; with_reducible refine Rf.eq_int ?_; with_reducible refine Rf.isB_mk ?_)
  refine ifD (fun h => ?_) (fun h => ?_)
  · (with_reducible refine Rf.wp_ret ?_; with_reducible refine Rf.wp_bin ?_; with_reducible refine Rf.wp_bin ?_; with_reducible refine Rf.wp_sl ?_; with_reducible refine Rf.wp_varD (by with_unfolding_all exact rfl) ?_; with_reducible refine Rf.wp_noPart ?_; with_reducible refine Rf.wp_part ?_; with_reducible refine Rf.wp_con ?_; with_reducible refine Rf.exInt ?_; with_reducible refine Rf.sl_tup ?_; with_reducible refine Rf.wp_tup ?_; with_reducible refine Rf.wp_cons ?_; with_reducible refine Rf.wp_bin ?_; with_reducible refine Rf.wp_bin ?_; with_reducible refine Rf.wp_varD (by with_unfolding_all exact rfl) ?_; with_reducible refine Rf.wp_con ?_)
    refine ix_cs (i := 4) (by omega) ?_
    (with_reducible refine Rf.wp_con ?_; with_reducible refine Rf.add_int ?_; with_reducible refine Rf.wp_nil ?_; with_reducible refine Rf.tp_dat (by with_unfolding_all exact rfl) (by with_unfolding_all exact rfl) ?_; dsimp only [Rf.strB, Rf.intB, Rf.boolB, Rf.tupB, Rf.dicB, Rf.noneB])
    rw [cutW_map]
    have c4 : okC (cs.getD 4 0) := hc _ (by rw [List.getD_eq_getElem?_getD, List.getElem?_eq_getElem (by omega)]; exact List.getElem_mem _)
    refine add_cs (as := cutW cs none (some 4)) (cs := [cs.getD 4 0 + 1]) (by have := cl none (some 4); simp; omega) ?_
    (with_reducible refine Rf.wp_sl ?_; with_reducible refine Rf.wp_varD (by with_unfolding_all exact rfl) ?_; with_reducible refine Rf.wp_part ?_; with_reducible refine Rf.wp_con ?_; with_reducible refine Rf.exInt ?_; with_reducible refine Rf.wp_noPart ?_; with_reducible refine Rf.sl_tup ?_)
    rw [cutW_map]
    refine add_cs (as := cutW cs none (some 4) ++ [cs.getD 4 0 + 1]) (by have := cl none (some 4); have := cl (some 5) none; simp; omega) ?_
    refine rt_len dd.len ⟨⟨_, rfl, ?_, ap (ap (co _ _) (o1 ⟨by have := c4.1; omega, by omega⟩)) (co _ _)⟩, dd⟩
    have := cl none (some 4); have := cl (some 5) none
    simp; omega
  (with_reducible refine Rf.wp_sNil ?_; with_reducible refine Rf.wp_ret ?_; with_reducible refine Rf.wp_if ?_; with_reducible refine Rf.wp_B ?_; with_reducible refine Rf.wp_bin ?_; with_reducible refine Rf.wp_varD (by with_unfolding_all exact rfl) ?_; with_reducible refine Rf.wp_con ?_; with_reducible refine Rf.eq_int ?_; with_reducible refine Rf.isB_mk ?_)
  refine ifD (fun h => ?_) (fun h => ?_)
  · (with_reducible refine Rf.wp_bin ?_; with_reducible refine Rf.wp_bin ?_; with_reducible refine Rf.wp_sl ?_; with_reducible refine Rf.wp_varD (by with_unfolding_all exact rfl) ?_; with_reducible refine Rf.wp_noPart ?_; with_reducible refine Rf.wp_part ?_; with_reducible refine Rf.wp_con ?_; with_reducible refine Rf.exInt ?_; with_reducible refine Rf.sl_tup ?_; with_reducible refine Rf.wp_sl ?_; with_reducible refine Rf.wp_varD (by with_unfolding_all exact rfl) ?_; with_reducible refine Rf.wp_part ?_; with_reducible refine Rf.wp_con ?_; with_reducible refine Rf.exInt ?_; with_reducible refine Rf.wp_noPart ?_; with_reducible refine Rf.sl_tup ?_)
    rw [cutW_map, cutW_map]
    refine add_cs (as := cutW cs none (some 5)) (cs := cutW cs (some 7) none) (by have := cl none (some 5); have := cl (some 7) none; omega) ?_
    (with_reducible refine Rf.wp_sl ?_; with_reducible refine Rf.wp_varD (by with_unfolding_all exact rfl) ?_; with_reducible refine Rf.wp_part ?_; with_reducible refine Rf.wp_con ?_; with_reducible refine Rf.exInt ?_; with_reducible refine Rf.wp_part ?_; with_reducible refine Rf.wp_con ?_; with_reducible refine Rf.exInt ?_; with_reducible refine Rf.sl_tup ?_)
    rw [cutW_map]
    refine add_cs (as := cutW cs none (some 5) ++ cutW cs (some 7) none) (by have := cl none (some 5); have := cl (some 7) none; have := cl (some 5) (some 7); simp; omega) ?_
    refine rt_len dd.len ⟨⟨_, rfl, ?_, ap (ap (co _ _) (co _ _)) (co _ _)⟩, dd⟩
    have := cl none (some 5); have := cl (some 7) none; have := cl (some 5) (some 7)
    simp; omega
  · (with_reducible refine Rf.wp_bin ?_; with_reducible refine Rf.wp_varD (by with_unfolding_all exact rfl) ?_; with_reducible refine Rf.wp_sl ?_; with_reducible refine Rf.wp_varD (by with_unfolding_all exact rfl) ?_; with_reducible refine Rf.wp_part ?_; with_reducible refine Rf.wp_con ?_; with_reducible refine Rf.exInt ?_; with_reducible refine Rf.wp_part ?_; with_reducible refine Rf.wp_con ?_; with_reducible refine Rf.exInt ?_; with_reducible refine Rf.sl_tup ?_)
    rw [cutW_map]
    refine add_cs (cs := cutW cs (some 5) (some 7)) (by have := cl (some 5) (some 7); omega) ?_
    refine rt_len dd.len ⟨⟨_, rfl, ?_, ap hc (co _ _)⟩, dd⟩
    have := cl (some 5) (some 7)
    simp; omega
end
end V

namespace V
open PySem L2 PyProof.Rows Rf Nm

section
variable {bs : List Nat} {S : Store} {n : Nat} {E : EK}
theorem wp_right (hv : Vat S n) : (F__law_right bs [.loc n] S).wp (fun w S' => DW n S (fun w => w = .dat (.bool true)) w S') E := by
  (unfold F__law_right m__law_right; with_reducible refine Rf.wp_fn rfl ?_; simp only [Rf.startE, List.map_cons, List.map_nil, List.length_cons, List.length_nil, Nat.reduceAdd, Nat.reduceSub, List.replicate, List.cons_append, List.nil_append])
  (with_reducible refine Rf.wp_seq ?_; with_reducible refine Rf.wp_asg ?_; with_reducible refine Rf.wp_call ?_; with_reducible refine Rf.wp_cons ?_; with_reducible refine Rf.wp_varL (by with_unfolding_all exact rfl) ?_; with_reducible refine Rf.wp_cons ?_; with_reducible refine Rf.wp_lst ?_; with_reducible refine Rf.wp_cons ?_; with_reducible refine Rf.wp_con ?_; with_reducible refine Rf.wp_cons ?_; with_reducible refine Rf.wp_con ?_; with_reducible refine Rf.wp_cons ?_; with_reducible refine Rf.wp_con ?_; with_reducible refine Rf.wp_cons ?_; with_reducible refine Rf.wp_con ?_; with_reducible refine Rf.wp_cons ?_; with_reducible refine Rf.wp_con ?_; with_reducible refine Rf.wp_cons ?_; with_reducible refine Rf.wp_con ?_; with_reducible refine Rf.wp_cons ?_; with_reducible refine Rf.wp_con ?_; with_reducible refine Rf.wp_nil ?_; with_reducible refine Rf.lp_dat (by with_unfolding_all exact rfl) (by with_unfolding_all exact rfl) ?_; dsimp only [Rf.strB, Rf.intB, Rf.boolB, Rf.tupB, Rf.dicB, Rf.noneB]; with_reducible refine Rf.wp_nil ?_)
  refine (wp_taste hv (by simp) (by simp)).use fun w S1 ⟨⟨d, hd, hw⟩, d1⟩ => ?_
  subst hw
  have hsz : ∃ size, d = .int size ∧ 24 ≤ size ∧ size ≤ 240 := by
    simp only [List.mem_cons, List.not_mem_nil, or_false] at hd
    rcases hd with rfl | rfl | rfl | rfl | rfl | rfl | rfl <;> exact ⟨_, rfl, by decide, by decide⟩
  obtain ⟨size, hd2, hs⟩ := hsz
  subst hd2
  clear hd
  (with_reducible refine Rf.wp_name ?_; with_reducible refine Rf.wp_seq ?_; with_reducible refine Rf.wp_asg ?_; with_reducible refine Rf.wp_call ?_; with_reducible refine Rf.wp_cons ?_; with_reducible refine Rf.wp_varL (by with_unfolding_all exact rfl) ?_; with_reducible refine Rf.wp_cons ?_; with_reducible refine Rf.wp_varD (by with_unfolding_all exact rfl) ?_; with_reducible refine Rf.wp_cons ?_; with_reducible refine Rf.wp_bin ?_; with_reducible refine Rf.wp_con ?_; with_reducible refine Rf.wp_call ?_; with_reducible refine Rf.wp_cons ?_; with_reducible refine Rf.wp_varL (by with_unfolding_all exact rfl) ?_; with_reducible refine Rf.wp_cons ?_; with_reducible refine Rf.wp_con ?_; with_reducible refine Rf.wp_nil ?_)
  refine (wp_drop d1.vat (by decide) (by decide)).use fun w S2 ⟨⟨t, hw, t0, t1⟩, d2⟩ => ?_
  subst hw
  (with_reducible refine Rf.add_int ?_; with_reducible refine Rf.wp_nil ?_)
  have dd2 := d1.trans d2
  refine (wp_law_head dd2.vat hs (by omega)).use fun w S3 ⟨⟨h, hw, hn, ok, ht, few⟩, d3⟩ => ?_
  subst hw
  have dd3 := dd2.trans d3
  (with_reducible refine Rf.wp_name ?_; with_reducible refine Rf.wp_seq ?_; with_reducible refine Rf.wp_asg ?_; with_reducible refine Rf.wp_call ?_; with_reducible refine Rf.wp_cons ?_; with_reducible refine Rf.wp_varD (by with_unfolding_all exact rfl) ?_; with_reducible refine Rf.wp_nil ?_)
  (with_reducible refine wp_eq (ev_law_cells hn) ?_)
  (with_reducible refine Rf.wp_name ?_; with_reducible refine Rf.wp_seq ?_; with_reducible refine Rf.wp_sIf ?_; with_reducible refine Rf.wp_if ?_; with_reducible refine Rf.wp_not ?_; with_reducible refine Rf.wp_tru ?_; with_reducible refine Rf.wp_call ?_; with_reducible refine Rf.wp_cons ?_; with_reducible refine Rf.wp_varD (by with_unfolding_all exact rfl) ?_; with_reducible refine Rf.wp_cons ?_; with_reducible refine Rf.wp_varD (by with_unfolding_all exact rfl) ?_; with_reducible refine Rf.wp_nil ?_)
  (with_reducible refine wp_eq (ev_is_head hs (named_tame h hn).1) ?_)
  rw [ok]
  (with_reducible refine Rf.exTru (by with_unfolding_all exact rfl) ?_; with_reducible refine Rf.ifNT ?_; with_reducible refine Rf.wp_if ?_; with_reducible refine Rf.wp_B ?_; with_reducible refine Rf.wp_bin ?_; with_reducible refine Rf.wp_call ?_; with_reducible refine Rf.wp_cons ?_; with_reducible refine Rf.wp_varD (by with_unfolding_all exact rfl) ?_; with_reducible refine Rf.wp_cons ?_; with_reducible refine Rf.wp_varD (by with_unfolding_all exact rfl) ?_; with_reducible refine Rf.wp_nil ?_)
  (with_reducible refine wp_eq (ev_head_cells hs hn ok) ?_)
  (with_reducible refine Rf.wp_varD (by with_unfolding_all exact rfl) ?_)
  (with_reducible refine eq_same (pd_tI _) (by decide) ?_)
  (with_reducible refine Rf.isB_mk ?_; with_reducible refine Rf.ifNT ?_; with_reducible refine Rf.wp_B ?_; with_reducible refine Rf.wp_bin ?_; with_reducible refine Rf.wp_call ?_; with_reducible refine Rf.wp_cons ?_; with_reducible refine Rf.wp_varD (by with_unfolding_all exact rfl) ?_; with_reducible refine Rf.wp_cons ?_; with_reducible refine Rf.wp_varD (by with_unfolding_all exact rfl) ?_; with_reducible refine Rf.wp_nil ?_)
  have hc := cells_okC hs hn ok
  have lc := cells_len h
  (with_reducible refine wp_eq (ev_head_of hs (by omega) hc) ?_)
  rw [head_back hn ok]
  (with_reducible refine Rf.wp_varD (by with_unfolding_all exact rfl) ?_)
  (with_reducible refine eq_same (pd_head h) (by decide) ?_)
  (with_reducible refine Rf.isB_mk ?_; with_reducible refine Rf.ifNT ?_; with_reducible refine Rf.wp_sNil ?_; with_reducible refine Rf.wp_seq ?_; with_reducible refine Rf.wp_for ?_; with_reducible refine Rf.wp_itS ?_; with_reducible refine Rf.wp_call ?_; with_reducible refine Rf.wp_cons ?_; with_reducible refine Rf.wp_varL (by with_unfolding_all exact rfl) ?_; with_reducible refine Rf.wp_cons ?_; with_reducible refine Rf.wp_varD (by with_unfolding_all exact rfl) ?_; with_reducible refine Rf.wp_cons ?_; with_reducible refine Rf.wp_varD (by with_unfolding_all exact rfl) ?_; with_reducible refine Rf.wp_nil ?_)
  have hb3 := (head_bits ok).2.2.1
  have hm : mlog size ≤ 40 := by unfold mlog; split <;> omega
  have near := ev_law_near (bs := S.length :: bs) (S := S3) hn ⟨by omega, by omega⟩ (.loc n) size
  (with_reducible refine Exists.elim near fun vs hvs => ?_)
  have e1 := hvs.1
  have good := hvs.2.2
  refine wp_eq e1 ?_
  (with_reducible refine Rf.its_lst ?_)
  (with_reducible refine wp_items (f := W.dat) (xs := vs) (fun pre env S' => ∃ x, env = [some (.loc n), some (.dat (.int size)), some (.dat (headD h)), some (.dat (tI (cellsD h))), x, none, none, none, none, none] ∧ S' = S3) ⟨none, rfl, rfl⟩ (fun pre v post env S' hx ⟨x, he, hS⟩ => ?_) (fun env S' ⟨x, he, hS⟩ => ?_))
  · subst he hS
    have g1 := (good v (by rw [hx]; simp)).1
    have g2 := (good v (by rw [hx]; simp)).2
    (with_reducible refine Rf.wp_body ?_; with_reducible refine Rf.wp_name ?_; with_reducible refine Rf.wp_sIf ?_; with_reducible refine Rf.wp_B ?_; with_reducible refine Rf.wp_bin ?_; with_reducible refine Rf.wp_call ?_; with_reducible refine Rf.wp_cons ?_; with_reducible refine Rf.wp_varD (by with_unfolding_all exact rfl) ?_; with_reducible refine Rf.wp_cons ?_; with_reducible refine Rf.wp_varD (by with_unfolding_all exact rfl) ?_; with_reducible refine Rf.wp_nil ?_)
    (with_reducible refine wp_eq (ev_is_head hs g1) ?_)
    (with_reducible refine Rf.wp_call ?_; with_reducible refine Rf.wp_cons ?_; with_reducible refine Rf.wp_varD (by with_unfolding_all exact rfl) ?_; with_reducible refine Rf.wp_cons ?_; with_reducible refine Rf.wp_varD (by with_unfolding_all exact rfl) ?_; with_reducible refine Rf.wp_nil ?_)
    (with_reducible refine wp_eq (ev_law_is_head hs.1 g1 g2) ?_)
    skip
    (with_reducible refine eq_same (n := 0) (pd_bool _) (by decide) ?_)
    (with_reducible refine Rf.isB_mk ?_; with_reducible refine Rf.ifNT ?_; with_reducible refine Rf.wp_sNil ?_)
    exact ⟨_, rfl, rfl⟩
  subst he hS
  clear e1 good hvs near
  (with_reducible refine Rf.wp_seq ?_; with_reducible refine Rf.wp_for ?_; with_reducible refine Rf.wp_rng1 ?_; with_reducible refine Rf.wp_cons ?_; with_reducible refine Rf.wp_con ?_; with_reducible refine Rf.wp_nil ?_; (with_reducible refine Rf.exRng1 ?_ ?_; omega))
  (with_reducible refine wp_range (fun k env S' => ∃ x y z, env = [some (.loc n), some (.dat (.int size)), some (.dat (headD h)), some (.dat (tI (cellsD h))), x, y, none, none, none, z] ∧ Drawn n S S') ⟨_, _, _, rfl, dd3⟩ (fun k env S' hk ⟨x, y, z, he, dr⟩ => ?_) (fun env S' ⟨x, y, z, he, dr⟩ => ?_))
  · subst he
    (with_reducible refine Rf.wp_body ?_; with_reducible refine Rf.wp_name ?_; with_reducible refine Rf.wp_seq ?_; with_reducible refine Rf.wp_asg ?_; with_reducible refine Rf.wp_call ?_; with_reducible refine Rf.wp_cons ?_; with_reducible refine Rf.wp_varL (by with_unfolding_all exact rfl) ?_; with_reducible refine Rf.wp_cons ?_; with_reducible refine Rf.wp_varD (by with_unfolding_all exact rfl) ?_; with_reducible refine Rf.wp_nil ?_)
    have h4 : (cellsD h).getD 4 0 ≤ 100 := by show ((h.shots.length : Nat) : Int) ≤ 100; omega
    refine (wp_other dr.vat (by omega) (by omega) hc h4).use fun w S5 ⟨⟨os, hw, los, oo⟩, d5⟩ => ?_
    subst hw
    (with_reducible refine Rf.wp_name ?_; with_reducible refine Rf.wp_sIf ?_; with_reducible refine Rf.wp_B ?_; with_reducible refine Rf.wp_bin ?_; with_reducible refine Rf.wp_call ?_; with_reducible refine Rf.wp_cons ?_; with_reducible refine Rf.wp_varD (by with_unfolding_all exact rfl) ?_; with_reducible refine Rf.wp_cons ?_; with_reducible refine Rf.wp_varD (by with_unfolding_all exact rfl) ?_; with_reducible refine Rf.wp_nil ?_)
    (with_reducible refine wp_eq (ev_head_of hs los oo) ?_)
    (with_reducible refine Rf.wp_call ?_; with_reducible refine Rf.wp_cons ?_; with_reducible refine Rf.wp_varD (by with_unfolding_all exact rfl) ?_; with_reducible refine Rf.wp_cons ?_; with_reducible refine Rf.wp_varD (by with_unfolding_all exact rfl) ?_; with_reducible refine Rf.wp_nil ?_)
    (with_reducible refine wp_eq (ev_law_of_cells hs.1 los) ?_)
    skip
    (with_reducible refine eq_same (pd_headIn _ _) (by decide) ?_)
    (with_reducible refine Rf.isB_mk ?_; with_reducible refine Rf.ifNT ?_; with_reducible refine Rf.wp_sNil ?_)
    exact ⟨_, _, _, rfl, dr.trans d5⟩
  subst he
  (with_reducible refine Rf.wp_seq ?_; with_reducible refine Rf.wp_asg ?_; with_reducible refine Rf.wp_call ?_; with_reducible refine Rf.wp_cons ?_; with_reducible refine Rf.wp_varL (by with_unfolding_all exact rfl) ?_; with_reducible refine Rf.wp_cons ?_; with_reducible refine Rf.wp_varD (by with_unfolding_all exact rfl) ?_; with_reducible refine Rf.wp_cons ?_; with_reducible refine Rf.wp_con ?_; with_reducible refine Rf.wp_nil ?_)
  refine (wp_law_head dr.vat hs (by decide)).use fun w S6 ⟨⟨g, hw, gn, gok, gt, gfew⟩, d6⟩ => ?_
  subst hw
  have dd6 := dr.trans d6
  unfold headD
  (with_reducible refine Rf.wp_name ?_; with_reducible refine Rf.wp_seq ?_; with_reducible refine Rf.wp_asg ?_; with_reducible refine Rf.wp_bin ?_; with_reducible refine Rf.wp_tup ?_; with_reducible refine Rf.wp_cons ?_; with_reducible refine Rf.wp_bin ?_; with_reducible refine Rf.wp_bin ?_; with_reducible refine Rf.wp_varD (by with_unfolding_all exact rfl) ?_; with_reducible refine Rf.wp_con ?_)
  (with_reducible refine ix_tup (d := .int h.turn) (atI_ofNat (n := 0) rfl) ?_)
  (with_reducible refine Rf.wp_con ?_; with_reducible refine Rf.add_int ?_; with_reducible refine Rf.wp_cons ?_; with_reducible refine Rf.wp_bin ?_; with_reducible refine Rf.wp_varD (by with_unfolding_all exact rfl) ?_; with_reducible refine Rf.wp_con ?_)
  (with_reducible refine ix_tup (d := .int h.log) (atI_ofNat (n := 1) rfl) ?_)
  (with_reducible refine Rf.wp_nil ?_; with_reducible refine Rf.tp_dat (by with_unfolding_all exact rfl) (by with_unfolding_all exact rfl) ?_; dsimp only [Rf.strB, Rf.intB, Rf.boolB, Rf.tupB, Rf.dicB, Rf.noneB]; with_reducible refine Rf.wp_sl ?_; with_reducible refine Rf.wp_varD (by with_unfolding_all exact rfl) ?_; with_reducible refine Rf.wp_part ?_; with_reducible refine Rf.wp_con ?_; with_reducible refine Rf.exInt ?_; with_reducible refine Rf.wp_noPart ?_; with_reducible refine Rf.sl_tup ?_)
  rw [show cutW [PyData.int g.turn, .int g.log, .int g.number, .int g.root, .tuple (g.shots.map shD)] (some 2) none = [.int g.number, .int g.root, .tuple (g.shots.map shD)] from cut_from _ 2]
  (with_reducible refine add_tup (Nat.le_of_ble_eq_true rfl) ?_)
  (with_reducible refine Rf.wp_name ?_; with_reducible refine Rf.wp_seq ?_; with_reducible refine Rf.wp_asg ?_; with_reducible refine Rf.wp_lam ?_)
  rw [show PyData.tuple ([PyData.int (h.turn + 1), .int h.log] ++ [PyData.int g.number, .int g.root, .tuple (g.shots.map shD)]) = nextD h (.int g.number) (.int g.root) (.tuple (g.shots.map shD)) from rfl,
    show PyData.tuple [.int h.turn, .int h.log, .int h.number, .int h.root, .tuple (h.shots.map shD)] = headD h from rfl]
  have tame : tameS (.tuple (g.shots.map shD)) := (named_tame g gn).1
  have tame2 : tameH (nextD h (.int g.number) (.int g.root) (.tuple (g.shots.map shD))) := tame
  have fine2 : fineH (nextD h (.int g.number) (.int g.root) (.tuple (g.shots.map shD))) := (named_tame g gn).2
  have pdd : PD 12 (nextD h (.int g.number) (.int g.root) (.tuple (g.shots.map shD))) := pd_head ⟨h.turn + 1, h.log, g.number, g.root, g.shots⟩
  have fin : ∀ (b : Bool) {Q : W → Store → Prop}, Q (.dat (.bool b)) (S6.take S.length) → RT S.length Q (.dat (.bool b)) S6 := fun b Q q => rt_dat q
  cases hb : headB size (nextD h (.int g.number) (.int g.root) (.tuple (g.shots.map shD))) with
  | true =>
    (with_reducible refine wp_next_ok (d := nextD h (.int g.number) (.int g.root) (.tuple (g.shots.map shD))) (fun bs' => ?_) ?_)
    · refine eq_of_wp ?_
      (with_reducible refine Rf.wp_call ?_; with_reducible refine Rf.wp_cons ?_; with_reducible refine Rf.wp_varD (by with_unfolding_all exact rfl) ?_; with_reducible refine Rf.wp_cons ?_; with_reducible refine Rf.wp_varD (by with_unfolding_all exact rfl) ?_; with_reducible refine Rf.wp_cons ?_; with_reducible refine Rf.wp_bin ?_; with_reducible refine Rf.wp_varD (by with_unfolding_all exact rfl) ?_; with_reducible refine Rf.wp_con ?_)
      (with_reducible refine ix_tup (d := .int g.number) (atI_ofNat (n := 2) rfl) ?_)
      (with_reducible refine Rf.wp_cons ?_; with_reducible refine Rf.wp_bin ?_; with_reducible refine Rf.wp_varD (by with_unfolding_all exact rfl) ?_; with_reducible refine Rf.wp_con ?_)
      (with_reducible refine ix_tup (d := .int g.root) (atI_ofNat (n := 3) rfl) ?_)
      (with_reducible refine Rf.wp_cons ?_; with_reducible refine Rf.wp_bin ?_; with_reducible refine Rf.wp_varD (by with_unfolding_all exact rfl) ?_; with_reducible refine Rf.wp_con ?_)
      (with_reducible refine ix_tup (d := .tuple (g.shots.map shD)) (atI_ofNat (n := 4) rfl) ?_)
      (with_reducible refine Rf.wp_nil ?_)
      (with_reducible refine wp_eq (ev_next_yes hs hn ok tame hb) ?_)
      exact ⟨rfl, rfl⟩
    · (with_reducible refine Rf.wp_name ?_; with_reducible refine Rf.wp_ret ?_; with_reducible refine Rf.wp_bin ?_; with_reducible refine Rf.wp_varD (by with_unfolding_all exact rfl) ?_; with_reducible refine Rf.wp_if ?_; with_reducible refine Rf.wp_tru ?_; with_reducible refine Rf.wp_call ?_; with_reducible refine Rf.wp_cons ?_; with_reducible refine Rf.wp_varD (by with_unfolding_all exact rfl) ?_; with_reducible refine Rf.wp_cons ?_; with_reducible refine Rf.wp_varD (by with_unfolding_all exact rfl) ?_; with_reducible refine Rf.wp_nil ?_)
      (with_reducible refine wp_eq (ev_law_is_head hs.1 tame2 fine2) ?_)
      rw [hb]
      (with_reducible refine Rf.exTru (by with_unfolding_all exact rfl) ?_; with_reducible refine Rf.ifT ?_; with_reducible refine Rf.wp_tup ?_; with_reducible refine Rf.wp_cons ?_; with_reducible refine Rf.wp_con ?_; with_reducible refine Rf.wp_cons ?_; with_reducible refine Rf.wp_varD (by with_unfolding_all exact rfl) ?_; with_reducible refine Rf.wp_nil ?_; with_reducible refine Rf.tp_dat (by with_unfolding_all exact rfl) (by with_unfolding_all exact rfl) ?_; dsimp only [Rf.strB, Rf.intB, Rf.boolB, Rf.tupB, Rf.dicB, Rf.noneB])
      (with_reducible refine eq_same (n := 13) (pd_tup fun x hx => ?_) (by decide) ?_)
      · simp only [List.mem_cons, List.not_mem_nil, or_false] at hx
        rcases hx with rfl | rfl
        · exact pd_str _
        · exact pdd
      exact rt_len dd6.len ⟨rfl, dd6⟩
  | false =>
    (with_reducible refine wp_next_ex (fun bs' => ?_) ?_)
    · refine eq_ex_wp ?_
      (with_reducible refine Rf.wp_call ?_; with_reducible refine Rf.wp_cons ?_; with_reducible refine Rf.wp_varD (by with_unfolding_all exact rfl) ?_; with_reducible refine Rf.wp_cons ?_; with_reducible refine Rf.wp_varD (by with_unfolding_all exact rfl) ?_; with_reducible refine Rf.wp_cons ?_; with_reducible refine Rf.wp_bin ?_; with_reducible refine Rf.wp_varD (by with_unfolding_all exact rfl) ?_; with_reducible refine Rf.wp_con ?_)
      (with_reducible refine ix_tup (d := .int g.number) (atI_ofNat (n := 2) rfl) ?_)
      (with_reducible refine Rf.wp_cons ?_; with_reducible refine Rf.wp_bin ?_; with_reducible refine Rf.wp_varD (by with_unfolding_all exact rfl) ?_; with_reducible refine Rf.wp_con ?_)
      (with_reducible refine ix_tup (d := .int g.root) (atI_ofNat (n := 3) rfl) ?_)
      (with_reducible refine Rf.wp_cons ?_; with_reducible refine Rf.wp_bin ?_; with_reducible refine Rf.wp_varD (by with_unfolding_all exact rfl) ?_; with_reducible refine Rf.wp_con ?_)
      (with_reducible refine ix_tup (d := .tuple (g.shots.map shD)) (atI_ofNat (n := 4) rfl) ?_)
      (with_reducible refine Rf.wp_nil ?_)
      (with_reducible refine wp_exq (ev_next_no hs hn ok tame hb) ?_)
      exact ⟨rfl, rfl, rfl⟩
    · (with_reducible refine Rf.wp_name ?_; with_reducible refine Rf.wp_ret ?_; with_reducible refine Rf.wp_bin ?_; with_reducible refine Rf.wp_varD (by with_unfolding_all exact rfl) ?_; with_reducible refine Rf.wp_if ?_; with_reducible refine Rf.wp_tru ?_; with_reducible refine Rf.wp_call ?_; with_reducible refine Rf.wp_cons ?_; with_reducible refine Rf.wp_varD (by with_unfolding_all exact rfl) ?_; with_reducible refine Rf.wp_cons ?_; with_reducible refine Rf.wp_varD (by with_unfolding_all exact rfl) ?_; with_reducible refine Rf.wp_nil ?_)
      (with_reducible refine wp_eq (ev_law_is_head hs.1 tame2 fine2) ?_)
      rw [hb]
      (with_reducible refine Rf.exTru (by with_unfolding_all exact rfl) ?_; with_reducible refine Rf.ifF ?_; with_reducible refine Rf.wp_tup ?_; with_reducible refine Rf.wp_cons ?_; with_reducible refine Rf.wp_con ?_; with_reducible refine Rf.wp_cons ?_; with_reducible refine Rf.wp_con ?_; with_reducible refine Rf.wp_nil ?_; with_reducible refine Rf.tp_dat (by with_unfolding_all exact rfl) (by with_unfolding_all exact rfl) ?_; dsimp only [Rf.strB, Rf.intB, Rf.boolB, Rf.tupB, Rf.dicB, Rf.noneB])
      (with_reducible refine eq_same (n := 13) (pd_tup fun x hx => ?_) (by decide) ?_)
      · simp only [List.mem_cons, List.not_mem_nil, or_false] at hx
        rcases hx with rfl | rfl
        · exact pd_str _
        · exact pd_int _
      exact rt_len dd6.len ⟨rfl, dd6⟩
end
end V

namespace V
open PySem L2 PyProof.Rows Rf Nm

def H1 : Hd := ⟨2, 4, 3, 9, [([97], 8)]⟩
def H2 : Hd := ⟨999999999999999999, 4, 1, 0, []⟩
theorem a_sg : ("a" : Str) = sg [97] := by decide +kernel
theorem h1_named : Named H1 := ⟨by decide, fun p hp => by rw [List.mem_singleton.mp hp]; decide +kernel⟩
theorem h2_named : Named H2 := ⟨by decide, fun p hp => by cases hp⟩
theorem h1_ok : headB 24 (headD H1) = true := by decide +kernel
theorem h2_ok : headB 24 (headD H2) = true := by decide +kernel
theorem h2_no : headB 24 (nextD H2 (.int 1) (.int 0) (.tuple [])) = false := by decide +kernel
theorem h1_cells : cellsD H1 = [2, 4, 3, 9, 1, 10460353203, 8] := by decide +kernel
theorem in_b : headIn 24 [2, 4, 3, 9, 1, 27, 8] = .none := by
  unfold headIn
  rw [if_neg (by decide), if_neg (by decide +kernel)]
theorem in_c : headIn 24 [2, 4, 3, 9, 0] = .tuple [.int 2, .int 4, .int 3, .int 9, .tuple []] := by
  unfold headIn
  rw [if_neg (by decide), if_pos (by decide +kernel)]
  rfl
theorem is_d : headB 24 (.tuple [.int 1, .int 7, .int 1, .int 0, .tuple []]) = false := by decide +kernel
theorem is_e : headB 25 (.tuple [.int 1, .int 7, .int 1, .int 0, .tuple []]) = true := by decide +kernel
theorem okc (ns : List Int) (h : ∀ c ∈ ns, 0 ≤ c ∧ c ≤ 999999999999999999) : ∀ c ∈ ns, okC c := h
section
variable {bs : List Nat} {S : Store} {n : Nat} {E : EK}
theorem wp_law (ns : List Int) : (F_law [] [.lw (ns.map fun n => .dat (.int n))] S).wp (fun w _ => w = .bl true) E := by
  have s24 : (24 : Int) ≤ 24 ∧ (24 : Int) ≤ 240 := by decide
  have s25 : (24 : Int) ≤ 25 ∧ (25 : Int) ≤ 240 := by decide
  have e1 : ∀ (bs : List Nat) (S : Store), F_head_cells bs [.dat (.int 24), .dat (.tuple [.int 2, .int 4, .int 3, .int 9, .tuple [.tuple [.str "a", .int 8]]])] S = .ok (.dat (.tuple [.int 2, .int 4, .int 3, .int 9, .int 1, .int 10460353203, .int 8])) S := fun bs S => by
    have h := ev_head_cells (bs := bs) (S := S) s24 h1_named h1_ok
    rw [h1_cells] at h
    rw [a_sg]
    exact h
  have e2 : ∀ (bs : List Nat) (S : Store), F_head_of bs [.dat (.int 24), .dat (.tuple [])] S = .ok (.dat .none) S := fun bs S => ev_head_of (cs := []) s24 (by decide) (okc _ (by decide))
  have e3 : ∀ (bs : List Nat) (S : Store), F_head_of bs [.dat (.int 24), .dat (.tuple [.int 2, .int 4, .int 3, .int 9, .int 1, .int 27, .int 8])] S = .ok (.dat .none) S := fun bs S => by
    have h := ev_head_of (bs := bs) (S := S) (cs := [2, 4, 3, 9, 1, 27, 8]) s24 (by decide) (okc _ (by decide))
    rw [in_b] at h
    exact h
  have e4 : ∀ (bs : List Nat) (S : Store), F_head_of bs [.dat (.int 24), .dat (.tuple [.int 2, .int 4, .int 3, .int 9, .int 0])] S = .ok (.dat (.tuple [.int 2, .int 4, .int 3, .int 9, .tuple []])) S := fun bs S => by
    have h := ev_head_of (bs := bs) (S := S) (cs := [2, 4, 3, 9, 0]) s24 (by decide) (okc _ (by decide))
    rw [in_c] at h
    exact h
  have tm : tameH (.tuple [.int 1, .int 7, .int 1, .int 0, .tuple []]) := fun s hs => nomatch hs
  have e5 : ∀ (bs : List Nat) (S : Store), F_is_head bs [.dat (.int 24), .dat (.tuple [.int 1, .int 7, .int 1, .int 0, .tuple []])] S = .ok (.dat (.bool false)) S := fun bs S => by
    have h := ev_is_head (bs := bs) (S := S) s24 tm
    rw [is_d] at h
    exact h
  have e6 : ∀ (bs : List Nat) (S : Store), F_is_head bs [.dat (.int 25), .dat (.tuple [.int 1, .int 7, .int 1, .int 0, .tuple []])] S = .ok (.dat (.bool true)) S := fun bs S => by
    have h := ev_is_head (bs := bs) (S := S) s25 tm
    rw [is_e] at h
    exact h
  have e7 : ∀ (bs : List Nat) (S : Store), F_next_head bs [.dat (.int 24), .dat (.tuple [.int 999999999999999999, .int 4, .int 1, .int 0, .tuple []]), .dat (.int 1), .dat (.int 0), .dat (.tuple [])] S = .ex 53 [] S := fun bs S =>
    ev_next_no (bs := bs) (S := S) s24 h2_named h2_ok (fun s hs => nomatch hs) h2_no
  have pdv : PD 1 (.tuple [.int 2, .int 4, .int 3, .int 9, .int 1, .int 10460353203, .int 8]) := pd_tI [2, 4, 3, 9, 1, 10460353203, 8]
  have pde : PD 3 (.list [.none, .tuple [.int 2, .int 4, .int 3, .int 9, .tuple []], .bool false]) := pd_lst (n := 2) fun x hx => by
    simp only [List.mem_cons, List.not_mem_nil, or_false] at hx
    rcases hx with rfl | rfl | rfl
    · exact pd_non
    · refine pd_tup (n := 1) fun y hy => ?_
      simp only [List.mem_cons, List.not_mem_nil, or_false] at hy
      rcases hy with rfl | rfl | rfl | rfl | rfl
      · exact pd_int _
      · exact pd_int _
      · exact pd_int _
      · exact pd_int _
      · exact pd_tup (n := 0) fun z hz => nomatch hz
    · exact pd_bool _
  have pdr : PD 1 (.tuple [.str "refused", .int 0]) := pd_tup (n := 0) fun x hx => by
    simp only [List.mem_cons, List.not_mem_nil, or_false] at hx
    rcases hx with rfl | rfl
    · exact pd_str _
    · exact pd_int _
  (unfold F_law m_law; with_reducible refine Rf.wp_fn rfl ?_; simp only [Rf.startE, List.map_cons, List.map_nil, List.length_cons, List.length_nil, Nat.reduceAdd, Nat.reduceSub, List.replicate, List.cons_append, List.nil_append])
  (with_reducible refine Rf.wp_seq ?_; with_reducible refine Rf.wp_for ?_; with_reducible refine Rf.wp_rng1 ?_; with_reducible refine Rf.wp_cons ?_; with_reducible refine Rf.wp_CB ?_; with_reducible refine Rf.wp_cons ?_; with_reducible refine Rf.wp_con ?_; with_reducible refine Rf.wp_cons ?_; with_reducible refine Rf.wp_CB ?_; with_reducible refine Rf.wp_cons ?_; with_reducible refine Rf.wp_con ?_; with_reducible refine Rf.wp_cons ?_; with_reducible refine Rf.wp_CB ?_; with_reducible refine Rf.wp_cons ?_; with_reducible refine Rf.wp_varLw (by with_unfolding_all exact rfl) ?_; with_reducible refine Rf.wp_nil ?_; with_reducible refine Rf.len_lw ?_; with_reducible refine Rf.wp_nil ?_; with_reducible refine Rf.min_int ?_; with_reducible refine Rf.wp_nil ?_; with_reducible refine Rf.max_int ?_; with_reducible refine Rf.wp_nil ?_; (with_reducible refine Rf.exRng1 ?_ ?_; omega))
  (with_reducible refine wp_range (fun k env S' => ∃ z1 z4 z5, env = [some (.lw (ns.map fun n => .dat (.int n))), z1, none, none, z4, z5] ∧ S.length ≤ S'.length) ⟨none, none, none, rfl, Nat.le_refl _⟩ (fun k env S' hk h => ?_) (fun env S' h => ?_))
  · obtain ⟨z1, z4, z5, i, i2⟩ := h
    subst i
    (with_reducible refine Rf.wp_body ?_; with_reducible refine Rf.wp_name ?_; with_reducible refine Rf.wp_seq ?_; with_reducible refine Rf.wp_asg ?_; with_reducible refine Rf.wp_call ?_; with_reducible refine Rf.wp_cons ?_; with_reducible refine Rf.wp_varLw (by with_unfolding_all exact rfl) ?_; with_reducible refine Rf.wp_cons ?_; with_reducible refine Rf.wp_varD (by with_unfolding_all exact rfl) ?_; with_reducible refine Rf.wp_nil ?_)
    refine (wp_vat ns k).use fun w S2 ⟨hw, a, b, c, e⟩ => ?_
    subst hw e
    have hv : Vat (S' ++ [.lst [.int a, .int b, .int c]]) S'.length := ⟨a, b, c, at_app1 _ _⟩
    have hl : S.length ≤ (S' ++ [Cell.lst [.int a, .int b, .int c]]).length := by simp; omega
    generalize (S' ++ [Cell.lst [.int a, .int b, .int c]]) = S3 at hv hl
    generalize S'.length = n at hv
    (with_reducible refine Rf.wp_name ?_; with_reducible refine Rf.wp_for ?_; with_reducible refine Rf.wp_rng1 ?_; with_reducible refine Rf.wp_cons ?_; with_reducible refine Rf.wp_con ?_; with_reducible refine Rf.wp_nil ?_; (with_reducible refine Rf.exRng1 ?_ ?_; omega))
    (with_reducible refine wp_range (fun j env S'' => ∃ z1 z5, env = [some (.lw (ns.map fun n => .dat (.int n))), z1, none, none, some (.loc n), z5] ∧ S.length ≤ S''.length ∧ Vat S'' n) ⟨_, _, rfl, hl, hv⟩ (fun j env S'' hj h => ?_) (fun env S'' h => ?_))
    · obtain ⟨z1, z5, i, i2, i3⟩ := h
      subst i
      (with_reducible refine Rf.wp_body ?_; with_reducible refine Rf.wp_name ?_; with_reducible refine Rf.wp_sIf ?_; with_reducible refine Rf.wp_not ?_; with_reducible refine Rf.wp_tru ?_; with_reducible refine Rf.wp_call ?_; with_reducible refine Rf.wp_cons ?_; with_reducible refine Rf.wp_varL (by with_unfolding_all exact rfl) ?_; with_reducible refine Rf.wp_nil ?_)
      refine (wp_right i3).use fun w S5 ⟨hw, d⟩ => ?_
      subst hw
      (with_reducible refine Rf.exTru (by with_unfolding_all exact rfl) ?_; with_reducible refine Rf.ifNT ?_; with_reducible refine Rf.wp_sNil ?_)
      exact ⟨_, _, rfl, by rw [d.len]; exact i2, d.vat⟩
    · obtain ⟨z1, z5, i, i2, i3⟩ := h
      subst i
      skip
      exact ⟨_, _, _, rfl, i2⟩
  · obtain ⟨z1, z4, z5, i, i2⟩ := h
    subst i
    (with_reducible refine Rf.wp_seq ?_; with_reducible refine Rf.wp_sIf ?_; with_reducible refine Rf.wp_if ?_; with_reducible refine Rf.wp_B ?_; with_reducible refine Rf.wp_bin ?_; with_reducible refine Rf.wp_call ?_; with_reducible refine Rf.wp_cons ?_; with_reducible refine Rf.wp_con ?_; with_reducible refine Rf.wp_cons ?_; with_reducible refine Rf.wp_tup ?_; with_reducible refine Rf.wp_cons ?_; with_reducible refine Rf.wp_con ?_; with_reducible refine Rf.wp_cons ?_; with_reducible refine Rf.wp_con ?_; with_reducible refine Rf.wp_cons ?_; with_reducible refine Rf.wp_con ?_; with_reducible refine Rf.wp_cons ?_; with_reducible refine Rf.wp_con ?_; with_reducible refine Rf.wp_cons ?_; with_reducible refine Rf.wp_tup ?_; with_reducible refine Rf.wp_cons ?_; with_reducible refine Rf.wp_tup ?_; with_reducible refine Rf.wp_cons ?_; with_reducible refine Rf.wp_con ?_; with_reducible refine Rf.wp_cons ?_; with_reducible refine Rf.wp_con ?_; with_reducible refine Rf.wp_nil ?_; with_reducible refine Rf.tp_dat (by with_unfolding_all exact rfl) (by with_unfolding_all exact rfl) ?_; dsimp only [Rf.strB, Rf.intB, Rf.boolB, Rf.tupB, Rf.dicB, Rf.noneB]; with_reducible refine Rf.wp_nil ?_; with_reducible refine Rf.tp_dat (by with_unfolding_all exact rfl) (by with_unfolding_all exact rfl) ?_; dsimp only [Rf.strB, Rf.intB, Rf.boolB, Rf.tupB, Rf.dicB, Rf.noneB]; with_reducible refine Rf.wp_nil ?_; with_reducible refine Rf.tp_dat (by with_unfolding_all exact rfl) (by with_unfolding_all exact rfl) ?_; dsimp only [Rf.strB, Rf.intB, Rf.boolB, Rf.tupB, Rf.dicB, Rf.noneB]; with_reducible refine Rf.wp_nil ?_)
    (with_reducible refine wp_eq (e1 _ _) ?_)
    (with_reducible refine Rf.wp_tup ?_; with_reducible refine Rf.wp_cons ?_; with_reducible refine Rf.wp_con ?_; with_reducible refine Rf.wp_cons ?_; with_reducible refine Rf.wp_con ?_; with_reducible refine Rf.wp_cons ?_; with_reducible refine Rf.wp_con ?_; with_reducible refine Rf.wp_cons ?_; with_reducible refine Rf.wp_con ?_; with_reducible refine Rf.wp_cons ?_; with_reducible refine Rf.wp_con ?_; with_reducible refine Rf.wp_cons ?_; with_reducible refine Rf.wp_con ?_; with_reducible refine Rf.wp_cons ?_; with_reducible refine Rf.wp_con ?_; with_reducible refine Rf.wp_nil ?_; with_reducible refine Rf.tp_dat (by with_unfolding_all exact rfl) (by with_unfolding_all exact rfl) ?_; dsimp only [Rf.strB, Rf.intB, Rf.boolB, Rf.tupB, Rf.dicB, Rf.noneB])
    (with_reducible refine eq_same pdv (by decide) ?_)
    (with_reducible refine Rf.isB_mk ?_; with_reducible refine Rf.ifNT ?_; with_reducible refine Rf.wp_B ?_; with_reducible refine Rf.wp_bin ?_; with_reducible refine Rf.wp_call ?_; with_reducible refine Rf.wp_cons ?_; with_reducible refine Rf.wp_con ?_; with_reducible refine Rf.wp_cons ?_; with_reducible refine Rf.wp_tup ?_; with_reducible refine Rf.wp_nil ?_; with_reducible refine Rf.tp_dat (by with_unfolding_all exact rfl) (by with_unfolding_all exact rfl) ?_; with_reducible refine Rf.wp_nil ?_)
    (with_reducible refine wp_eq (e2 _ _) ?_)
    (with_reducible refine Rf.wp_con ?_; with_reducible refine Rf.isnt_dat ?_; dsimp only [Rf.strB, Rf.intB, Rf.boolB, Rf.tupB, Rf.dicB, Rf.noneB]; with_reducible refine Rf.isB_mk ?_; with_reducible refine Rf.ifNT ?_; with_reducible refine Rf.wp_sNil ?_; with_reducible refine Rf.wp_seq ?_; with_reducible refine Rf.wp_asg ?_; with_reducible refine Rf.wp_lst ?_; with_reducible refine Rf.wp_cons ?_; with_reducible refine Rf.wp_call ?_; with_reducible refine Rf.wp_cons ?_; with_reducible refine Rf.wp_con ?_; with_reducible refine Rf.wp_cons ?_; with_reducible refine Rf.wp_tup ?_; with_reducible refine Rf.wp_cons ?_; with_reducible refine Rf.wp_con ?_; with_reducible refine Rf.wp_cons ?_; with_reducible refine Rf.wp_con ?_; with_reducible refine Rf.wp_cons ?_; with_reducible refine Rf.wp_con ?_; with_reducible refine Rf.wp_cons ?_; with_reducible refine Rf.wp_con ?_; with_reducible refine Rf.wp_cons ?_; with_reducible refine Rf.wp_con ?_; with_reducible refine Rf.wp_cons ?_; with_reducible refine Rf.wp_con ?_; with_reducible refine Rf.wp_cons ?_; with_reducible refine Rf.wp_con ?_; with_reducible refine Rf.wp_nil ?_; with_reducible refine Rf.tp_dat (by with_unfolding_all exact rfl) (by with_unfolding_all exact rfl) ?_; dsimp only [Rf.strB, Rf.intB, Rf.boolB, Rf.tupB, Rf.dicB, Rf.noneB]; with_reducible refine Rf.wp_nil ?_)
    (with_reducible refine wp_eq (e3 _ _) ?_)
    (with_reducible refine Rf.wp_cons ?_; with_reducible refine Rf.wp_call ?_; with_reducible refine Rf.wp_cons ?_; with_reducible refine Rf.wp_con ?_; with_reducible refine Rf.wp_cons ?_; with_reducible refine Rf.wp_tup ?_; with_reducible refine Rf.wp_cons ?_; with_reducible refine Rf.wp_con ?_; with_reducible refine Rf.wp_cons ?_; with_reducible refine Rf.wp_con ?_; with_reducible refine Rf.wp_cons ?_; with_reducible refine Rf.wp_con ?_; with_reducible refine Rf.wp_cons ?_; with_reducible refine Rf.wp_con ?_; with_reducible refine Rf.wp_cons ?_; with_reducible refine Rf.wp_con ?_; with_reducible refine Rf.wp_nil ?_; with_reducible refine Rf.tp_dat (by with_unfolding_all exact rfl) (by with_unfolding_all exact rfl) ?_; dsimp only [Rf.strB, Rf.intB, Rf.boolB, Rf.tupB, Rf.dicB, Rf.noneB]; with_reducible refine Rf.wp_nil ?_)
    (with_reducible refine wp_eq (e4 _ _) ?_)
    (with_reducible refine Rf.wp_cons ?_; with_reducible refine Rf.wp_call ?_; with_reducible refine Rf.wp_cons ?_; with_reducible refine Rf.wp_con ?_; with_reducible refine Rf.wp_cons ?_; with_reducible refine Rf.wp_tup ?_; with_reducible refine Rf.wp_cons ?_; with_reducible refine Rf.wp_con ?_; with_reducible refine Rf.wp_cons ?_; with_reducible refine Rf.wp_con ?_; with_reducible refine Rf.wp_cons ?_; with_reducible refine Rf.wp_con ?_; with_reducible refine Rf.wp_cons ?_; with_reducible refine Rf.wp_con ?_; with_reducible refine Rf.wp_cons ?_; with_reducible refine Rf.wp_tup ?_; with_reducible refine Rf.wp_nil ?_; with_reducible refine Rf.tp_dat (by with_unfolding_all exact rfl) (by with_unfolding_all exact rfl) ?_; with_reducible refine Rf.wp_nil ?_; with_reducible refine Rf.tp_dat (by with_unfolding_all exact rfl) (by with_unfolding_all exact rfl) ?_; dsimp only [Rf.strB, Rf.intB, Rf.boolB, Rf.tupB, Rf.dicB, Rf.noneB]; with_reducible refine Rf.wp_nil ?_)
    (with_reducible refine wp_eq (e5 _ _) ?_)
    (with_reducible refine Rf.wp_nil ?_; with_reducible refine Rf.lp_dat (by with_unfolding_all exact rfl) (by with_unfolding_all exact rfl) ?_; dsimp only [Rf.strB, Rf.intB, Rf.boolB, Rf.tupB, Rf.dicB, Rf.noneB]; with_reducible refine Rf.wp_name ?_; with_reducible refine Rf.wp_seq ?_; with_reducible refine Rf.wp_asg ?_; with_reducible refine Rf.wp_lam ?_)
    (with_reducible refine wp_next_ex (fun bs' => ?_) ?_)
    · refine eq_ex_wp ?_
      (with_reducible refine Rf.wp_call ?_; with_reducible refine Rf.wp_cons ?_; with_reducible refine Rf.wp_con ?_; with_reducible refine Rf.wp_cons ?_; with_reducible refine Rf.wp_tup ?_; with_reducible refine Rf.wp_cons ?_; with_reducible refine Rf.wp_bin ?_; with_reducible refine Rf.wp_bin ?_; with_reducible refine Rf.wp_con ?_; with_reducible refine Rf.wp_con ?_)
      (with_reducible refine pow18 ?_)
      (with_reducible refine Rf.wp_con ?_; with_reducible refine Rf.sub_int ?_; with_reducible refine Rf.wp_cons ?_; with_reducible refine Rf.wp_con ?_; with_reducible refine Rf.wp_cons ?_; with_reducible refine Rf.wp_con ?_; with_reducible refine Rf.wp_cons ?_; with_reducible refine Rf.wp_con ?_; with_reducible refine Rf.wp_cons ?_; with_reducible refine Rf.wp_tup ?_; with_reducible refine Rf.wp_nil ?_; with_reducible refine Rf.tp_dat (by with_unfolding_all exact rfl) (by with_unfolding_all exact rfl) ?_; with_reducible refine Rf.wp_nil ?_; with_reducible refine Rf.tp_dat (by with_unfolding_all exact rfl) (by with_unfolding_all exact rfl) ?_; dsimp only [Rf.strB, Rf.intB, Rf.boolB, Rf.tupB, Rf.dicB, Rf.noneB]; with_reducible refine Rf.wp_cons ?_; with_reducible refine Rf.wp_con ?_; with_reducible refine Rf.wp_cons ?_; with_reducible refine Rf.wp_con ?_; with_reducible refine Rf.wp_cons ?_; with_reducible refine Rf.wp_tup ?_; with_reducible refine Rf.wp_nil ?_; with_reducible refine Rf.tp_dat (by with_unfolding_all exact rfl) (by with_unfolding_all exact rfl) ?_; with_reducible refine Rf.wp_nil ?_)
      (with_reducible refine wp_exq (e7 _ _) ?_)
      exact ⟨rfl, rfl, rfl⟩
    (with_reducible refine Rf.wp_name ?_; with_reducible refine Rf.wp_ret ?_; with_reducible refine Rf.wp_andV ?_; with_reducible refine Rf.wp_bin ?_; with_reducible refine Rf.wp_varD (by with_unfolding_all exact rfl) ?_; with_reducible refine Rf.wp_lst ?_; with_reducible refine Rf.wp_cons ?_; with_reducible refine Rf.wp_con ?_; with_reducible refine Rf.wp_cons ?_; with_reducible refine Rf.wp_tup ?_; with_reducible refine Rf.wp_cons ?_; with_reducible refine Rf.wp_con ?_; with_reducible refine Rf.wp_cons ?_; with_reducible refine Rf.wp_con ?_; with_reducible refine Rf.wp_cons ?_; with_reducible refine Rf.wp_con ?_; with_reducible refine Rf.wp_cons ?_; with_reducible refine Rf.wp_con ?_; with_reducible refine Rf.wp_cons ?_; with_reducible refine Rf.wp_tup ?_; with_reducible refine Rf.wp_nil ?_; with_reducible refine Rf.tp_dat (by with_unfolding_all exact rfl) (by with_unfolding_all exact rfl) ?_; with_reducible refine Rf.wp_nil ?_; with_reducible refine Rf.tp_dat (by with_unfolding_all exact rfl) (by with_unfolding_all exact rfl) ?_; dsimp only [Rf.strB, Rf.intB, Rf.boolB, Rf.tupB, Rf.dicB, Rf.noneB]; with_reducible refine Rf.wp_cons ?_; with_reducible refine Rf.wp_con ?_; with_reducible refine Rf.wp_nil ?_; with_reducible refine Rf.lp_dat (by with_unfolding_all exact rfl) (by with_unfolding_all exact rfl) ?_; dsimp only [Rf.strB, Rf.intB, Rf.boolB, Rf.tupB, Rf.dicB, Rf.noneB])
    (with_reducible refine eq_same pde (by decide) ?_)
    (with_reducible refine Rf.exTru (by with_unfolding_all exact rfl) ?_; with_reducible refine Rf.ifNF ?_; with_reducible refine Rf.wp_andV ?_; with_reducible refine Rf.wp_bin ?_; with_reducible refine Rf.wp_varD (by with_unfolding_all exact rfl) ?_; with_reducible refine Rf.wp_tup ?_; with_reducible refine Rf.wp_cons ?_; with_reducible refine Rf.wp_con ?_; with_reducible refine Rf.wp_cons ?_; with_reducible refine Rf.wp_con ?_; with_reducible refine Rf.wp_nil ?_; with_reducible refine Rf.tp_dat (by with_unfolding_all exact rfl) (by with_unfolding_all exact rfl) ?_; dsimp only [Rf.strB, Rf.intB, Rf.boolB, Rf.tupB, Rf.dicB, Rf.noneB])
    (with_reducible refine eq_same pdr (by decide) ?_)
    (with_reducible refine Rf.exTru (by with_unfolding_all exact rfl) ?_; with_reducible refine Rf.ifNF ?_; with_reducible refine Rf.wp_call ?_; with_reducible refine Rf.wp_cons ?_; with_reducible refine Rf.wp_con ?_; with_reducible refine Rf.wp_cons ?_; with_reducible refine Rf.wp_tup ?_; with_reducible refine Rf.wp_cons ?_; with_reducible refine Rf.wp_con ?_; with_reducible refine Rf.wp_cons ?_; with_reducible refine Rf.wp_con ?_; with_reducible refine Rf.wp_cons ?_; with_reducible refine Rf.wp_con ?_; with_reducible refine Rf.wp_cons ?_; with_reducible refine Rf.wp_con ?_; with_reducible refine Rf.wp_cons ?_; with_reducible refine Rf.wp_tup ?_; with_reducible refine Rf.wp_nil ?_; with_reducible refine Rf.tp_dat (by with_unfolding_all exact rfl) (by with_unfolding_all exact rfl) ?_; with_reducible refine Rf.wp_nil ?_; with_reducible refine Rf.tp_dat (by with_unfolding_all exact rfl) (by with_unfolding_all exact rfl) ?_; dsimp only [Rf.strB, Rf.intB, Rf.boolB, Rf.tupB, Rf.dicB, Rf.noneB]; with_reducible refine Rf.wp_nil ?_)
    (with_reducible refine wp_eq (e6 _ _) ?_)
    exact rt_dat rfl
end
theorem right (ns : List Int) (_ : ns.length ≤ 63) (_ : ∀ z ∈ ns, Builtin.Int.intBits z ≤ 1048576) : ∃ S, F_law [] [.lw (ns.map fun n => .dat (.int n))] [] = .ok (.bl true) S := by
  have h := ok_of_wp (wp_law (S := []) ns)
  refine Exists.elim h fun w h => Exists.elim h fun S h => ⟨S, ?_⟩
  rw [h.1, h.2]
end V

namespace V
open PySem PySem.Spec L2 PyProof.Rows Rf
theorem all_mk (right : ∀ ns : List Int, ns.length ≤ 63 → (∀ z ∈ ns, Builtin.Int.intBits z ≤ 1048576) → ∃ S, F_law [] [.lw (ns.map fun n => .dat (.int n))] [] = .ok (.bl true) S) {l : PySem.W.OpenLaw} {w : World} {K : PySem.W.Frag} {h : Heap} {mg mb : Str → Option Value} {q : Program} {ls : List Str} {mean : ExcName → Option Value} {fa : Addr} (X : K.In h) (Tp : Top q ls mean mg mb h) (G : h.Ns mainGlobals mg) (hfa : mg "law" = some (.ref fa))
    (hq : (["_law_right", "law"] : List Str).all (has1 q) = true)
    {tk0 : Tok} {tk1 : Tok} {tk2 : Tok} {tk3 : Tok} {tk4 : Tok} {tk5 : Tok} {tk6 : Tok} {tk7 : Tok} {tk8 : Tok} {tk9 : Tok} {tk10 : Tok} {tk11 : Tok} {tk12 : Tok} {a0 : Addr} {od0 an0 : Option Addr} {sl0 : Array (Option Value)} {oc0 kV0 dc0 pm0 cd0 ct0 : Value} {a1 : Addr} {od1 an1 : Option Addr} {sl1 : Array (Option Value)} {oc1 kV1 dc1 pm1 cd1 ct1 : Value} {a2 : Addr} {od2 an2 : Option Addr} {sl2 : Array (Option Value)} {oc2 kV2 dc2 pm2 cd2 ct2 : Value} {a3 : Addr} {od3 an3 : Option Addr} {sl3 : Array (Option Value)} {oc3 kV3 dc3 pm3 cd3 ct3 : Value} {a4 : Addr} {od4 an4 : Option Addr} {sl4 : Array (Option Value)} {oc4 kV4 dc4 pm4 cd4 ct4 : Value} {a5 : Addr} {od5 an5 : Option Addr} {sl5 : Array (Option Value)} {oc5 kV5 dc5 pm5 cd5 ct5 : Value} {a7 : Addr} {od7 an7 : Option Addr} {sl7 : Array (Option Value)} {oc7 kV7 dc7 pm7 cd7 ct7 : Value} {a6 : Addr} {od6 an6 : Option Addr} {sl6 : Array (Option Value)} {oc6 kV6 dc6 pm6 cd6 ct6 : Value} {a8 : Addr} {od8 an8 : Option Addr} {sl8 : Array (Option Value)} {oc8 kV8 dc8 pm8 cd8 ct8 : Value} {a9 : Addr} {od9 an9 : Option Addr} {sl9 : Array (Option Value)} {oc9 kV9 dc9 pm9 cd9 ct9 : Value} {a10 : Addr} {od10 an10 : Option Addr} {sl10 : Array (Option Value)} {oc10 kV10 dc10 pm10 cd10 ct10 : Value} {a11 : Addr} {od11 an11 : Option Addr} {sl11 : Array (Option Value)} {oc11 kV11 dc11 pm11 cd11 ct11 : Value} {a12 : Addr} {od12 an12 : Option Addr} {sl12 : Array (Option Value)} {oc12 kV12 dc12 pm12 cd12 ct12 : Value} {a13 : Addr} {od13 an13 : Option Addr} {sl13 : Array (Option Value)} {oc13 kV13 dc13 pm13 cd13 ct13 : Value} {a14 : Addr} {od14 an14 : Option Addr} {sl14 : Array (Option Value)} {oc14 kV14 dc14 pm14 cd14 ct14 : Value} {a16 : Addr} {od16 an16 : Option Addr} {sl16 : Array (Option Value)} {oc16 kV16 dc16 pm16 cd16 ct16 : Value} {a15 : Addr} {od15 an15 : Option Addr} {sl15 : Array (Option Value)} {oc15 kV15 dc15 pm15 cd15 ct15 : Value} {a17 : Addr} {od17 an17 : Option Addr} {sl17 : Array (Option Value)} {oc17 kV17 dc17 pm17 cd17 ct17 : Value} {a18 : Addr} {od18 an18 : Option Addr} {sl18 : Array (Option Value)} {oc18 kV18 dc18 pm18 cd18 ct18 : Value} {a19 : Addr} {od19 an19 : Option Addr} {sl19 : Array (Option Value)} {oc19 kV19 dc19 pm19 cd19 ct19 : Value} {a20 : Addr} {od20 an20 : Option Addr} {sl20 : Array (Option Value)} {oc20 kV20 dc20 pm20 cd20 ct20 : Value} {a21 : Addr} {od21 an21 : Option Addr} {sl21 : Array (Option Value)} {oc21 kV21 dc21 pm21 cd21 ct21 : Value} {a22 : Addr} {od22 an22 : Option Addr} {sl22 : Array (Option Value)} {oc22 kV22 dc22 pm22 cd22 ct22 : Value} {a23 : Addr} {od23 an23 : Option Addr} {sl23 : Array (Option Value)} {oc23 kV23 dc23 pm23 cd23 ct23 : Value} {a24 : Addr} {od24 an24 : Option Addr} {sl24 : Array (Option Value)} {oc24 kV24 dc24 pm24 cd24 ct24 : Value} {a25 : Addr} {od25 an25 : Option Addr} {sl25 : Array (Option Value)} {oc25 kV25 dc25 pm25 cd25 ct25 : Value} {a26 : Addr} {od26 an26 : Option Addr} {sl26 : Array (Option Value)} {oc26 kV26 dc26 pm26 cd26 ct26 : Value} {a27 : Addr} {od27 an27 : Option Addr} {sl27 : Array (Option Value)} {oc27 kV27 dc27 pm27 cd27 ct27 : Value} {a28 : Addr} {od28 an28 : Option Addr} {sl28 : Array (Option Value)} {oc28 kV28 dc28 pm28 cd28 ct28 : Value} {a29 : Addr} {od29 an29 : Option Addr} {sl29 : Array (Option Value)} {oc29 kV29 dc29 pm29 cd29 ct29 : Value} {a30 : Addr} {od30 an30 : Option Addr} {sl30 : Array (Option Value)} {oc30 kV30 dc30 pm30 cd30 ct30 : Value} {a31 : Addr} {od31 an31 : Option Addr} {sl31 : Array (Option Value)} {oc31 kV31 dc31 pm31 cd31 ct31 : Value} {a32 : Addr} {od32 an32 : Option Addr} {sl32 : Array (Option Value)} {oc32 kV32 dc32 pm32 cd32 ct32 : Value} {a33 : Addr} {od33 an33 : Option Addr} {sl33 : Array (Option Value)} {oc33 kV33 dc33 pm33 cd33 ct33 : Value} {a34 : Addr} {od34 an34 : Option Addr} {sl34 : Array (Option Value)} {oc34 kV34 dc34 pm34 cd34 ct34 : Value} {a35 : Addr} {od35 an35 : Option Addr} {sl35 : Array (Option Value)} {oc35 kV35 dc35 pm35 cd35 ct35 : Value} {C50 : Addr} {C51 : Addr} {C52 : Addr} {C53 : Addr}
    (aX50 : PySem.W.nsIn K mainGlobals "InvalidNumber" = some (some (.ref C50)))
    (aX51 : PySem.W.nsIn K mainGlobals "InvalidName" = some (some (.ref C51)))
    (aX52 : PySem.W.nsIn K mainGlobals "InvalidBlock" = some (some (.ref C52)))
    (aX53 : PySem.W.nsIn K mainGlobals "InvalidOperation" = some (some (.ref C53)))
    (q0 : PySem.W.nsIn K mainGlobals "MAX_NAME" = some (some (.int (8) tk0)))
    (q1 : PySem.W.nsIn K mainGlobals "LETTERS" = some (some (.str "abcdefghijklmnopqrstuvwxyz" tk1)))
    (q2 : PySem.W.nsIn K mainGlobals "MAX_CELL" = some (some (.int (999999999999999999) tk2)))
    (q3 : PySem.W.nsIn K mainGlobals "BASE" = some (some (.int (27) tk3)))
    (q4 : PySem.W.nsIn K mainGlobals "MOST_CELLS" = some (some (.int (52) tk4)))
    (q5 : PySem.W.nsIn K mainGlobals "MOST_BLOCKS" = some (some (.int (240) tk5)))
    (q6 : PySem.W.nsIn K mainGlobals "LEAST_BLOCKS" = some (some (.int (24) tk6)))
    (q7 : PySem.W.nsIn K mainGlobals "HEADS" = some (some (.int (2) tk7)))
    (q8 : PySem.W.nsIn K mainGlobals "MAX_SHOTS" = some (some (.int (6) tk8)))
    (q9 : PySem.W.nsIn K mainGlobals "LEAST_HEAD" = some (some (.int (5) tk9)))
    (q10 : PySem.W.nsIn K mainGlobals "LEAST_SHELF" = some (some (.int (16) tk10)))
    (q11 : PySem.W.nsIn K mainGlobals "MAX_LOG" = some (some (.int (40) tk11)))
    (q12 : PySem.W.nsIn K mainGlobals "LEAST_LOG" = some (some (.int (4) tk12)))
    (m0 : PySem.W.nsIn K mainGlobals "is_number" = some (some (.ref a0)))
    (l0 : K.lookup a0 = some ⟨oc0, od0, .func (PySem.W.fnOf "is_number" "is_number" (defArgs (top 7)) (defBody (top 7)) (defScope (top 7)) .none kV0 dc0 pm0 an0 cd0 ct0), sl0⟩) (c0 : PySem.W.codeIn K cd0 "is_number" = true) (k0 : PySem.W.keepIn K (.ref a0) = true)
    (m1 : PySem.W.nsIn K mainGlobals "check_number" = some (some (.ref a1)))
    (l1 : K.lookup a1 = some ⟨oc1, od1, .func (PySem.W.fnOf "check_number" "check_number" (defArgs (top 8)) (defBody (top 8)) (defScope (top 8)) .none kV1 dc1 pm1 an1 cd1 ct1), sl1⟩) (c1 : PySem.W.codeIn K cd1 "check_number" = true) (k1 : PySem.W.keepIn K (.ref a1) = true)
    (m2 : PySem.W.nsIn K mainGlobals "is_name" = some (some (.ref a2)))
    (l2 : K.lookup a2 = some ⟨oc2, od2, .func (PySem.W.fnOf "is_name" "is_name" (defArgs (top 14)) (defBody (top 14)) (defScope (top 14)) .none kV2 dc2 pm2 an2 cd2 ct2), sl2⟩) (c2 : PySem.W.codeIn K cd2 "is_name" = true) (k2 : PySem.W.keepIn K (.ref a2) = true)
    (m3 : PySem.W.nsIn K mainGlobals "is_cell" = some (some (.ref a3)))
    (l3 : K.lookup a3 = some ⟨oc3, od3, .func (PySem.W.fnOf "is_cell" "is_cell" (defArgs (top 15)) (defBody (top 15)) (defScope (top 15)) .none kV3 dc3 pm3 an3 cd3 ct3), sl3⟩) (c3 : PySem.W.codeIn K cd3 "is_cell" = true) (k3 : PySem.W.keepIn K (.ref a3) = true)
    (m4 : PySem.W.nsIn K mainGlobals "are_cells" = some (some (.ref a4)))
    (l4 : K.lookup a4 = some ⟨oc4, od4, .func (PySem.W.fnOf "are_cells" "are_cells" (defArgs (top 16)) (defBody (top 16)) (defScope (top 16)) .none kV4 dc4 pm4 an4 cd4 ct4), sl4⟩) (c4 : PySem.W.codeIn K cd4 "are_cells" = true) (k4 : PySem.W.keepIn K (.ref a4) = true)
    (m5 : PySem.W.nsIn K mainGlobals "name_cell" = some (some (.ref a5)))
    (l5 : K.lookup a5 = some ⟨oc5, od5, .func (PySem.W.fnOf "name_cell" "name_cell" (defArgs (top 17)) (defBody (top 17)) (defScope (top 17)) .none kV5 dc5 pm5 an5 cd5 ct5), sl5⟩) (c5 : PySem.W.codeIn K cd5 "name_cell" = true) (k5 : PySem.W.keepIn K (.ref a5) = true)
    (m7 : PySem.W.nsIn K mainGlobals "_letters_of" = some (some (.ref a7)))
    (l7 : K.lookup a7 = some ⟨oc7, od7, .func (PySem.W.fnOf "_letters_of" "_letters_of" (defArgs (top 19)) (defBody (top 19)) (defScope (top 19)) .none kV7 dc7 pm7 an7 cd7 ct7), sl7⟩) (c7 : PySem.W.codeIn K cd7 "_letters_of" = true) (k7 : PySem.W.keepIn K (.ref a7) = true)
    (m6 : PySem.W.nsIn K mainGlobals "name_of_cell" = some (some (.ref a6)))
    (l6 : K.lookup a6 = some ⟨oc6, od6, .func (PySem.W.fnOf "name_of_cell" "name_of_cell" (defArgs (top 18)) (defBody (top 18)) (defScope (top 18)) .none kV6 dc6 pm6 an6 cd6 ct6), sl6⟩) (c6 : PySem.W.codeIn K cd6 "name_of_cell" = true) (k6 : PySem.W.keepIn K (.ref a6) = true)
    (m8 : PySem.W.nsIn K mainGlobals "check_cells" = some (some (.ref a8)))
    (l8 : K.lookup a8 = some ⟨oc8, od8, .func (PySem.W.fnOf "check_cells" "check_cells" (defArgs (top 24)) (defBody (top 24)) (defScope (top 24)) .none kV8 dc8 pm8 an8 cd8 ct8), sl8⟩) (c8 : PySem.W.codeIn K cd8 "check_cells" = true) (k8 : PySem.W.keepIn K (.ref a8) = true)
    (m9 : PySem.W.nsIn K mainGlobals "_check_size" = some (some (.ref a9)))
    (l9 : K.lookup a9 = some ⟨oc9, od9, .func (PySem.W.fnOf "_check_size" "_check_size" (defArgs (top 32)) (defBody (top 32)) (defScope (top 32)) .none kV9 dc9 pm9 an9 cd9 ct9), sl9⟩) (c9 : PySem.W.codeIn K cd9 "_check_size" = true) (k9 : PySem.W.keepIn K (.ref a9) = true)
    (m10 : PySem.W.nsIn K mainGlobals "_is_root" = some (some (.ref a10)))
    (l10 : K.lookup a10 = some ⟨oc10, od10, .func (PySem.W.fnOf "_is_root" "_is_root" (defArgs (top 33)) (defBody (top 33)) (defScope (top 33)) .none kV10 dc10 pm10 an10 cd10 ct10), sl10⟩) (c10 : PySem.W.codeIn K cd10 "_is_root" = true) (k10 : PySem.W.keepIn K (.ref a10) = true)
    (m11 : PySem.W.nsIn K mainGlobals "_are_shots" = some (some (.ref a11)))
    (l11 : K.lookup a11 = some ⟨oc11, od11, .func (PySem.W.fnOf "_are_shots" "_are_shots" (defArgs (top 34)) (defBody (top 34)) (defScope (top 34)) .none kV11 dc11 pm11 an11 cd11 ct11), sl11⟩) (c11 : PySem.W.codeIn K cd11 "_are_shots" = true) (k11 : PySem.W.keepIn K (.ref a11) = true)
    (m12 : PySem.W.nsIn K mainGlobals "_fits" = some (some (.ref a12)))
    (l12 : K.lookup a12 = some ⟨oc12, od12, .func (PySem.W.fnOf "_fits" "_fits" (defArgs (top 35)) (defBody (top 35)) (defScope (top 35)) .none kV12 dc12 pm12 an12 cd12 ct12), sl12⟩) (c12 : PySem.W.codeIn K cd12 "_fits" = true) (k12 : PySem.W.keepIn K (.ref a12) = true)
    (m13 : PySem.W.nsIn K mainGlobals "_check_head" = some (some (.ref a13)))
    (l13 : K.lookup a13 = some ⟨oc13, od13, .func (PySem.W.fnOf "_check_head" "_check_head" (defArgs (top 36)) (defBody (top 36)) (defScope (top 36)) .none kV13 dc13 pm13 an13 cd13 ct13), sl13⟩) (c13 : PySem.W.codeIn K cd13 "_check_head" = true) (k13 : PySem.W.keepIn K (.ref a13) = true)
    (m14 : PySem.W.nsIn K mainGlobals "is_head" = some (some (.ref a14)))
    (l14 : K.lookup a14 = some ⟨oc14, od14, .func (PySem.W.fnOf "is_head" "is_head" (defArgs (top 37)) (defBody (top 37)) (defScope (top 37)) .none kV14 dc14 pm14 an14 cd14 ct14), sl14⟩) (c14 : PySem.W.codeIn K cd14 "is_head" = true) (k14 : PySem.W.keepIn K (.ref a14) = true)
    (m16 : PySem.W.nsIn K mainGlobals "_cells_of" = some (some (.ref a16)))
    (l16 : K.lookup a16 = some ⟨oc16, od16, .func (PySem.W.fnOf "_cells_of" "_cells_of" (defArgs (top 39)) (defBody (top 39)) (defScope (top 39)) .none kV16 dc16 pm16 an16 cd16 ct16), sl16⟩) (c16 : PySem.W.codeIn K cd16 "_cells_of" = true) (k16 : PySem.W.keepIn K (.ref a16) = true)
    (m15 : PySem.W.nsIn K mainGlobals "head_cells" = some (some (.ref a15)))
    (l15 : K.lookup a15 = some ⟨oc15, od15, .func (PySem.W.fnOf "head_cells" "head_cells" (defArgs (top 38)) (defBody (top 38)) (defScope (top 38)) .none kV15 dc15 pm15 an15 cd15 ct15), sl15⟩) (c15 : PySem.W.codeIn K cd15 "head_cells" = true) (k15 : PySem.W.keepIn K (.ref a15) = true)
    (m17 : PySem.W.nsIn K mainGlobals "_head_in" = some (some (.ref a17)))
    (l17 : K.lookup a17 = some ⟨oc17, od17, .func (PySem.W.fnOf "_head_in" "_head_in" (defArgs (top 40)) (defBody (top 40)) (defScope (top 40)) .none kV17 dc17 pm17 an17 cd17 ct17), sl17⟩) (c17 : PySem.W.codeIn K cd17 "_head_in" = true) (k17 : PySem.W.keepIn K (.ref a17) = true)
    (m18 : PySem.W.nsIn K mainGlobals "head_of" = some (some (.ref a18)))
    (l18 : K.lookup a18 = some ⟨oc18, od18, .func (PySem.W.fnOf "head_of" "head_of" (defArgs (top 41)) (defBody (top 41)) (defScope (top 41)) .none kV18 dc18 pm18 an18 cd18 ct18), sl18⟩) (c18 : PySem.W.codeIn K cd18 "head_of" = true) (k18 : PySem.W.keepIn K (.ref a18) = true)
    (m19 : PySem.W.nsIn K mainGlobals "next_head" = some (some (.ref a19)))
    (l19 : K.lookup a19 = some ⟨oc19, od19, .func (PySem.W.fnOf "next_head" "next_head" (defArgs (top 42)) (defBody (top 42)) (defScope (top 42)) .none kV19 dc19 pm19 an19 cd19 ct19), sl19⟩) (c19 : PySem.W.codeIn K cd19 "next_head" = true) (k19 : PySem.W.keepIn K (.ref a19) = true)
    (m20 : PySem.W.nsIn K mainGlobals "_law_chest" = some (some (.ref a20)))
    (l20 : K.lookup a20 = some ⟨oc20, od20, .func (PySem.W.fnOf "_law_chest" "_law_chest" (defArgs (top 44)) (defBody (top 44)) (defScope (top 44)) .none kV20 dc20 pm20 an20 cd20 ct20), sl20⟩) (c20 : PySem.W.codeIn K cd20 "_law_chest" = true) (k20 : PySem.W.keepIn K (.ref a20) = true)
    (m21 : PySem.W.nsIn K mainGlobals "_law_draw" = some (some (.ref a21)))
    (l21 : K.lookup a21 = some ⟨oc21, od21, .func (PySem.W.fnOf "_law_draw" "_law_draw" (defArgs (top 45)) (defBody (top 45)) (defScope (top 45)) .none kV21 dc21 pm21 an21 cd21 ct21), sl21⟩) (c21 : PySem.W.codeIn K cd21 "_law_draw" = true) (k21 : PySem.W.keepIn K (.ref a21) = true)
    (m22 : PySem.W.nsIn K mainGlobals "_law_take" = some (some (.ref a22)))
    (l22 : K.lookup a22 = some ⟨oc22, od22, .func (PySem.W.fnOf "_law_take" "_law_take" (defArgs (top 46)) (defBody (top 46)) (defScope (top 46)) .none kV22 dc22 pm22 an22 cd22 ct22), sl22⟩) (c22 : PySem.W.codeIn K cd22 "_law_take" = true) (k22 : PySem.W.keepIn K (.ref a22) = true)
    (m23 : PySem.W.nsIn K mainGlobals "_law_name_cell" = some (some (.ref a23)))
    (l23 : K.lookup a23 = some ⟨oc23, od23, .func (PySem.W.fnOf "_law_name_cell" "_law_name_cell" (defArgs (top 47)) (defBody (top 47)) (defScope (top 47)) .none kV23 dc23 pm23 an23 cd23 ct23), sl23⟩) (c23 : PySem.W.codeIn K cd23 "_law_name_cell" = true) (k23 : PySem.W.keepIn K (.ref a23) = true)
    (m24 : PySem.W.nsIn K mainGlobals "_law_cell_name" = some (some (.ref a24)))
    (l24 : K.lookup a24 = some ⟨oc24, od24, .func (PySem.W.fnOf "_law_cell_name" "_law_cell_name" (defArgs (top 48)) (defBody (top 48)) (defScope (top 48)) .none kV24 dc24 pm24 an24 cd24 ct24), sl24⟩) (c24 : PySem.W.codeIn K cd24 "_law_cell_name" = true) (k24 : PySem.W.keepIn K (.ref a24) = true)
    (m25 : PySem.W.nsIn K mainGlobals "_law_cells" = some (some (.ref a25)))
    (l25 : K.lookup a25 = some ⟨oc25, od25, .func (PySem.W.fnOf "_law_cells" "_law_cells" (defArgs (top 49)) (defBody (top 49)) (defScope (top 49)) .none kV25 dc25 pm25 an25 cd25 ct25), sl25⟩) (c25 : PySem.W.codeIn K cd25 "_law_cells" = true) (k25 : PySem.W.keepIn K (.ref a25) = true)
    (m26 : PySem.W.nsIn K mainGlobals "_law_is_cell" = some (some (.ref a26)))
    (l26 : K.lookup a26 = some ⟨oc26, od26, .func (PySem.W.fnOf "_law_is_cell" "_law_is_cell" (defArgs (top 50)) (defBody (top 50)) (defScope (top 50)) .none kV26 dc26 pm26 an26 cd26 ct26), sl26⟩) (c26 : PySem.W.codeIn K cd26 "_law_is_cell" = true) (k26 : PySem.W.keepIn K (.ref a26) = true)
    (m27 : PySem.W.nsIn K mainGlobals "_law_is_name" = some (some (.ref a27)))
    (l27 : K.lookup a27 = some ⟨oc27, od27, .func (PySem.W.fnOf "_law_is_name" "_law_is_name" (defArgs (top 51)) (defBody (top 51)) (defScope (top 51)) .none kV27 dc27 pm27 an27 cd27 ct27), sl27⟩) (c27 : PySem.W.codeIn K cd27 "_law_is_name" = true) (k27 : PySem.W.keepIn K (.ref a27) = true)
    (m28 : PySem.W.nsIn K mainGlobals "_law_is_head" = some (some (.ref a28)))
    (l28 : K.lookup a28 = some ⟨oc28, od28, .func (PySem.W.fnOf "_law_is_head" "_law_is_head" (defArgs (top 52)) (defBody (top 52)) (defScope (top 52)) .none kV28 dc28 pm28 an28 cd28 ct28), sl28⟩) (c28 : PySem.W.codeIn K cd28 "_law_is_head" = true) (k28 : PySem.W.keepIn K (.ref a28) = true)
    (m29 : PySem.W.nsIn K mainGlobals "_law_of_cells" = some (some (.ref a29)))
    (l29 : K.lookup a29 = some ⟨oc29, od29, .func (PySem.W.fnOf "_law_of_cells" "_law_of_cells" (defArgs (top 53)) (defBody (top 53)) (defScope (top 53)) .none kV29 dc29 pm29 an29 cd29 ct29), sl29⟩) (c29 : PySem.W.codeIn K cd29 "_law_of_cells" = true) (k29 : PySem.W.keepIn K (.ref a29) = true)
    (m30 : PySem.W.nsIn K mainGlobals "_law_head" = some (some (.ref a30)))
    (l30 : K.lookup a30 = some ⟨oc30, od30, .func (PySem.W.fnOf "_law_head" "_law_head" (defArgs (top 54)) (defBody (top 54)) (defScope (top 54)) .none kV30 dc30 pm30 an30 cd30 ct30), sl30⟩) (c30 : PySem.W.codeIn K cd30 "_law_head" = true) (k30 : PySem.W.keepIn K (.ref a30) = true)
    (m31 : PySem.W.nsIn K mainGlobals "_law_near" = some (some (.ref a31)))
    (l31 : K.lookup a31 = some ⟨oc31, od31, .func (PySem.W.fnOf "_law_near" "_law_near" (defArgs (top 55)) (defBody (top 55)) (defScope (top 55)) .none kV31 dc31 pm31 an31 cd31 ct31), sl31⟩) (c31 : PySem.W.codeIn K cd31 "_law_near" = true) (k31 : PySem.W.keepIn K (.ref a31) = true)
    (m32 : PySem.W.nsIn K mainGlobals "_law_other_cells" = some (some (.ref a32)))
    (l32 : K.lookup a32 = some ⟨oc32, od32, .func (PySem.W.fnOf "_law_other_cells" "_law_other_cells" (defArgs (top 56)) (defBody (top 56)) (defScope (top 56)) .none kV32 dc32 pm32 an32 cd32 ct32), sl32⟩) (c32 : PySem.W.codeIn K cd32 "_law_other_cells" = true) (k32 : PySem.W.keepIn K (.ref a32) = true)
    (m33 : PySem.W.nsIn K mainGlobals "_law_next" = some (some (.ref a33)))
    (l33 : K.lookup a33 = some ⟨oc33, od33, .func (PySem.W.fnOf "_law_next" "_law_next" (defArgs (top 57)) (defBody (top 57)) (defScope (top 57)) .none kV33 dc33 pm33 an33 cd33 ct33), sl33⟩) (c33 : PySem.W.codeIn K cd33 "_law_next" = true) (k33 : PySem.W.keepIn K (.ref a33) = true)
    (m34 : PySem.W.nsIn K mainGlobals "_law_right" = some (some (.ref a34)))
    (l34 : K.lookup a34 = some ⟨oc34, od34, .func (PySem.W.fnOf "_law_right" "_law_right" (defArgs (top 58)) (defBody (top 58)) (defScope (top 58)) .none kV34 dc34 pm34 an34 cd34 ct34), sl34⟩) (c34 : PySem.W.codeIn K cd34 "_law_right" = true) (k34 : PySem.W.keepIn K (.ref a34) = true)
    (m35 : PySem.W.nsIn K mainGlobals "law" = some (some (.ref a35)))
    (l35 : K.lookup a35 = some ⟨oc35, od35, .func (PySem.W.fnOf "law" "law" (defArgs (top 59)) (defBody (top 59)) (defScope (top 59)) .none kV35 dc35 pm35 an35 cd35 ct35), sl35⟩) (c35 : PySem.W.codeIn K cd35 "law" = true) (k35 : PySem.W.keepIn K (.ref a35) = true)
    (kx50 : PySem.W.keepIn K (.ref C50) = true) (bx50 : PySem.W.subIn K (.ref C50) (.type "BaseException") = some true) (tx50 : PySem.W.typeIn K (.ref C50) = some (.type "type"))
    (kx51 : PySem.W.keepIn K (.ref C51) = true) (qx51 : PySem.W.excIn K C51 [.type "ValueError", .type "Exception", .type "BaseException", .type "object"] "ValueError.__new__" = true) (bx51 : PySem.W.subIn K (.ref C51) (.type "BaseException") = some true) (tx51 : PySem.W.typeIn K (.ref C51) = some (.type "type"))
    (kx52 : PySem.W.keepIn K (.ref C52) = true) (qx52 : PySem.W.excIn K C52 [.type "ValueError", .type "Exception", .type "BaseException", .type "object"] "ValueError.__new__" = true) (bx52 : PySem.W.subIn K (.ref C52) (.type "BaseException") = some true) (tx52 : PySem.W.typeIn K (.ref C52) = some (.type "type"))
    (kx53 : PySem.W.keepIn K (.ref C53) = true) (qx53 : PySem.W.excIn K C53 [.type "ValueError", .type "Exception", .type "BaseException", .type "object"] "ValueError.__new__" = true) (bx53 : PySem.W.subIn K (.ref C53) (.type "BaseException") = some true) (tx53 : PySem.W.typeIn K (.ref C53) = some (.type "type"))
    (z0 : PySem.W.nsIn K mainGlobals "isinstance" = some none)
    (z1 : PySem.W.nsIn K mainGlobals "bool" = some none)
    (z2 : PySem.W.nsIn K mainGlobals "int" = some none)
    (z3 : PySem.W.nsIn K mainGlobals "len" = some none)
    (z4 : PySem.W.nsIn K mainGlobals "str" = some none)
    (z5 : PySem.W.nsIn K mainGlobals "all" = some none)
    (z6 : PySem.W.nsIn K mainGlobals "tuple" = some none)
    (z7 : PySem.W.nsIn K mainGlobals "range" = some none)
    (z8 : PySem.W.nsIn K mainGlobals "min" = some none)
    (z9 : PySem.W.nsIn K mainGlobals "abs" = some none)
    (z10 : PySem.W.nsIn K mainGlobals "max" = some none)
    (z11 : PySem.W.nsIn K mainGlobals "zip" = some none)
    (z12 : PySem.W.nsIn K mainGlobals "sorted" = some none)
    (z13 : PySem.W.nsIn K mainGlobals "set" = some none)
    (z14 : PySem.W.nsIn K mainGlobals "list" = some none)
    {co34 Pt34 : Addr} {oct34 : Value} {odt34 : Option Addr} {vst34 : Array Value} {slt34 : Array (Option Value)} (cq34 : cd34 = .ref co34) (lq34 : K.lookup co34 = some ⟨oct34, odt34, .fields vst34, slt34⟩) (vq34 : vst34[11]? = some (.ref Pt34)) (tn34 : K.lookup Pt34 = none)
    {co35 Pt35 : Addr} {oct35 : Value} {odt35 : Option Addr} {vst35 : Array Value} {slt35 : Array (Option Value)} (cq35 : cd35 = .ref co35) (lq35 : K.lookup co35 = some ⟨oct35, odt35, .fields vst35, slt35⟩) (vq35 : vst35[11]? = some (.ref Pt35)) (tn35 : K.lookup Pt35 = none)
    (td : ([Pt34, Pt35] : List Addr).Nodup)
    {nm50 qn50 : Str} {N50 fi50 : Addr} {bs50 bm50 : List Value} {sn50 : List Str} {sub50 : List Value} {ab50 : Bool} {col50 : Option Bool} {dd50 : Option Addr} {ma50 mb50 mc50 md50 me50 : Option Value} {odi50 ani50 : Option Addr} {sli50 : Array (Option Value)} {oci50 dci50 pmi50 cdi50 cti50 : Value} {pa50 pb50 pc50 pd50 pe50 pf50 : Pos}
    (xL50 : K.lookup C50 = some (excClassObj nm50 qn50 C50 N50 bs50 bm50 true sn50 sub50 ab50 col50 dd50 ma50 mb50 mc50 md50 me50 "IndexError.__new__"))
    (hct50 : ∀ Y : String, bm50.contains (.type Y) = ([.type "IndexError", .type "LookupError", .type "Exception", .type "BaseException", .type "object"] : List Value).contains (.type Y)) (hbm50 : PySem.RfX.MroOk bm50)
    (sx50 : PySem.W.findIn K (.ref C50) "__setattr__" = some (some (.builtin "object.__setattr__"))) (ga50 : PySem.W.findIn K (.ref C50) "__getattribute__" = some (some (.builtin "BaseException.__getattribute__"))) (gg50 : PySem.W.findIn K (.ref C50) "__getattr__" = some none) (nb50 : PySem.W.findIn K (.ref C50) "given" = some none)
    (ia50 : PySem.W.findIn K (.ref C50) "__init__" = some (some (.ref fi50))) (it50 : PySem.W.typeIn K (.ref fi50) = some (.type "function"))
    (il50 : K.lookup fi50 = some ⟨oci50, odi50, .func (PySem.W.fnOf "__init__" "InvalidNumber.__init__" (PySem.ExInvalidNumber.iA pa50 pb50) (PySem.ExInvalidNumber.iB pc50 pd50 pe50 pf50) PySem.ExInvalidNumber.iS .none .none dci50 pmi50 ani50 cdi50 cti50), sli50⟩) (ic50 : PySem.W.codeIn K cdi50 "InvalidNumber.__init__" = true)
    (hx50 : PySem.W.hasDictIn K C50 = true) 
    (ix53 : PySem.W.isClsIn K C53 = true)
    (ix50 : PySem.W.isClsIn K C50 = true)
    (xs_50_53 : PySem.W.subIn K (.ref C50) (.ref C53) = some false)
    (xs_51_53 : PySem.W.subIn K (.ref C51) (.ref C53) = some false)
    (xs_52_53 : PySem.W.subIn K (.ref C52) (.ref C53) = some false)
    (xs_53_53 : PySem.W.subIn K (.ref C53) (.ref C53) = some true)
    (xs_50_50 : PySem.W.subIn K (.ref C50) (.ref C50) = some true)
    : LawThere l w K 10 63 "script" mg fa h := by
  have e := hfa.symm.trans (PySem.W.mg_of X G m35)
  cases e
  have F0 := fun_mk (st := (top 7)) l0 c0 k0
  have F1 := fun_mk (st := (top 8)) l1 c1 k1
  have F2 := fun_mk (st := (top 14)) l2 c2 k2
  have F3 := fun_mk (st := (top 15)) l3 c3 k3
  have F4 := fun_mk (st := (top 16)) l4 c4 k4
  have F5 := fun_mk (st := (top 17)) l5 c5 k5
  have F7 := fun_mk (st := (top 19)) l7 c7 k7
  have F6 := fun_mk (st := (top 18)) l6 c6 k6
  have F8 := fun_mk (st := (top 24)) l8 c8 k8
  have F9 := fun_mk (st := (top 32)) l9 c9 k9
  have F10 := fun_mk (st := (top 33)) l10 c10 k10
  have F11 := fun_mk (st := (top 34)) l11 c11 k11
  have F12 := fun_mk (st := (top 35)) l12 c12 k12
  have F13 := fun_mk (st := (top 36)) l13 c13 k13
  have F14 := fun_mk (st := (top 37)) l14 c14 k14
  have F16 := fun_mk (st := (top 39)) l16 c16 k16
  have F15 := fun_mk (st := (top 38)) l15 c15 k15
  have F17 := fun_mk (st := (top 40)) l17 c17 k17
  have F18 := fun_mk (st := (top 41)) l18 c18 k18
  have F19 := fun_mk (st := (top 42)) l19 c19 k19
  have F20 := fun_mk (st := (top 44)) l20 c20 k20
  have F21 := fun_mk (st := (top 45)) l21 c21 k21
  have F22 := fun_mk (st := (top 46)) l22 c22 k22
  have F23 := fun_mk (st := (top 47)) l23 c23 k23
  have F24 := fun_mk (st := (top 48)) l24 c24 k24
  have F25 := fun_mk (st := (top 49)) l25 c25 k25
  have F26 := fun_mk (st := (top 50)) l26 c26 k26
  have F27 := fun_mk (st := (top 51)) l27 c27 k27
  have F28 := fun_mk (st := (top 52)) l28 c28 k28
  have F29 := fun_mk (st := (top 53)) l29 c29 k29
  have F30 := fun_mk (st := (top 54)) l30 c30 k30
  have F31 := fun_mk (st := (top 55)) l31 c31 k31
  have F32 := fun_mk (st := (top 56)) l32 c32 k32
  have F33 := fun_mk (st := (top 57)) l33 c33 k33
  have F34 := fun_mk (st := (top 58)) l34 c34 k34
  have F35 := fun_mk (st := (top 59)) l35 c35 k35
  let aa : Nat → Addr := fun i => match i with | 0 => a0 | 1 => a1 | 2 => a2 | 3 => a3 | 4 => a4 | 5 => a5 | 7 => a7 | 6 => a6 | 8 => a8 | 9 => a9 | 10 => a10 | 11 => a11 | 12 => a12 | 13 => a13 | 14 => a14 | 16 => a16 | 15 => a15 | 17 => a17 | 18 => a18 | 19 => a19 | 20 => a20 | 21 => a21 | 22 => a22 | 23 => a23 | 24 => a24 | 25 => a25 | 26 => a26 | 27 => a27 | 28 => a28 | 29 => a29 | 30 => a30 | 31 => a31 | 32 => a32 | 33 => a33 | 34 => a34 | 35 => fa | _ => 0
  let ff : Nat → FuncData := fun i => match i with | 0 => PySem.W.fnOf "is_number" "is_number" (defArgs (top 7)) (defBody (top 7)) (defScope (top 7)) .none kV0 dc0 pm0 an0 cd0 ct0 | 1 => PySem.W.fnOf "check_number" "check_number" (defArgs (top 8)) (defBody (top 8)) (defScope (top 8)) .none kV1 dc1 pm1 an1 cd1 ct1 | 2 => PySem.W.fnOf "is_name" "is_name" (defArgs (top 14)) (defBody (top 14)) (defScope (top 14)) .none kV2 dc2 pm2 an2 cd2 ct2 | 3 => PySem.W.fnOf "is_cell" "is_cell" (defArgs (top 15)) (defBody (top 15)) (defScope (top 15)) .none kV3 dc3 pm3 an3 cd3 ct3 | 4 => PySem.W.fnOf "are_cells" "are_cells" (defArgs (top 16)) (defBody (top 16)) (defScope (top 16)) .none kV4 dc4 pm4 an4 cd4 ct4 | 5 => PySem.W.fnOf "name_cell" "name_cell" (defArgs (top 17)) (defBody (top 17)) (defScope (top 17)) .none kV5 dc5 pm5 an5 cd5 ct5 | 7 => PySem.W.fnOf "_letters_of" "_letters_of" (defArgs (top 19)) (defBody (top 19)) (defScope (top 19)) .none kV7 dc7 pm7 an7 cd7 ct7 | 6 => PySem.W.fnOf "name_of_cell" "name_of_cell" (defArgs (top 18)) (defBody (top 18)) (defScope (top 18)) .none kV6 dc6 pm6 an6 cd6 ct6 | 8 => PySem.W.fnOf "check_cells" "check_cells" (defArgs (top 24)) (defBody (top 24)) (defScope (top 24)) .none kV8 dc8 pm8 an8 cd8 ct8 | 9 => PySem.W.fnOf "_check_size" "_check_size" (defArgs (top 32)) (defBody (top 32)) (defScope (top 32)) .none kV9 dc9 pm9 an9 cd9 ct9 | 10 => PySem.W.fnOf "_is_root" "_is_root" (defArgs (top 33)) (defBody (top 33)) (defScope (top 33)) .none kV10 dc10 pm10 an10 cd10 ct10 | 11 => PySem.W.fnOf "_are_shots" "_are_shots" (defArgs (top 34)) (defBody (top 34)) (defScope (top 34)) .none kV11 dc11 pm11 an11 cd11 ct11 | 12 => PySem.W.fnOf "_fits" "_fits" (defArgs (top 35)) (defBody (top 35)) (defScope (top 35)) .none kV12 dc12 pm12 an12 cd12 ct12 | 13 => PySem.W.fnOf "_check_head" "_check_head" (defArgs (top 36)) (defBody (top 36)) (defScope (top 36)) .none kV13 dc13 pm13 an13 cd13 ct13 | 14 => PySem.W.fnOf "is_head" "is_head" (defArgs (top 37)) (defBody (top 37)) (defScope (top 37)) .none kV14 dc14 pm14 an14 cd14 ct14 | 16 => PySem.W.fnOf "_cells_of" "_cells_of" (defArgs (top 39)) (defBody (top 39)) (defScope (top 39)) .none kV16 dc16 pm16 an16 cd16 ct16 | 15 => PySem.W.fnOf "head_cells" "head_cells" (defArgs (top 38)) (defBody (top 38)) (defScope (top 38)) .none kV15 dc15 pm15 an15 cd15 ct15 | 17 => PySem.W.fnOf "_head_in" "_head_in" (defArgs (top 40)) (defBody (top 40)) (defScope (top 40)) .none kV17 dc17 pm17 an17 cd17 ct17 | 18 => PySem.W.fnOf "head_of" "head_of" (defArgs (top 41)) (defBody (top 41)) (defScope (top 41)) .none kV18 dc18 pm18 an18 cd18 ct18 | 19 => PySem.W.fnOf "next_head" "next_head" (defArgs (top 42)) (defBody (top 42)) (defScope (top 42)) .none kV19 dc19 pm19 an19 cd19 ct19 | 20 => PySem.W.fnOf "_law_chest" "_law_chest" (defArgs (top 44)) (defBody (top 44)) (defScope (top 44)) .none kV20 dc20 pm20 an20 cd20 ct20 | 21 => PySem.W.fnOf "_law_draw" "_law_draw" (defArgs (top 45)) (defBody (top 45)) (defScope (top 45)) .none kV21 dc21 pm21 an21 cd21 ct21 | 22 => PySem.W.fnOf "_law_take" "_law_take" (defArgs (top 46)) (defBody (top 46)) (defScope (top 46)) .none kV22 dc22 pm22 an22 cd22 ct22 | 23 => PySem.W.fnOf "_law_name_cell" "_law_name_cell" (defArgs (top 47)) (defBody (top 47)) (defScope (top 47)) .none kV23 dc23 pm23 an23 cd23 ct23 | 24 => PySem.W.fnOf "_law_cell_name" "_law_cell_name" (defArgs (top 48)) (defBody (top 48)) (defScope (top 48)) .none kV24 dc24 pm24 an24 cd24 ct24 | 25 => PySem.W.fnOf "_law_cells" "_law_cells" (defArgs (top 49)) (defBody (top 49)) (defScope (top 49)) .none kV25 dc25 pm25 an25 cd25 ct25 | 26 => PySem.W.fnOf "_law_is_cell" "_law_is_cell" (defArgs (top 50)) (defBody (top 50)) (defScope (top 50)) .none kV26 dc26 pm26 an26 cd26 ct26 | 27 => PySem.W.fnOf "_law_is_name" "_law_is_name" (defArgs (top 51)) (defBody (top 51)) (defScope (top 51)) .none kV27 dc27 pm27 an27 cd27 ct27 | 28 => PySem.W.fnOf "_law_is_head" "_law_is_head" (defArgs (top 52)) (defBody (top 52)) (defScope (top 52)) .none kV28 dc28 pm28 an28 cd28 ct28 | 29 => PySem.W.fnOf "_law_of_cells" "_law_of_cells" (defArgs (top 53)) (defBody (top 53)) (defScope (top 53)) .none kV29 dc29 pm29 an29 cd29 ct29 | 30 => PySem.W.fnOf "_law_head" "_law_head" (defArgs (top 54)) (defBody (top 54)) (defScope (top 54)) .none kV30 dc30 pm30 an30 cd30 ct30 | 31 => PySem.W.fnOf "_law_near" "_law_near" (defArgs (top 55)) (defBody (top 55)) (defScope (top 55)) .none kV31 dc31 pm31 an31 cd31 ct31 | 32 => PySem.W.fnOf "_law_other_cells" "_law_other_cells" (defArgs (top 56)) (defBody (top 56)) (defScope (top 56)) .none kV32 dc32 pm32 an32 cd32 ct32 | 33 => PySem.W.fnOf "_law_next" "_law_next" (defArgs (top 57)) (defBody (top 57)) (defScope (top 57)) .none kV33 dc33 pm33 an33 cd33 ct33 | 34 => PySem.W.fnOf "_law_right" "_law_right" (defArgs (top 58)) (defBody (top 58)) (defScope (top 58)) .none kV34 dc34 pm34 an34 cd34 ct34 | 35 => PySem.W.fnOf "law" "law" (defArgs (top 59)) (defBody (top 59)) (defScope (top 59)) .none kV35 dc35 pm35 an35 cd35 ct35 | _ => PySem.W.fnOf "law" "law" (defArgs (top 59)) (defBody (top 59)) (defScope (top 59)) .none kV35 dc35 pm35 an35 cd35 ct35
  let Ts : List (Addr × Str) := [(Pt34, (("_law_right" : Str) ++ ".<locals>." ++ "<lambda>")), (Pt35, (("law" : Str) ++ ".<locals>." ++ "<lambda>"))]
  let g : Gx := ⟨K, fun i => match i with | 50 => C50 | 51 => C51 | 52 => C52 | 53 => C53 | _ => 0, fun i => match i with | 50 => "given" | _ => "", Ts, fun _ _ => True, fun _ _ _ _ _ h => h⟩
  refine ⟨PySem.W.fnOf "law" "law" (defArgs (top 59)) (defBody (top 59)) (defScope (top 59)) .none kV35 dc35 pm35 an35 cd35 ct35, [(co34, Pt34), (co35, Pt35)], spLawT K 63 Ts, (tabs_cons (tab_there Tp X (has_of hq (List.Mem.head _)) (tab_in m34 l34 cq34 lq34 vq34)) tn34 (tabs_cons (tab_there Tp X (has_of hq (List.Mem.tail _ (List.Mem.head _))) (tab_in m35 l35 cq35 lq35 vq35)) tn35 tabs_nil)), fun s v => .of_eq rfl, fun H a ns hl hb tb sq => ⟨a, ns, rfl, hl, hb, sq, (List.forall_mem_cons.mpr ⟨tb (co34, Pt34) (List.Mem.head _), (List.forall_mem_cons.mpr ⟨tb (co35, Pt35) (List.Mem.tail _ (List.Mem.head _)), (fun _ z => nomatch z)⟩)⟩), fun _ => rfl⟩, fun base KB NB TB => ?_⟩
  have T : Txt g mg base aa ff := {
    c_MAX_NAME := ⟨_, PySem.W.mg_of X G q0, ⟨_, rfl⟩⟩
    c_LETTERS := ⟨_, PySem.W.mg_of X G q1, ⟨_, rfl⟩⟩
    c_MAX_CELL := ⟨_, PySem.W.mg_of X G q2, ⟨_, rfl⟩⟩
    c_BASE := ⟨_, PySem.W.mg_of X G q3, ⟨_, rfl⟩⟩
    c_MOST_CELLS := ⟨_, PySem.W.mg_of X G q4, ⟨_, rfl⟩⟩
    c_MOST_BLOCKS := ⟨_, PySem.W.mg_of X G q5, ⟨_, rfl⟩⟩
    c_LEAST_BLOCKS := ⟨_, PySem.W.mg_of X G q6, ⟨_, rfl⟩⟩
    c_HEADS := ⟨_, PySem.W.mg_of X G q7, ⟨_, rfl⟩⟩
    c_MAX_SHOTS := ⟨_, PySem.W.mg_of X G q8, ⟨_, rfl⟩⟩
    c_LEAST_HEAD := ⟨_, PySem.W.mg_of X G q9, ⟨_, rfl⟩⟩
    c_LEAST_SHELF := ⟨_, PySem.W.mg_of X G q10, ⟨_, rfl⟩⟩
    c_MAX_LOG := ⟨_, PySem.W.mg_of X G q11, ⟨_, rfl⟩⟩
    c_LEAST_LOG := ⟨_, PySem.W.mg_of X G q12, ⟨_, rfl⟩⟩
    b_isinstance := PySem.W.mg_none_of X G z0
    b_bool := PySem.W.mg_none_of X G z1
    b_int := PySem.W.mg_none_of X G z2
    b_len := PySem.W.mg_none_of X G z3
    b_str := PySem.W.mg_none_of X G z4
    b_all := PySem.W.mg_none_of X G z5
    b_tuple := PySem.W.mg_none_of X G z6
    b_range := PySem.W.mg_none_of X G z7
    b_min := PySem.W.mg_none_of X G z8
    b_abs := PySem.W.mg_none_of X G z9
    b_max := PySem.W.mg_none_of X G z10
    b_zip := PySem.W.mg_none_of X G z11
    b_sorted := PySem.W.mg_none_of X G z12
    b_set := PySem.W.mg_none_of X G z13
    b_list := PySem.W.mg_none_of X G z14
    f_is_number := F0
    n_is_number := F0.binds (ps := ["value", "low", "high"]) fun _ _ _ _ _ _ us hl => match us, hl with | [_, _, _], _ => rfl
    g_is_number := PySem.W.mg_of X G m0
    f_check_number := F1
    n_check_number := F1.binds (ps := ["value", "low", "high"]) fun _ _ _ _ _ _ us hl => match us, hl with | [_, _, _], _ => rfl
    g_check_number := PySem.W.mg_of X G m1
    f_is_name := F2
    n_is_name := F2.binds (ps := ["value"]) fun _ _ _ _ _ _ us hl => match us, hl with | [_], _ => rfl
    g_is_name := PySem.W.mg_of X G m2
    f_is_cell := F3
    n_is_cell := F3.binds (ps := ["value"]) fun _ _ _ _ _ _ us hl => match us, hl with | [_], _ => rfl
    g_is_cell := PySem.W.mg_of X G m3
    f_are_cells := F4
    n_are_cells := F4.binds (ps := ["value", "most"]) fun _ _ _ _ _ _ us hl => match us, hl with | [_, _], _ => rfl
    g_are_cells := PySem.W.mg_of X G m4
    f_name_cell := F5
    n_name_cell := F5.binds (ps := ["name"]) fun _ _ _ _ _ _ us hl => match us, hl with | [_], _ => rfl
    g_name_cell := PySem.W.mg_of X G m5
    f__letters_of := F7
    n__letters_of := F7.binds (ps := ["cell"]) fun _ _ _ _ _ _ us hl => match us, hl with | [_], _ => rfl
    g__letters_of := PySem.W.mg_of X G m7
    f_name_of_cell := F6
    n_name_of_cell := F6.binds (ps := ["cell"]) fun _ _ _ _ _ _ us hl => match us, hl with | [_], _ => rfl
    g_name_of_cell := PySem.W.mg_of X G m6
    f_check_cells := F8
    n_check_cells := F8.binds (ps := ["cells"]) fun _ _ _ _ _ _ us hl => match us, hl with | [_], _ => rfl
    g_check_cells := PySem.W.mg_of X G m8
    f__check_size := F9
    n__check_size := F9.binds (ps := ["size"]) fun _ _ _ _ _ _ us hl => match us, hl with | [_], _ => rfl
    g__check_size := PySem.W.mg_of X G m9
    f__is_root := F10
    n__is_root := F10.binds (ps := ["size", "log", "value"]) fun _ _ _ _ _ _ us hl => match us, hl with | [_, _, _], _ => rfl
    g__is_root := PySem.W.mg_of X G m10
    f__are_shots := F11
    n__are_shots := F11.binds (ps := ["size", "log", "value"]) fun _ _ _ _ _ _ us hl => match us, hl with | [_, _, _], _ => rfl
    g__are_shots := PySem.W.mg_of X G m11
    f__fits := F12
    n__fits := F12.binds (ps := ["size", "value"]) fun _ _ _ _ _ _ us hl => match us, hl with | [_, _], _ => rfl
    g__fits := PySem.W.mg_of X G m12
    f__check_head := F13
    n__check_head := F13.binds (ps := ["size", "head"]) fun _ _ _ _ _ _ us hl => match us, hl with | [_, _], _ => rfl
    g__check_head := PySem.W.mg_of X G m13
    f_is_head := F14
    n_is_head := F14.binds (ps := ["size", "value"]) fun _ _ _ _ _ _ us hl => match us, hl with | [_, _], _ => rfl
    g_is_head := PySem.W.mg_of X G m14
    f__cells_of := F16
    n__cells_of := F16.binds (ps := ["head"]) fun _ _ _ _ _ _ us hl => match us, hl with | [_], _ => rfl
    g__cells_of := PySem.W.mg_of X G m16
    f_head_cells := F15
    n_head_cells := F15.binds (ps := ["size", "head"]) fun _ _ _ _ _ _ us hl => match us, hl with | [_, _], _ => rfl
    g_head_cells := PySem.W.mg_of X G m15
    f__head_in := F17
    n__head_in := F17.binds (ps := ["size", "cells"]) fun _ _ _ _ _ _ us hl => match us, hl with | [_, _], _ => rfl
    g__head_in := PySem.W.mg_of X G m17
    f_head_of := F18
    n_head_of := F18.binds (ps := ["size", "cells"]) fun _ _ _ _ _ _ us hl => match us, hl with | [_, _], _ => rfl
    g_head_of := PySem.W.mg_of X G m18
    f_next_head := F19
    n_next_head := F19.binds (ps := ["size", "head", "number", "root", "shots"]) fun _ _ _ _ _ _ us hl => match us, hl with | [_, _, _, _, _], _ => rfl
    g_next_head := PySem.W.mg_of X G m19
    f__law_chest := F20
    n__law_chest := F20.binds (ps := ["script", "spot"]) fun _ _ _ _ _ _ us hl => match us, hl with | [_, _], _ => rfl
    g__law_chest := PySem.W.mg_of X G m20
    f__law_draw := F21
    n__law_draw := F21.binds (ps := ["chest", "total"]) fun _ _ _ _ _ _ us hl => match us, hl with | [_, _], _ => rfl
    g__law_draw := PySem.W.mg_of X G m21
    f__law_take := F22
    n__law_take := F22.binds (ps := ["chest", "items"]) fun _ _ _ _ _ _ us hl => match us, hl with | [_, _], _ => rfl
    g__law_take := PySem.W.mg_of X G m22
    f__law_name_cell := F23
    n__law_name_cell := F23.binds (ps := ["name"]) fun _ _ _ _ _ _ us hl => match us, hl with | [_], _ => rfl
    g__law_name_cell := PySem.W.mg_of X G m23
    f__law_cell_name := F24
    n__law_cell_name := F24.binds (ps := ["cell"]) fun _ _ _ _ _ _ us hl => match us, hl with | [_], _ => rfl
    g__law_cell_name := PySem.W.mg_of X G m24
    f__law_cells := F25
    n__law_cells := F25.binds (ps := ["head"]) fun _ _ _ _ _ _ us hl => match us, hl with | [_], _ => rfl
    g__law_cells := PySem.W.mg_of X G m25
    f__law_is_cell := F26
    n__law_is_cell := F26.binds (ps := ["value", "least", "most"]) fun _ _ _ _ _ _ us hl => match us, hl with | [_, _, _], _ => rfl
    g__law_is_cell := PySem.W.mg_of X G m26
    f__law_is_name := F27
    n__law_is_name := F27.binds (ps := ["value"]) fun _ _ _ _ _ _ us hl => match us, hl with | [_], _ => rfl
    g__law_is_name := PySem.W.mg_of X G m27
    f__law_is_head := F28
    n__law_is_head := F28.binds (ps := ["size", "value"]) fun _ _ _ _ _ _ us hl => match us, hl with | [_, _], _ => rfl
    g__law_is_head := PySem.W.mg_of X G m28
    f__law_of_cells := F29
    n__law_of_cells := F29.binds (ps := ["size", "cells"]) fun _ _ _ _ _ _ us hl => match us, hl with | [_, _], _ => rfl
    g__law_of_cells := PySem.W.mg_of X G m29
    f__law_head := F30
    n__law_head := F30.binds (ps := ["chest", "size", "turn"]) fun _ _ _ _ _ _ us hl => match us, hl with | [_, _, _], _ => rfl
    g__law_head := PySem.W.mg_of X G m30
    f__law_near := F31
    n__law_near := F31.binds (ps := ["chest", "size", "head"]) fun _ _ _ _ _ _ us hl => match us, hl with | [_, _, _], _ => rfl
    g__law_near := PySem.W.mg_of X G m31
    f__law_other_cells := F32
    n__law_other_cells := F32.binds (ps := ["chest", "cells"]) fun _ _ _ _ _ _ us hl => match us, hl with | [_, _], _ => rfl
    g__law_other_cells := PySem.W.mg_of X G m32
    f__law_next := F33
    n__law_next := F33.binds (ps := ["call"]) fun _ _ _ _ _ _ us hl => match us, hl with | [_], _ => rfl
    g__law_next := PySem.W.mg_of X G m33
    f__law_right := F34
    n__law_right := F34.binds (ps := ["chest"]) fun _ _ _ _ _ _ us hl => match us, hl with | [_], _ => rfl
    g__law_right := PySem.W.mg_of X G m34
    f_law := F35
    n_law := F35.binds (ps := ["script"]) fun _ _ _ _ _ _ us hl => match us, hl with | [_], _ => rfl
    g_law := PySem.W.mg_of X G m35
    l__law_right := ⟨co34, Pt34, cq34, TB (co34, Pt34) (List.Mem.head _), (List.Mem.head _), uniq_of (l := Ts) td (List.Mem.head _)⟩
    l_law := ⟨co35, Pt35, cq35, TB (co35, Pt35) (List.Mem.tail _ (List.Mem.head _)), (List.Mem.tail _ (List.Mem.head _)), uniq_of (l := Ts) td (List.Mem.tail _ (List.Mem.head _))⟩
    gx_InvalidNumber := PySem.W.mg_of X G aX50
    kx_InvalidNumber := kx50
    bx_InvalidNumber := bx50
    tx_InvalidNumber := tx50
    gx_InvalidName := PySem.W.mg_of X G aX51
    kx_InvalidName := kx51
    qx_InvalidName := qx51
    bx_InvalidName := bx51
    tx_InvalidName := tx51
    gx_InvalidBlock := PySem.W.mg_of X G aX52
    kx_InvalidBlock := kx52
    qx_InvalidBlock := qx52
    bx_InvalidBlock := bx52
    tx_InvalidBlock := tx52
    gx_InvalidOperation := PySem.W.mg_of X G aX53
    kx_InvalidOperation := kx53
    qx_InvalidOperation := qx53
    bx_InvalidOperation := bx53
    tx_InvalidOperation := tx53
    lo_InvalidNumber := ⟨fi50, PySem.W.mg_of X G aX50, ⟨nm50, qn50, N50, bs50, bm50, sn50, sub50, ab50, col50, dd50, ma50, mb50, mc50, md50, me50, xL50, hct50, hbm50⟩, sx50, ga50, gg50, nb50, ia50, it50, kx50, bx50, tx50, hx50, exm_mk bx50 ix50 tx50 xs_50_50, ⟨_, _, _, _, _, _, _, _, _, _, _, _, _, _, il50, ic50⟩⟩
    fl_InvalidNumber := rfl
    xf_InvalidNumber := ⟨ga50, gg50, bx50, hx50⟩
    xn_InvalidNumber := nb50
    xm := by
      intro c hc k hk
      simp only [clsV, errsV, List.mem_cons, List.not_mem_nil, or_false] at hc hk
      rcases hc with rfl <;> rcases hk with rfl | rfl | rfl | rfl
      · exact exm_mk bx53 ix53 tx53 xs_50_53
      · exact exm_mk bx53 ix53 tx53 xs_51_53
      · exact exm_mk bx53 ix53 tx53 xs_52_53
      · exact exm_mk bx53 ix53 tx53 xs_53_53
  }
  exact (ok_law T).weaken fun vs H Q E h => promiseT right g (fun _ _ => trivial) vs H Q E h
theorem walk {l : PySem.W.OpenLaw} {q : Program} {loose : List Str} {XP : (Str → Option Value) → Heap → Prop} {YP : World → Heap → Prop} {d : DefRec} {K : Params → PySem.W.Frag} (hn : l.most = some 63) (plain : d.params.defaults = []) (known : ∀ (w : World) (h : Heap), YP w h → (K w.params).In h)
    (F : ∀ (w : World) (mean : ExcName → Option Value) (mg mb : Str → Option Value) (fa : Addr) (h : Heap), Top q (PySem.W.looseW q loose) mean mg mb h → (K w.params).In h → h.Ns mainGlobals mg → mg d.name = some (.ref fa) → LawThere l w (K w.params) 10 63 "script" mg fa h) :
    PySem.W.WalkO q loose XP YP l.row.toRowW d [] (fun f vs => PySem.call f vs) :=
  walk_endT (n := 63) (k := 10) (x := "script") hn (by decide) plain ⟨rfl, by decide, by decide⟩ known F

end V
open PySem PySem.W PyProof.Rows
set_option maxRecDepth 100000 in
set_option maxHeartbeats 0 in
theorem PySem.Challenge.cw_everycut_k51_whole_heads_and_their_cells_holds : PySem.Challenge.rw_everycut_k51_whole_heads_and_their_cells.Holds := by
  w_on; o_law; k_head; (case hw => w_witness2)
  k_fill
  refine V.walk (l := PySem.Challenge.rw_everycut_k51_whole_heads_and_their_cells) rfl rfl (fun w h Y => by first | exact PySem.W.kIn_of Y | exact PySem.W.km_in_of Y) ?F
  case F =>
    intro w mean mg mb fa h Tp KX G hmg
    refine' V.all_mk V.right KX Tp G hmg ?hq ?aX50 ?aX51 ?aX52 ?aX53 ?q0 ?q1 ?q2 ?q3 ?q4 ?q5 ?q6 ?q7 ?q8 ?q9 ?q10 ?q11 ?q12 ?m0 ?l0 ?c0 ?k0 ?m1 ?l1 ?c1 ?k1 ?m2 ?l2 ?c2 ?k2 ?m3 ?l3 ?c3 ?k3 ?m4 ?l4 ?c4 ?k4 ?m5 ?l5 ?c5 ?k5 ?m7 ?l7 ?c7 ?k7 ?m6 ?l6 ?c6 ?k6 ?m8 ?l8 ?c8 ?k8 ?m9 ?l9 ?c9 ?k9 ?m10 ?l10 ?c10 ?k10 ?m11 ?l11 ?c11 ?k11 ?m12 ?l12 ?c12 ?k12 ?m13 ?l13 ?c13 ?k13 ?m14 ?l14 ?c14 ?k14 ?m16 ?l16 ?c16 ?k16 ?m15 ?l15 ?c15 ?k15 ?m17 ?l17 ?c17 ?k17 ?m18 ?l18 ?c18 ?k18 ?m19 ?l19 ?c19 ?k19 ?m20 ?l20 ?c20 ?k20 ?m21 ?l21 ?c21 ?k21 ?m22 ?l22 ?c22 ?k22 ?m23 ?l23 ?c23 ?k23 ?m24 ?l24 ?c24 ?k24 ?m25 ?l25 ?c25 ?k25 ?m26 ?l26 ?c26 ?k26 ?m27 ?l27 ?c27 ?k27 ?m28 ?l28 ?c28 ?k28 ?m29 ?l29 ?c29 ?k29 ?m30 ?l30 ?c30 ?k30 ?m31 ?l31 ?c31 ?k31 ?m32 ?l32 ?c32 ?k32 ?m33 ?l33 ?c33 ?k33 ?m34 ?l34 ?c34 ?k34 ?m35 ?l35 ?c35 ?k35 ?kx50 ?bx50 ?tx50 ?kx51 ?qx51 ?bx51 ?tx51 ?kx52 ?qx52 ?bx52 ?tx52 ?kx53 ?qx53 ?bx53 ?tx53 ?z0 ?z1 ?z2 ?z3 ?z4 ?z5 ?z6 ?z7 ?z8 ?z9 ?z10 ?z11 ?z12 ?z13 ?z14 ?cq34 ?lq34 ?vq34 ?tn34 ?cq35 ?lq35 ?vq35 ?tn35 ?td ?xL50 ?hct50 ?hbm50 ?sx50 ?ga50 ?gg50 ?nb50 ?ia50 ?it50 ?il50 ?ic50 ?hx50 ?ix53 ?ix50 ?xs_50_53 ?xs_51_53 ?xs_52_53 ?xs_53_53 ?xs_50_50
    (case hq => kernel_rfl)
    (case aX50 => k_is)
    (case aX51 => k_is)
    (case aX52 => k_is)
    (case aX53 => k_is)
    (case q0 => k_is)
    (case q1 => k_is)
    (case q2 => k_is)
    (case q3 => k_is)
    (case q4 => k_is)
    (case q5 => k_is)
    (case q6 => k_is)
    (case q7 => k_is)
    (case q8 => k_is)
    (case q9 => k_is)
    (case q10 => k_is)
    (case q11 => k_is)
    (case q12 => k_is)
    (case m0 => k_is)
    (case l0 => k_is)
    (case c0 => k_is)
    (case k0 => k_is)
    (case m1 => k_is)
    (case l1 => k_is)
    (case c1 => k_is)
    (case k1 => k_is)
    (case m2 => k_is)
    (case l2 => k_is)
    (case c2 => k_is)
    (case k2 => k_is)
    (case m3 => k_is)
    (case l3 => k_is)
    (case c3 => k_is)
    (case k3 => k_is)
    (case m4 => k_is)
    (case l4 => k_is)
    (case c4 => k_is)
    (case k4 => k_is)
    (case m5 => k_is)
    (case l5 => k_is)
    (case c5 => k_is)
    (case k5 => k_is)
    (case m7 => k_is)
    (case l7 => k_is)
    (case c7 => k_is)
    (case k7 => k_is)
    (case m6 => k_is)
    (case l6 => k_is)
    (case c6 => k_is)
    (case k6 => k_is)
    (case m8 => k_is)
    (case l8 => k_is)
    (case c8 => k_is)
    (case k8 => k_is)
    (case m9 => k_is)
    (case l9 => k_is)
    (case c9 => k_is)
    (case k9 => k_is)
    (case m10 => k_is)
    (case l10 => k_is)
    (case c10 => k_is)
    (case k10 => k_is)
    (case m11 => k_is)
    (case l11 => k_is)
    (case c11 => k_is)
    (case k11 => k_is)
    (case m12 => k_is)
    (case l12 => k_is)
    (case c12 => k_is)
    (case k12 => k_is)
    (case m13 => k_is)
    (case l13 => k_is)
    (case c13 => k_is)
    (case k13 => k_is)
    (case m14 => k_is)
    (case l14 => k_is)
    (case c14 => k_is)
    (case k14 => k_is)
    (case m16 => k_is)
    (case l16 => k_is)
    (case c16 => k_is)
    (case k16 => k_is)
    (case m15 => k_is)
    (case l15 => k_is)
    (case c15 => k_is)
    (case k15 => k_is)
    (case m17 => k_is)
    (case l17 => k_is)
    (case c17 => k_is)
    (case k17 => k_is)
    (case m18 => k_is)
    (case l18 => k_is)
    (case c18 => k_is)
    (case k18 => k_is)
    (case m19 => k_is)
    (case l19 => k_is)
    (case c19 => k_is)
    (case k19 => k_is)
    (case m20 => k_is)
    (case l20 => k_is)
    (case c20 => k_is)
    (case k20 => k_is)
    (case m21 => k_is)
    (case l21 => k_is)
    (case c21 => k_is)
    (case k21 => k_is)
    (case m22 => k_is)
    (case l22 => k_is)
    (case c22 => k_is)
    (case k22 => k_is)
    (case m23 => k_is)
    (case l23 => k_is)
    (case c23 => k_is)
    (case k23 => k_is)
    (case m24 => k_is)
    (case l24 => k_is)
    (case c24 => k_is)
    (case k24 => k_is)
    (case m25 => k_is)
    (case l25 => k_is)
    (case c25 => k_is)
    (case k25 => k_is)
    (case m26 => k_is)
    (case l26 => k_is)
    (case c26 => k_is)
    (case k26 => k_is)
    (case m27 => k_is)
    (case l27 => k_is)
    (case c27 => k_is)
    (case k27 => k_is)
    (case m28 => k_is)
    (case l28 => k_is)
    (case c28 => k_is)
    (case k28 => k_is)
    (case m29 => k_is)
    (case l29 => k_is)
    (case c29 => k_is)
    (case k29 => k_is)
    (case m30 => k_is)
    (case l30 => k_is)
    (case c30 => k_is)
    (case k30 => k_is)
    (case m31 => k_is)
    (case l31 => k_is)
    (case c31 => k_is)
    (case k31 => k_is)
    (case m32 => k_is)
    (case l32 => k_is)
    (case c32 => k_is)
    (case k32 => k_is)
    (case m33 => k_is)
    (case l33 => k_is)
    (case c33 => k_is)
    (case k33 => k_is)
    (case m34 => k_is)
    (case l34 => k_is)
    (case c34 => k_is)
    (case k34 => k_is)
    (case m35 => k_is)
    (case l35 => k_is)
    (case c35 => k_is)
    (case k35 => k_is)
    (case kx50 => k_is)
    (case bx50 => k_is)
    (case tx50 => k_is)
    (case kx51 => k_is)
    (case qx51 => k_exc)
    (case bx51 => k_is)
    (case tx51 => k_is)
    (case kx52 => k_is)
    (case qx52 => k_exc)
    (case bx52 => k_is)
    (case tx52 => k_is)
    (case kx53 => k_is)
    (case qx53 => k_exc)
    (case bx53 => k_is)
    (case tx53 => k_is)
    (case z0 => k_is)
    (case z1 => k_is)
    (case z2 => k_is)
    (case z3 => k_is)
    (case z4 => k_is)
    (case z5 => k_is)
    (case z6 => k_is)
    (case z7 => k_is)
    (case z8 => k_is)
    (case z9 => k_is)
    (case z10 => k_is)
    (case z11 => k_is)
    (case z12 => k_is)
    (case z13 => k_is)
    (case z14 => k_is)
    (case cq34 => exact rfl)
    (case lq34 => k_is)
    (case vq34 => first | exact rfl | kernel_rfl)
    (case tn34 => first | k_is | kernel_rfl)
    (case cq35 => exact rfl)
    (case lq35 => k_is)
    (case vq35 => first | exact rfl | kernel_rfl)
    (case tn35 => first | k_is | kernel_rfl)
    (case xL50 => k_is)
    (case sx50 => k_is)
    (case ga50 => k_is)
    (case gg50 => k_is)
    (case nb50 => k_is)
    (case ia50 => k_is)
    (case it50 => k_is)
    (case il50 => k_is)
    (case ic50 => k_is)
    (case hx50 => k_is)
    (case ix53 => k_is)
    (case ix50 => k_is)
    (case xs_50_53 => k_is)
    (case xs_51_53 => k_is)
    (case xs_52_53 => k_is)
    (case xs_53_53 => k_is)
    (case xs_50_50 => k_is)
    (case td => decide)
    (case hct50 => exact fun _ => rfl)
    (case hbm50 => exact PySem.RfX.mro_index)

