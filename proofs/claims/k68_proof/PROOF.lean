import PyProof.Rows.All
import Wide.All
import OpenK.AllK
import Wide.FinOn
import HandS.ForMost
import HandS.ForExc
import KE.KeyNested
import HandS.Strs
import HandS.Lambda
import HandS.IsInst
import HandS.TupAny
import HandS.Deep
import HandS.Zip
import HandS.SortInts
import HandS.Conv
import HandS.TupLen
import HandS.Wide
import KE.GoesMore
import PyProof.Draws
import HandS.Style
import PyProof.Rows.TupDisplay
import HandS.Defaults
import HandS.CallSlots
import KE.KFromBytes
import HandS.Base
import HandS.Call
import HandS.List
import HandS.More
import KE.LtData
import HandS.DictComp
import KE.GoesEnumKw
import HandS.SetFor
import HandS.SetBool
import HandS.EndTab
import KE.KNestM
import HandS.TupMul
import PyProof.Rows.SumAny
import HandS.ListItems
import KE.KDictSum
import KE.KDictWalk
import PyProof.ConsumeWalk
import HandS.ExcInit
import HandS.ExcSuper
import HandS.ExcField
import HandS.ExcIs
import HandS.TryOnly
import HandS.FStr
import KE.KSuper
import KE.KExcSuper
import KE.RegKSuper
import KE.DataMinKey
import HandS.SetKeys
import PyProof.ZipIter
import HandS.RevTup
import PyProof.SeqIndex
import KE.DataMinMax
import KE.KLam
import KE.KCount
import PySem.Challenge.RW_toldwhat_k68_upper_layers_refused
set_option Elab.async false
set_option linter.all false
set_option maxRecDepth 100000
set_option maxHeartbeats 8000000
/-! AB: an abstract machine over the hand layer: values are trees, lists and dicts stand in a store by number. -/
namespace AB
open PySem PySem.Spec PyProof.Rows L2
inductive A where
  | non | bl (b : Bool) | int (i : Int) | str (x : Str) | tup (xs : List A) | lst (l : Nat) | dct (l : Nat) | ty (n : String) | obj (l : Nat) | rng (lo hi : Int) | ftp (xs : List A)
inductive Cell where
  | lst (xs : List A) | frz (xs : List A) | dK (kvs : List (Key × A)) | dT (kvs : List (List Key × A)) | dN (kvs : List (NestedKey × A)) | st (xs : List Int) | obj | xd (fs : List (Str × A)) | fk (kvs : List (Key × A)) | fT (kvs : List (List Key × A)) | ins (C : Str) (fs : List (Str × A))
abbrev Store := List Cell
structure Exn where
  name : Str
  dct : Option Nat
inductive EO (α : Type) where
  | ok (a : α) (M : Store) | ex (e : Exn) (M : Store) | bad
def EO.bind {α β : Type} (x : EO α) (g : α → Store → EO β) : EO β := match x with
  | .ok a M => g a M
  | .ex e M => .ex e M
  | .bad => .bad
abbrev Sl := List (Option A)
abbrev EF := Sl → Store → EO A
abbrev EFs := Sl → Store → EO (List A)
abbrev EFb := Sl → Store → EO Bool
/-! ### the relation -/
mutual
inductive Is (ρ : List Addr) (H : Hp) : A → V → Prop
  | non : Is ρ H .non .non
  | bl (b : Bool) : Is ρ H (.bl b) (.bl b)
  | int (i : Int) : Is ρ H (.int i) (.int i)
  | str (x : Str) : Is ρ H (.str x) (.str x)
  | tup {a : Addr} {ts : List A} {vs : List V} : H a = some (.tup vs) → IsAll ρ H ts vs → Is ρ H (.tup ts) (.ref a)
  | lst {i : Nat} {a : Addr} : ρ[i]? = some a → Is ρ H (.lst i) (.ref a)
  | dct {i : Nat} {a : Addr} : ρ[i]? = some a → Is ρ H (.dct i) (.ref a)
  | ty (n : String) : Is ρ H (.ty n) (.ty n)
  | obj {i : Nat} {a : Addr} : ρ[i]? = some a → Is ρ H (.obj i) (.ref a)
  | rng {lo hi : Int} {a : Addr} : H a = some (.rng lo hi) → Is ρ H (.rng lo hi) (.ref a)
  | ftp {a : Addr} {ts : List A} {vs : List V} {ob : Obj} : H a = some (.frz ob (.tup vs)) → ob.cls = .type "tuple" → ob.dict = none → IsAll ρ H ts vs → Is ρ H (.ftp ts) (.ref a)
inductive IsAll (ρ : List Addr) (H : Hp) : List A → List V → Prop
  | nil : IsAll ρ H [] []
  | cons {t : A} {v : V} {ts : List A} {vs : List V} : Is ρ H t v → IsAll ρ H ts vs → IsAll ρ H (t :: ts) (v :: vs)
end
def Ext (ρ ρ' : List Addr) : Prop := ∃ t, ρ' = ρ ++ t
/-- what never changes -/
inductive Imm : HO → Prop where
  | frz (ob u) : Imm (.frz ob u)
  | tup (xs) : Imm (.tup xs)
  | rng (a b) : Imm (.rng a b)
  | own (x) : Imm (.own x)
  | code (c : Addr) (q : Str) : Imm (LamX.CodeO c q)
def Grow (H H' : Hp) : Prop := ∀ a u, Imm u → H a = some u → H' a = some u
theorem Ext.refl (ρ : List Addr) : Ext ρ ρ := ⟨[], by simp⟩
theorem Ext.trans {a b c : List Addr} (x : Ext a b) (y : Ext b c) : Ext a c := by
  obtain ⟨t, rfl⟩ := x
  obtain ⟨u, rfl⟩ := y
  exact ⟨t ++ u, by simp⟩
theorem Ext.get {ρ ρ' : List Addr} (x : Ext ρ ρ') {i : Nat} {a : Addr} (h : ρ[i]? = some a) : ρ'[i]? = some a := by
  obtain ⟨t, rfl⟩ := x
  have hi : i < ρ.length := (List.getElem?_eq_some_iff.mp h).1
  rw [List.getElem?_append_left hi]; exact h
theorem Ext.snoc (ρ : List Addr) (p : Addr) : Ext ρ (ρ ++ [p]) := ⟨[p], rfl⟩
theorem Grow.refl (H : Hp) : Grow H H := fun _ _ _ h => h
theorem Grow.trans {a b c : Hp} (x : Grow a b) (y : Grow b c) : Grow a c := fun p xs i h => y p xs i (x p xs i h)
theorem Grow.upd {H : Hp} {p : Addr} {o : HO} (h : ∀ u, Imm u → H p ≠ some u) : Grow H (upd H p o) := fun a xs i e => by
  have : a ≠ p := fun z => by subst z; exact h _ i e
  rw [upd_ne this]; exact e
theorem Grow.new {H : Hp} {p : Addr} {o : HO} (h : H p = none) : Grow H (L2.upd H p o) := Grow.upd (fun xs _ e => by rw [h] at e; cases e)
mutual
theorem Is.mono {ρ ρ' : List Addr} {H H' : Hp} (x : Ext ρ ρ') (g : Grow H H') : ∀ {t : A} {v : V}, Is ρ H t v → Is ρ' H' t v
  | _, _, .non => .non
  | _, _, .bl b => .bl b
  | _, _, .int i => .int i
  | _, _, .str s => .str s
  | _, _, .tup h r => .tup (g _ _ (.tup _) h) (IsAll.mono x g r)
  | _, _, .lst h => .lst (x.get h)
  | _, _, .dct h => .dct (x.get h)
  | _, _, .ty n => .ty n
  | _, _, .obj h => .obj (x.get h)
  | _, _, .rng h => .rng (g _ _ (.rng _ _) h)
  | _, _, .ftp h c d r => .ftp (g _ _ (.frz _ _) h) c d (IsAll.mono x g r)
theorem IsAll.mono {ρ ρ' : List Addr} {H H' : Hp} (x : Ext ρ ρ') (g : Grow H H') : ∀ {ts : List A} {vs : List V}, IsAll ρ H ts vs → IsAll ρ' H' ts vs
  | _, _, .nil => .nil
  | _, _, .cons r rs => .cons (Is.mono x g r) (IsAll.mono x g rs)
end
section
variable {ρ : List Addr} {H : Hp}
theorem IsAll.length : ∀ {ts : List A} {vs : List V}, IsAll ρ H ts vs → ts.length = vs.length
  | _, _, .nil => rfl
  | _, _, .cons _ r => by simp [IsAll.length r]
theorem IsAll.append : ∀ {ts us : List A} {vs ws : List V}, IsAll ρ H ts vs → IsAll ρ H us ws → IsAll ρ H (ts ++ us) (vs ++ ws)
  | _, _, _, _, .nil, s => s
  | _, _, _, _, .cons r t, s => .cons r (IsAll.append t s)
theorem IsAll.get : ∀ {ts : List A} {vs : List V} {i : Nat} {t : A}, IsAll ρ H ts vs → ts[i]? = some t → ∃ v, vs[i]? = some v ∧ Is ρ H t v
  | _, _, _, _, .nil, e => by simp at e
  | _, _, 0, _, .cons r _, e => by simp at e; subst e; exact ⟨_, rfl, r⟩
  | _, _, i + 1, _, .cons _ r, e => by
    obtain ⟨v, h1, h2⟩ := IsAll.get (i := i) r (by simpa using e)
    exact ⟨v, by simpa using h1, h2⟩
theorem IsAll.take : ∀ {ts : List A} {vs : List V} (n : Nat), IsAll ρ H ts vs → IsAll ρ H (ts.take n) (vs.take n)
  | _, _, 0, _ => by simpa using IsAll.nil
  | _, _, _ + 1, .nil => by simpa using IsAll.nil
  | _, _, n + 1, .cons r t => by simpa using IsAll.cons r (IsAll.take n t)
theorem IsAll.drop : ∀ {ts : List A} {vs : List V} (n : Nat), IsAll ρ H ts vs → IsAll ρ H (ts.drop n) (vs.drop n)
  | _, _, 0, r => by simpa using r
  | _, _, _ + 1, .nil => by simpa using IsAll.nil
  | _, _, n + 1, .cons _ t => by simpa using IsAll.drop n t
theorem IsAll.reverse : ∀ {ts : List A} {vs : List V}, IsAll ρ H ts vs → IsAll ρ H ts.reverse vs.reverse
  | _, _, .nil => .nil
  | _, _, .cons r t => by
    rw [List.reverse_cons, List.reverse_cons]
    exact IsAll.append (IsAll.reverse t) (.cons r .nil)
theorem IsAll.set {t : A} {v : V} (r : Is ρ H t v) : ∀ {ts : List A} {vs : List V} (i : Nat), IsAll ρ H ts vs → IsAll ρ H (ts.set i t) (vs.set i v)
  | _, _, _, .nil => by simpa using IsAll.nil
  | _, _, 0, .cons _ s => .cons r s
  | _, _, i + 1, .cons q s => .cons q (IsAll.set r i s)
theorem IsAll.ints : ∀ {vs : List V} {is : List Int}, IsAll ρ H (is.map A.int) vs → vs = is.map V.int
  | _, [], .nil => rfl
  | _, i :: is, .cons r t => by
    cases r
    rw [IsAll.ints t]; rfl
end
/-- the world and what the top has written -/
abbrev Tbl := List (Addr × Str)
structure Amb where
  wd : World
  K : PySem.W.Frag
  mg : Str → Option Value
  Tb : Tbl
/-- what a text's top and world are -/
structure Gx where
  mg : Str → Option Value
  w : Amb
abbrev _root_.L2.Cx.am (X : Cx) (Tb : Tbl) : Amb := ⟨X.w, X.K, X.mg, Tb⟩
abbrev _root_.L2.Cx.gx (X : Cx) (Tb : Tbl) : Gx := ⟨X.mg, X.am Tb⟩
/-- a wish; where the tables are; what stood at the frame's beginning -/
structure WR where
  w : WX
  Tb : Tbl
  r : List Addr
  h : Hp
instance : CoeFun WR (fun _ => Value → Option Addr → L2.St → Hp → Prop) := ⟨WR.w⟩
/-- .. nothing may be raised -/
abbrev WR.nx (W : WR) : WR := ⟨fun _ _ _ _ => False, W.Tb, W.r, W.h⟩
def Cell.isM : Cell → Bool
  | .frz _ => false
  | .obj => false
  | .fk _ => false
  | .fT _ => false
  | _ => true
def Cell.isF : Cell → Bool
  | .fk _ => true
  | .fT _ => true
  | _ => false
/-- a key, as a value -/
def ofN : NestedKey → A
  | .none => .non
  | .num i => .int i
  | .text x => .str x
  | .tup ks => .tup (ofNs ks)
where ofNs : List NestedKey → List A
  | [] => []
  | k :: ks => ofN k :: ofNs ks
/-- a dict whose keys are tuples of anything: its keys with their places -/
def nestO (w : World) (a : Addr) (ks : List (NestedKey × Addr)) (vs : List V) : HO := .ext fun h => ks.length ≤ sizeLine ∧ (a == sysModules) = false ∧ ks.length = vs.length ∧ (ks.map (·.1)).Nodup ∧
  ∃ us : List Value, Vals vs us ∧ ∃ o es ep, h.get? a = some o ∧ o.ExactDict ∧ o.data = .dict es ep ∧ es.toList = (ks.zip us).map fun p => { hash := p.1.1.hash w, key := .ref p.1.2, val := p.2 }
/-- a list of the written part -/
def FrK (w : Amb) (a : Addr) (vs : List V) : Prop := ∃ (o : Obj) (its : Array Value) (n : Nat), w.K.lookup a = some o ∧ o.cls = .type "list" ∧ o.dict = none ∧ o.data = .seq its n ∧ its.size ≤ sizeLine ∧ Vals vs its.toList
/-- a cell as it lies at its address -/
def RC (w : Amb) (ρ : List Addr) (H : Hp) (a : Addr) : Cell → Prop
  | .lst xs => ∃ vs, H a = some (.lst vs) ∧ IsAll ρ H xs vs
  | .frz xs => ∃ vs, (((∃ o, H a = some (.frz o (.lst vs))) ∨ H a = some (.lst vs)) ∨ FrK w a vs) ∧ IsAll ρ H xs vs
  | .dK kvs => ∃ vs, H a = some (.dK ((kvs.map (·.1)).zip vs)) ∧ IsAll ρ H (kvs.map (·.2)) vs
  | .dT kvs => ∃ vs, H a = some (.dT ((kvs.map (·.1)).zip vs)) ∧ IsAll ρ H (kvs.map (·.2)) vs
  | .dN kvs => ∃ bs vs, H a = some (nestO w.wd a ((kvs.map (·.1)).zip bs) vs) ∧ IsAll ρ H (kvs.map fun kv => ofN kv.1) (bs.map V.ref) ∧ IsAll ρ H (kvs.map (·.2)) vs ∧ ∀ kv ∈ kvs, kv.1.depth ≤ 8
  | .st xs => ∃ S : Int → Bool, H a = some (SetO w.wd a S xs.length) ∧ (∀ k, S k = decide (k ∈ xs))
  | .obj => True
  | .xd fs => ∃ vs, H a = some (.xd ((fs.map (·.1)).zip vs)) ∧ IsAll ρ H (fs.map (·.2)) vs
  | .fk kvs => ∃ (od : Obj) (vs : List V), H a = some (.frz od (.dK ((kvs.map (·.1)).zip vs))) ∧ IsAll ρ H (kvs.map (·.2)) vs
  | .fT kvs => ∃ (od : Obj) (vs : List V), H a = some (.frz od (.dT ((kvs.map (·.1)).zip vs))) ∧ IsAll ρ H (kvs.map (·.2)) vs
  | .ins C fs => ∃ (Ca dx : Addr) (vs : List V), w.mg C = some (.ref Ca) ∧ H a = some (.ins Ca dx ((fs.map (·.1)).zip vs)) ∧ H dx = some (.own a) ∧ IsAll ρ H (fs.map (·.2)) vs
/-! ### code objects stand apart -/
/-- whatever is not a record is none of the code objects -/
theorem ext_ne_code {φ : Heap → Prop} {a c : Addr} {q : Str} (hφ : ∀ h, φ h → ∃ o, h.get? a = some o ∧ ∀ vs, o.data ≠ .fields vs) : HO.ext φ ≠ LamX.CodeO c q := fun z => by
  unfold LamX.CodeO at z
  have z := HO.ext.inj z
  let ob : Obj := { cls := .none, data := .fields #[.none, .str q 0] }
  let h : Heap := { objs := Array.replicate (c + 1) ob }
  have all : ∀ (b : Addr) (o : Obj), h.get? b = some o → o = ob := fun b o e => by
    have e := (Heap.get?_some_iff.mp e).1
    rw [show h.objs = Array.replicate (c + 1) ob from rfl, Array.getElem?_replicate] at e
    split at e
    · exact (Option.some.inj e).symm
    · cases e
  have at_c : h.get? c = some ob := Heap.get?_some_iff.mpr ⟨by rw [show h.objs = Array.replicate (c + 1) ob from rfl, Array.getElem?_replicate, if_pos (Nat.lt_succ_self c)], rfl⟩
  have hc : (fun h : Heap => ∃ (oc : Obj) (vs : Array Value) (t : Tok), h.get? c = some oc ∧ oc.data = .fields vs ∧ vs[1]? = some (.str q t)) h :=
    ⟨ob, _, 0, at_c, rfl, rfl⟩
  rw [← z] at hc
  obtain ⟨o, ho, hn⟩ := hφ _ hc
  have := all _ _ ho
  subst this
  exact hn _ rfl
structure RM (w : Amb) (ρ : List Addr) (H : Hp) (M : Store) : Prop where
  len : ρ.length = M.length
  nd : ∀ (i j : Nat) (a : Addr) (c d : Cell), ρ[i]? = some a → ρ[j]? = some a → M[i]? = some c → M[j]? = some d → c.isM = true → d.isM = true → i = j
  at_ : ∀ (i : Nat) (a : Addr) (c : Cell), ρ[i]? = some a → M[i]? = some c → RC w ρ H a c
  tabs : LamX.Tabs w.Tb H
  fz : ∀ (i j : Nat) (a : Addr) (c : Cell) (xs : List A), ρ[i]? = some a → ρ[j]? = some a → M[i]? = some c → M[j]? = some (.frz xs) → c.isM = true → ∃ vs, FrK w a vs ∧ IsAll ρ H xs vs
  fu : ∀ (i j : Nat) (a : Addr) (c d : Cell), ρ[i]? = some a → ρ[j]? = some a → M[i]? = some c → M[j]? = some d → c.isF = true → d.isF = true → i = j
inductive RS0 (ρ : List Addr) (H : Hp) : Sl → L2.St → Prop
  | nil : RS0 ρ H [] []
  | no {t : Sl} {s : L2.St} {v : Option V} : RS0 ρ H t s → RS0 ρ H (none :: t) (v :: s)
  | yes {t : Sl} {s : L2.St} {a : A} {v : V} : Is ρ H a v → RS0 ρ H t s → RS0 ρ H (some a :: t) (some v :: s)
/-- the slots, behind what stood at the frame's beginning -/
structure RS (W : WR) (ρ : List Addr) (H : Hp) (τ : Sl) (σ : L2.St) : Prop where
  ext : Ext W.r ρ
  grow : Grow W.h H
  s : RS0 ρ H τ σ
section
variable {ρ ρ' : List Addr} {H H' : Hp}
theorem RS0.mono (x : Ext ρ ρ') (g : Grow H H') : ∀ {t : Sl} {s : L2.St}, RS0 ρ H t s → RS0 ρ' H' t s
  | _, _, .nil => .nil
  | _, _, .no r => .no (RS0.mono x g r)
  | _, _, .yes i r => .yes (i.mono x g) (RS0.mono x g r)
theorem RS0.length : ∀ {t : Sl} {s : L2.St}, RS0 ρ H t s → t.length = s.length
  | _, _, .nil => rfl
  | _, _, .no r => by simp [RS0.length r]
  | _, _, .yes _ r => by simp [RS0.length r]
theorem RS0.get : ∀ {t : Sl} {s : L2.St} {i : Nat} {a : A}, RS0 ρ H t s → t[i]? = some (some a) → ∃ v, s[i]? = some (some v) ∧ Is ρ H a v
  | _, _, _, _, .nil, e => by simp at e
  | _, _, 0, _, .no _, e => by simp at e
  | _, _, i + 1, _, .no r, e => by
    obtain ⟨v, h1, h2⟩ := RS0.get (i := i) r (by simpa using e)
    exact ⟨v, by simpa using h1, h2⟩
  | _, _, 0, _, .yes h _, e => by simp at e; subst e; exact ⟨_, rfl, h⟩
  | _, _, i + 1, _, .yes _ r, e => by
    obtain ⟨v, h1, h2⟩ := RS0.get (i := i) r (by simpa using e)
    exact ⟨v, by simpa using h1, h2⟩
theorem RS0.set {a : A} {v : V} (h : Is ρ H a v) : ∀ {t : Sl} {s : L2.St} (i : Nat), RS0 ρ H t s → RS0 ρ H (t.set i (some a)) (s.set i (some v))
  | _, _, _, .nil => .nil
  | _, _, 0, .no r => .yes h r
  | _, _, i + 1, .no r => .no (RS0.set h i r)
  | _, _, 0, .yes _ r => .yes h r
  | _, _, i + 1, .yes q r => .yes q (RS0.set h i r)
theorem RS0.unset : ∀ {t : Sl} {s : L2.St} (i : Nat) (v : Option V), RS0 ρ H t s → RS0 ρ H (t.set i none) (s.set i v)
  | _, _, _, _, .nil => .nil
  | _, _, 0, _, .no r => .no r
  | _, _, i + 1, v, .no r => .no (RS0.unset i v r)
  | _, _, 0, _, .yes _ r => .no r
  | _, _, i + 1, v, .yes q r => .yes q (RS0.unset i v r)
theorem RS.mono {W : WR} (x : Ext ρ ρ') (g : Grow H H') {τ : Sl} {σ : L2.St} (r : RS W ρ H τ σ) : RS W ρ' H' τ σ := ⟨r.ext.trans x, r.grow.trans g, r.s.mono x g⟩
theorem RS.length {W : WR} {τ : Sl} {σ : L2.St} (r : RS W ρ H τ σ) : τ.length = σ.length := r.s.length
theorem RS.get {W : WR} {τ : Sl} {σ : L2.St} {i : Nat} {a : A} (r : RS W ρ H τ σ) (e : τ[i]? = some (some a)) : ∃ v, σ[i]? = some (some v) ∧ Is ρ H a v := r.s.get e
theorem RS.set {W : WR} {a : A} {v : V} (h : Is ρ H a v) {τ : Sl} {σ : L2.St} (i : Nat) (r : RS W ρ H τ σ) : RS W ρ H (τ.set i (some a)) (σ.set i (some v)) := ⟨r.ext, r.grow, r.s.set h i⟩
theorem RS.unset {W : WR} {τ : Sl} {σ : L2.St} (i : Nat) (v : Option V) (r : RS W ρ H τ σ) : RS W ρ H (τ.set i none) (σ.set i v) := ⟨r.ext, r.grow, r.s.unset i v⟩
theorem RS.of {W : WR} {τ τ' : Sl} {σ σ' : L2.St} (r : RS W ρ H τ σ) (s : RS0 ρ H τ' σ') : RS W ρ H τ' σ' := ⟨r.ext, r.grow, s⟩
theorem RC.mono {a : Addr} {c : Cell} (x : Ext ρ ρ') (g : Grow H H') (e : H' a = H a) (r : RC w ρ H a c) : RC w ρ' H' a c := by
  cases c with
  | lst xs => obtain ⟨vs, h, i⟩ := r; exact ⟨vs, e.trans h, i.mono x g⟩
  | frz xs =>
    obtain ⟨vs, h, i⟩ := r
    refine ⟨vs, ?_, i.mono x g⟩
    rcases h with (⟨o, h⟩ | h) | h
    · exact .inl (.inl ⟨o, e.trans h⟩)
    · exact .inl (.inr (e.trans h))
    · exact .inr h
  | dK xs => obtain ⟨vs, h, i⟩ := r; exact ⟨vs, e.trans h, i.mono x g⟩
  | dT xs => obtain ⟨vs, h, i⟩ := r; exact ⟨vs, e.trans h, i.mono x g⟩
  | dN xs => obtain ⟨bs, vs, h, i, j, d⟩ := r; exact ⟨bs, vs, e.trans h, i.mono x g, j.mono x g, d⟩
  | st xs => obtain ⟨S, h, i⟩ := r; exact ⟨S, e.trans h, i⟩
  | obj => trivial
  | xd xs => obtain ⟨vs, h, i⟩ := r; exact ⟨vs, e.trans h, i.mono x g⟩
  | fk xs => obtain ⟨od, vs, h, i⟩ := r; exact ⟨od, vs, e.trans h, i.mono x g⟩
  | fT xs => obtain ⟨od, vs, h, i⟩ := r; exact ⟨od, vs, e.trans h, i.mono x g⟩
  | ins C fs => obtain ⟨Ca, dx, vs, h0, h, h2, i⟩ := r; exact ⟨Ca, dx, vs, h0, e.trans h, g _ _ (.own _) h2, i.mono x g⟩
theorem set_ne_code {w : World} {a c : Addr} {S : Int → Bool} {n : Nat} {q : Str} : SetO w a S n ≠ LamX.CodeO c q := by
  unfold SetO
  refine ext_ne_code (a := a) fun h e => ?_
  obtain ⟨o, es, ep, t, ho, _, hd, _⟩ := e
  exact ⟨o, ho, fun vs z => by rw [hd] at z; cases z⟩
theorem nest_ne_code {w : World} {a c : Addr} {ks : List (NestedKey × Addr)} {vs : List V} {q : Str} : nestO w a ks vs ≠ LamX.CodeO c q := by
  unfold nestO
  refine ext_ne_code (a := a) fun h e => ?_
  obtain ⟨_, _, _, _, us, _, o, es, ep, ho, _, hd, _⟩ := e
  exact ⟨o, ho, fun vs z => by rw [hd] at z; cases z⟩
theorem codeO_ext {c : Addr} {q : Str} {o : HO} (h : ∀ φ, o ≠ .ext φ) : o ≠ LamX.CodeO c q := fun z => h _ z
/-- what a cell that may change is not -/
structure Loose (o : HO) : Prop where
  im : ¬ Imm o
  fz : ∀ ob u, o ≠ .frz ob u
  tb : ∀ ps, o ≠ .tbl ps
  cd : ∀ c q, o ≠ LamX.CodeO c q
theorem Loose.of {o : HO} (h1 : ∀ xs, o ≠ .tup xs) (h2 : ∀ a b, o ≠ .rng a b) (h3 : ∀ x, o ≠ .own x) (h4 : ∀ ob u, o ≠ .frz ob u) (h5 : ∀ ps, o ≠ .tbl ps) (h6 : ∀ c q, o ≠ LamX.CodeO c q) : Loose o :=
  ⟨fun i => by cases i with
    | tup xs => exact h1 _ rfl
    | rng a b => exact h2 _ _ rfl
    | own x => exact h3 _ rfl
    | code c q => exact h6 _ _ rfl
    | frz ob u => exact h4 _ _ rfl, h4, h5, h6⟩
theorem RC.there {a : Addr} {c : Cell} (r : RC w ρ H a c) (hm : c.isM = true) : ∃ o, H a = Option.some o ∧ Loose o := by
  cases c with
  | lst xs => obtain ⟨vs, h, i⟩ := r; exact ⟨_, h, .of (fun _ z => (by cases z)) (fun _ _ z => (by cases z)) (fun _ z => (by cases z)) (fun _ _ z => (by cases z)) (fun _ z => (by cases z)) (fun _ _ => codeO_ext fun _ z => (by cases z))⟩
  | frz xs => cases hm
  | dK xs => obtain ⟨vs, h, i⟩ := r; exact ⟨_, h, .of (fun _ z => (by cases z)) (fun _ _ z => (by cases z)) (fun _ z => (by cases z)) (fun _ _ z => (by cases z)) (fun _ z => (by cases z)) (fun _ _ => codeO_ext fun _ z => (by cases z))⟩
  | dT xs => obtain ⟨vs, h, i⟩ := r; exact ⟨_, h, .of (fun _ z => (by cases z)) (fun _ _ z => (by cases z)) (fun _ z => (by cases z)) (fun _ _ z => (by cases z)) (fun _ z => (by cases z)) (fun _ _ => codeO_ext fun _ z => (by cases z))⟩
  | dN xs => obtain ⟨bs, vs, h, i⟩ := r; exact ⟨_, h, .of (fun _ z => (by cases z)) (fun _ _ z => (by cases z)) (fun _ z => (by cases z)) (fun _ _ z => (by cases z)) (fun _ z => (by cases z)) (fun _ _ => nest_ne_code)⟩
  | st xs => obtain ⟨S, h, i⟩ := r; exact ⟨_, h, .of (fun _ z => (by cases z)) (fun _ _ z => (by cases z)) (fun _ z => (by cases z)) (fun _ _ z => (by cases z)) (fun _ z => (by cases z)) (fun _ _ => set_ne_code)⟩
  | obj => cases hm
  | xd xs => obtain ⟨vs, h, i⟩ := r; exact ⟨_, h, .of (fun _ z => (by cases z)) (fun _ _ z => (by cases z)) (fun _ z => (by cases z)) (fun _ _ z => (by cases z)) (fun _ z => (by cases z)) (fun _ _ => codeO_ext fun _ z => (by cases z))⟩
  | fk xs => cases hm
  | fT xs => cases hm
  | ins C fs => obtain ⟨Ca, dx, vs, h0, h, h2, i⟩ := r; exact ⟨_, h, .of (fun _ z => (by cases z)) (fun _ _ z => (by cases z)) (fun _ z => (by cases z)) (fun _ _ z => (by cases z)) (fun _ z => (by cases z)) (fun _ _ => codeO_ext fun _ z => (by cases z))⟩
theorem RC.froz {a : Addr} {c : Cell} (r : RC w ρ H a c) (hm : c.isF = true) : ∃ ob u, H a = Option.some (.frz ob u) := by
  cases c with
  | fk xs => obtain ⟨od, vs, h, i⟩ := r; exact ⟨_, _, h⟩
  | fT xs => obtain ⟨od, vs, h, i⟩ := r; exact ⟨_, _, h⟩
  | _ => cases hm
/-- the heap changed where nothing locked stood -/
theorem RC.kept {a : Addr} {c : Cell} (x : Ext ρ ρ') (g : Grow H H') (e : c.isM = true → H' a = H a) (f : ∀ xs, c = .frz xs → (∀ o, (∀ ps, o ≠ .tbl ps) → H a = Option.some o → H' a = Option.some o) ∨ ∃ vs, FrK w a vs ∧ IsAll ρ H xs vs) (r : RC w ρ H a c) : RC w ρ' H' a c := by
  cases hc : c.isM with
  | true => exact r.mono x g (e hc)
  | false =>
    cases c with
    | frz xs =>
      rcases f xs rfl with f | ⟨vs, f1, f2⟩
      · obtain ⟨vs, h, i⟩ := r
        refine ⟨vs, ?_, i.mono x g⟩
        rcases h with (⟨o, h⟩ | h) | h
        · exact .inl (.inl ⟨o, f _ (fun _ z => (by cases z)) h⟩)
        · exact .inl (.inr (f _ (fun _ z => (by cases z)) h))
        · exact .inr h
      · exact ⟨vs, .inr f1, f2.mono x g⟩
    | obj => trivial
    | fk xs => obtain ⟨od, vs, h, i⟩ := r; exact ⟨od, vs, g _ _ (.frz _ _) h, i.mono x g⟩
    | fT xs => obtain ⟨od, vs, h, i⟩ := r; exact ⟨od, vs, g _ _ (.frz _ _) h, i.mono x g⟩
    | _ => cases hc
theorem frz_K {a : Addr} {xs : List A} (r : RC w ρ H a (.frz xs)) (h : H a = Option.none) : ∃ vs, FrK w a vs ∧ IsAll ρ H xs vs := by
  obtain ⟨vs, q, i⟩ := r
  rcases q with (⟨o, q⟩ | q) | q
  · rw [h] at q; cases q
  · rw [h] at q; cases q
  · exact ⟨vs, q, i⟩
/-- the heap grew by what is no cell -/
theorem RM.grow {M : Store} (m : RM w ρ H M) (g : Grow H H') (k : ∀ b o, H b = Option.some o → H' b = Option.some o) : RM w ρ H' M :=
  ⟨m.len, m.nd, fun i a c h1 h2 => by
    have r := m.at_ i a c h1 h2
    refine r.kept (.refl _) g (fun hm => ?_) fun xs _ => .inl fun o _ e => k _ _ e
    obtain ⟨o, e, _⟩ := r.there hm
    exact (k a o e).trans e.symm, m.tabs.ext k, fun i j a c xs h1 h2 h3 h4 h5 => by
      obtain ⟨vs, f1, f2⟩ := m.fz i j a c xs h1 h2 h3 h4 h5
      exact ⟨vs, f1, f2.mono (.refl _) g⟩, m.fu⟩
/-- .. the tables may have grown -/
theorem RM.growT {M : Store} (m : RM w ρ H M) (k : LamX.ExtN H H') (t : LamX.Tabs w.Tb H') : RM w ρ H' M :=
  have g : Grow H H' := fun a u i e => k a u e fun ps z => by
    subst z
    generalize hz : HO.tbl ps = z at i
    cases i with
    | code c q => exact LamX.codeO_ne ps hz.symm
    | _ => cases hz
  ⟨m.len, m.nd, fun i a c h1 h2 => by
    have r := m.at_ i a c h1 h2
    refine r.kept (.refl _) g (fun hm => ?_) fun xs _ => .inl fun o n e => k _ _ e n
    obtain ⟨o, e, l⟩ := r.there hm
    exact (k a o e l.tb).trans e.symm, t, fun i j a c xs h1 h2 h3 h4 h5 => by
      obtain ⟨vs, f1, f2⟩ := m.fz i j a c xs h1 h2 h3 h4 h5
      exact ⟨vs, f1, f2.mono (.refl _) g⟩, m.fu⟩
theorem Grow.ofT {H H' : Hp} (k : LamX.ExtN H H') : Grow H H' := fun a u i e => k a u e fun ps z => by
    subst z
    generalize hz : HO.tbl ps = z at i
    cases i with
    | code c q => exact LamX.codeO_ne ps hz.symm
    | _ => cases hz
/-- an object that is not looked at -/
theorem RM.name {M : Store} (m : RM w ρ H M) (p : Addr) : RM w (ρ ++ [p]) H (M ++ [.obj]) := by
  have old : ∀ (i : Nat) (a : Addr) (d : Cell), (ρ ++ [p])[i]? = Option.some a → (M ++ [.obj])[i]? = Option.some d → (ρ[i]? = Option.some a ∧ M[i]? = Option.some d) ∨ d = .obj := fun i a d h1 h2 => by
    by_cases hi : i < ρ.length
    · rw [List.getElem?_append_left hi] at h1
      rw [List.getElem?_append_left (by rw [← m.len]; exact hi)] at h2
      exact .inl ⟨h1, h2⟩
    · rw [m.len] at hi
      rw [List.getElem?_append_right (by omega)] at h2
      have : i - M.length = 0 := by
        have := (List.getElem?_eq_some_iff.mp h2).1
        simp at this; omega
      rw [this] at h2
      exact .inr (Option.some.inj h2).symm
  refine ⟨by simp [m.len], fun i j a d d' h1 h2 h3 h4 h5 h6 => ?_, fun i a d h1 h2 => ?_, m.tabs, fun i j a c xs h1 h2 h3 h4 h5 => ?_, fun i j a d d' h1 h2 h3 h4 h5 h6 => ?_⟩
  · rcases old i a d h1 h3 with ⟨q1, q2⟩ | q
    · rcases old j a d' h2 h4 with ⟨q3, q4⟩ | q
      · exact m.nd i j a d d' q1 q3 q2 q4 h5 h6
      · subst q; cases h6
    · subst q; cases h5
  · rcases old i a d h1 h2 with ⟨q1, q2⟩ | q
    · exact (m.at_ i a d q1 q2).kept (.snoc _ _) (.refl _) (fun _ => rfl) fun _ _ => .inl fun _ _ e => e
    · subst q; trivial
  · rcases old i a c h1 h3 with ⟨q1, q2⟩ | q
    · rcases old j a _ h2 h4 with ⟨q3, q4⟩ | q
      · obtain ⟨vs, f1, f2⟩ := m.fz i j a c xs q1 q3 q2 q4 h5
        exact ⟨vs, f1, f2.mono (.snoc _ _) (.refl _)⟩
      · cases q
    · subst q; cases h5
  · rcases old i a d h1 h3 with ⟨q1, q2⟩ | q
    · rcases old j a d' h2 h4 with ⟨q3, q4⟩ | q
      · exact m.fu i j a d d' q1 q3 q2 q4 h5 h6
      · subst q; cases h6
    · subst q; cases h5
theorem tabs_upd {T : Tbl} {H : Hp} {a : Addr} {o o' : HO} (t : LamX.Tabs T H) (h : H a = Option.some o) (l : Loose o) : LamX.Tabs T (upd H a o') := fun p hp => by
  obtain ⟨ps, h1, h2, h3⟩ := t p hp
  refine ⟨ps, ?_, h2, fun pos cv hc => ?_⟩
  · rw [upd_ne (fun z => l.tb ps (by rw [z, h] at h1; exact Option.some.inj h1))]; exact h1
  · obtain ⟨c, e1, e2⟩ := h3 pos cv hc
    exact ⟨c, e1, by rw [upd_ne (fun z => l.cd c _ (by rw [z, h] at e2; rw [z]; exact Option.some.inj e2))]; exact e2⟩
theorem RM.new {M : Store} (m : RM w ρ H M) {p : Addr} {o : HO} (hp : H p = Option.none) : RM w ρ (upd H p o) M :=
  m.grow (.new hp) fun b o' e => by rw [upd_ne (ne_of_none e hp)]; exact e
/-- a new cell -/
theorem RM.push {M : Store} (m : RM w ρ H M) {p : Addr} {o : HO} {c : Cell} (hp : H p = Option.none) (hc : RC w (ρ ++ [p]) (upd H p o) p c) : RM w (ρ ++ [p]) (upd H p o) (M ++ [c]) := by
  have g : Grow H (upd H p o) := .new hp
  have old : ∀ (i : Nat) (a : Addr) (d : Cell), (ρ ++ [p])[i]? = Option.some a → (M ++ [c])[i]? = Option.some d → (i < ρ.length ∧ ρ[i]? = Option.some a ∧ M[i]? = Option.some d) ∨ (i = ρ.length ∧ a = p ∧ d = c) := fun i a d h1 h2 => by
    by_cases hi : i < ρ.length
    · rw [List.getElem?_append_left hi] at h1
      rw [List.getElem?_append_left (by rw [← m.len]; exact hi)] at h2
      exact .inl ⟨hi, h1, h2⟩
    · have : i = ρ.length := by
        have := (List.getElem?_eq_some_iff.mp h1).1
        simp at this; omega
      subst this
      rw [List.getElem?_append_right (Nat.le_refl _)] at h1
      rw [m.len, List.getElem?_append_right (Nat.le_refl _)] at h2
      simp at h1 h2
      exact .inr ⟨rfl, h1.symm, h2.symm⟩
  have apart : ∀ (i : Nat) (d : Cell), ρ[i]? = Option.some p → M[i]? = Option.some d → d.isM = true → False := fun i d h1 h2 hm => by
    obtain ⟨u, e, _⟩ := (m.at_ i p d h1 h2).there hm
    rw [hp] at e; cases e
  refine ⟨by simp [m.len], fun i j a d d' h1 h2 h3 h4 h5 h6 => ?_, fun i a d h1 h2 => ?_, m.tabs.ext fun b o' e => by rw [upd_ne (ne_of_none e hp)]; exact e, fun i j a d xs h1 h2 h3 h4 h5 => ?_, fun i j a d d' h1 h2 h3 h4 h5 h6 => ?_⟩
  · rcases old i a d h1 h3 with ⟨_, q1, q2⟩ | ⟨q0, q1, q2⟩
    · rcases old j a d' h2 h4 with ⟨_, q3, q4⟩ | ⟨_, q3, q4⟩
      · exact m.nd i j a d d' q1 q3 q2 q4 h5 h6
      · subst q3; exact (apart i d q1 q2 h5).elim
    · rcases old j a d' h2 h4 with ⟨_, q3, q4⟩ | ⟨q0', q3, q4⟩
      · subst q1; exact (apart j d' q3 q4 h6).elim
      · rw [q0, q0']
  · rcases old i a d h1 h2 with ⟨_, q1, q2⟩ | ⟨_, q1, q2⟩
    · have r := m.at_ i a d q1 q2
      refine r.kept (.snoc _ _) g (fun hm => ?_) fun xs _ => .inl fun o _ e => ?_
      · obtain ⟨u, e, _⟩ := r.there hm
        rw [upd_ne (ne_of_none e hp)]
      · rw [upd_ne (ne_of_none e hp)]; exact e
    · subst q1 q2; exact hc
  · rcases old j a _ h2 h4 with ⟨_, q3, q4⟩ | ⟨q0, q3, q4⟩
    · rcases old i a d h1 h3 with ⟨_, q1, q2⟩ | ⟨_, q1, q2⟩
      · obtain ⟨vs, f1, f2⟩ := m.fz i j a d xs q1 q3 q2 q4 h5
        exact ⟨vs, f1, f2.mono (.snoc _ _) g⟩
      · subst q1
        obtain ⟨vs, f1, f2⟩ := frz_K (m.at_ j a _ q3 q4) hp
        exact ⟨vs, f1, f2.mono (.snoc _ _) g⟩
    · subst q3
      rcases old i a d h1 h3 with ⟨_, q1, q2⟩ | ⟨_, q1, q2⟩
      · exact (apart i d q1 q2 h5).elim
      · subst q2; rw [← q4] at h5; cases h5
  · have ap : ∀ (i : Nat) (d : Cell), ρ[i]? = Option.some p → M[i]? = Option.some d → d.isF = true → False := fun i d h1 h2 hm => by
      obtain ⟨ob, u, e⟩ := (m.at_ i p d h1 h2).froz hm
      rw [hp] at e; cases e
    rcases old i a d h1 h3 with ⟨_, q1, q2⟩ | ⟨q0, q1, q2⟩
    · rcases old j a d' h2 h4 with ⟨_, q3, q4⟩ | ⟨_, q3, q4⟩
      · exact m.fu i j a d d' q1 q3 q2 q4 h5 h6
      · subst q3; exact (ap i d q1 q2 h5).elim
    · rcases old j a d' h2 h4 with ⟨_, q3, q4⟩ | ⟨q0', q3, q4⟩
      · subst q1; exact (ap j d' q3 q4 h6).elim
      · rw [q0, q0']
theorem RM.growSet {M : Store} (m : RM w ρ H M) {i : Nat} {a : Addr} {o : HO} {c : Cell} (ha : ρ[i]? = Option.some a) (hc : M[i]? = Option.some c) (hm : c.isM = true := by rfl) : Grow H (upd H a o) := by
  have r := m.at_ i a c ha hc
  obtain ⟨o', e, l⟩ := r.there hm
  exact .upd fun xs i z => by rw [e] at z; cases z; exact l.im i
/-- a cell is changed -/
theorem RM.set {M : Store} (m : RM w ρ H M) {i : Nat} {a : Addr} {o : HO} {c c' : Cell} (ha : ρ[i]? = Option.some a) (hc : M[i]? = Option.some c) (hc' : RC w ρ (upd H a o) a c') (hm : c.isM = true := by rfl) : RM w ρ (upd H a o) (M.set i c') := by
  have r := m.at_ i a c ha hc
  obtain ⟨o', e, l⟩ := r.there hm
  have g : Grow H (upd H a o) := m.growSet ha hc hm
  have hlt : i < M.length := (List.getElem?_eq_some_iff.mp hc).1
  have getM : ∀ (j : Nat) (d : Cell), (M.set i c')[j]? = Option.some d → (j = i ∧ d = c') ∨ (j ≠ i ∧ M[j]? = Option.some d) := fun j d h => by
    by_cases hj : j = i
    · subst hj
      rw [List.getElem?_set_self hlt] at h
      exact .inl ⟨rfl, (Option.some.inj h).symm⟩
    · rw [List.getElem?_set_ne (Ne.symm hj)] at h
      exact .inr ⟨hj, h⟩
  refine ⟨by simp [m.len], fun j k b d d' h1 h2 h3 h4 h5 h6 => ?_, fun j b d h1 h2 => ?_, tabs_upd m.tabs e l, fun j k b d xs h1 h2 h3 h4 h5 => ?_, fun j k b d d' h1 h2 h3 h4 h5 h6 => ?_⟩
  · rcases getM j d h3 with ⟨q1, _⟩ | ⟨q1, q2⟩
    · rcases getM k d' h4 with ⟨q3, _⟩ | ⟨q3, q4⟩
      · rw [q1, q3]
      · subst q1; exact m.nd j k b c d' h1 h2 hc q4 hm h6
    · rcases getM k d' h4 with ⟨q3, _⟩ | ⟨q3, q4⟩
      · subst q3; exact m.nd j k b d c h1 h2 q2 hc h5 hm
      · exact m.nd j k b d d' h1 h2 q2 q4 h5 h6
  · rcases getM j d h2 with ⟨q1, q2⟩ | ⟨q1, q2⟩
    · subst q1 q2
      rw [ha] at h1
      obtain rfl := Option.some.inj h1
      exact hc'
    · have q := m.at_ j b d h1 q2
      refine q.kept (.refl _) g (fun hd => ?_) fun xs ex => ?_
      · have hb : b ≠ a := fun z => by
          subst z
          exact q1 (m.nd j i b d c h1 ha q2 hc hd hm)
        exact upd_ne hb
      · by_cases hb : b = a
        · subst hb; subst ex
          exact .inr (m.fz i j b c xs ha h1 hc q2 hm)
        · exact .inl fun o _ ef => by rw [upd_ne hb]; exact ef
  · rcases getM k _ h4 with ⟨q3, q4⟩ | ⟨q3, q4⟩
    · subst q3
      rw [ha] at h2
      obtain rfl := Option.some.inj h2
      rcases getM j d h3 with ⟨q1, q2⟩ | ⟨q1, q2⟩
      · rw [← q4] at q2; subst q2; cases h5
      · exact absurd (m.nd j k a d c h1 ha q2 hc h5 hm) q1
    · rcases getM j d h3 with ⟨q1, q2⟩ | ⟨q1, q2⟩
      · subst q1
        obtain ⟨vs, f1, f2⟩ := m.fz j k b c xs h1 h2 hc q4 hm
        exact ⟨vs, f1, f2.mono (.refl _) g⟩
      · obtain ⟨vs, f1, f2⟩ := m.fz j k b d xs h1 h2 q2 q4 h5
        exact ⟨vs, f1, f2.mono (.refl _) g⟩
  · have ap : ∀ (k : Nat) (d : Cell), ρ[k]? = Option.some a → M[k]? = Option.some d → d.isF = true → False := fun k d h1 h2 hm2 => by
      obtain ⟨ob, u, e2⟩ := (m.at_ k a d h1 h2).froz hm2
      rw [e] at e2
      exact l.fz _ _ (Option.some.inj e2)
    rcases getM j d h3 with ⟨q1, _⟩ | ⟨q1, q2⟩
    · rcases getM k d' h4 with ⟨q3, _⟩ | ⟨q3, q4⟩
      · rw [q1, q3]
      · subst q1
        rw [ha] at h1
        obtain rfl := Option.some.inj h1
        exact (ap k d' h2 q4 h6).elim
    · rcases getM k d' h4 with ⟨q3, _⟩ | ⟨q3, q4⟩
      · subst q3
        rw [ha] at h2
        obtain rfl := Option.some.inj h2
        exact (ap j d h1 q2 h5).elim
      · exact m.fu j k b d d' h1 h2 q2 q4 h5 h6
end
/-! ### exceptions -/
/-- an exception of an own class: its class, its own dict -/
def RX (mg : Str → Option Value) (ρ : List Addr) (H : Hp) (e : Exn) (cls : Value) (d : Option Addr) : Prop :=
  ∃ C, mg e.name = some (.ref C) ∧ cls = .ref C ∧
    match e.dct with
    | none => d = none
    | some l => ∃ dd, d = some dd ∧ ρ[l]? = some dd
/-! ### readings -/
section
variable {α β γ δ : Type}
abbrev Rel (α β : Type) := List Addr → Hp → α → β → Prop
/-- what an outcome promises -/
def RE (G : Gx) (W : WR) (σ : L2.St) (ρ : List Addr) (H : Hp) (rel : Rel α β) (o : EO α) (Q : β → Hp → Prop) : Prop :=
  match o with
  | .ok a M => ∀ b H' ρ', Ext ρ ρ' → Grow H H' → RM G.w ρ' H' M → rel ρ' H' a b → Q b H'
  | .ex e M => ∀ cls d H' ρ', Ext ρ ρ' → Grow H H' → RM G.w ρ' H' M → RX G.mg ρ' H' e cls d → W cls d σ H'
  | .bad => False
theorem RE.mono {G : Gx} {W : WR} {σ : L2.St} {ρ ρ' : List Addr} {H H' : Hp} {rel : Rel α β} {o : EO α} {Q : β → Hp → Prop} (r : RE G W σ ρ H rel o Q) (x : Ext ρ ρ') (g : Grow H H') : RE G W σ ρ' H' rel o Q := by
  cases o with
  | ok a M => exact fun b H2 ρ2 x2 g2 => r b H2 ρ2 (x.trans x2) (g.trans g2)
  | ex e M => exact fun c d H2 ρ2 x2 g2 => r c d H2 ρ2 (x.trans x2) (g.trans g2)
  | bad => exact r
theorem RE.imp {G : Gx} {W : WR} {σ : L2.St} {ρ : List Addr} {H : Hp} {rel : Rel α β} {o : EO α} {Q Q' : β → Hp → Prop} (r : RE G W σ ρ H rel o Q) (h : ∀ b H', Q b H' → Q' b H') : RE G W σ ρ H rel o Q' := by
  cases o with
  | ok a M => exact fun b H2 ρ2 x2 g2 m i => h _ _ (r b H2 ρ2 x2 g2 m i)
  | ex e M => exact r
  | bad => exact r
def tG (G : Gx) (W : WR) (rel : Rel α β) (f : Sl → Store → EO α) (σ : L2.St) (H : Hp) (Q : β → Hp → Prop) : Prop :=
  ∃ τ M ρ, RS W ρ H τ σ ∧ RM G.w ρ H M ∧ RE G W σ ρ H rel (f τ M) Q
theorem tG.imp {G : Gx} {W : WR} {σ : L2.St} {H : Hp} {rel : Rel α β} {f : Sl → Store → EO α} {Q Q' : β → Hp → Prop} (r : tG G W rel f σ H Q) (h : ∀ b H', Q b H' → Q' b H') : tG G W rel f σ H Q' := by
  obtain ⟨τ, M, ρ, a, b, c⟩ := r
  exact ⟨τ, M, ρ, a, b, c.imp h⟩
/-- behind a first part -/
def tK (G : Gx) (W : WR) (rel₁ : Rel α β) (rel₂ : Rel γ δ) (g : Sl → α → Store → EO γ) (σ : L2.St) (Q : δ → Hp → Prop) : β → Hp → Prop := fun b H =>
  ∃ τ M ρ a, RS W ρ H τ σ ∧ RM G.w ρ H M ∧ rel₁ ρ H a b ∧ RE G W σ ρ H rel₂ (g τ a M) Q
theorem seqG {G : Gx} {W : WR} {σ : L2.St} {H : Hp} (rel₁ : Rel α β) {rel₂ : Rel γ δ} {f : Sl → Store → EO α} {g : Sl → α → Store → EO γ} {Q : δ → Hp → Prop}
    (h : tG G W rel₂ (fun τ M => (f τ M).bind (g τ)) σ H Q) : tG G W rel₁ f σ H (tK G W rel₁ rel₂ g σ Q) := by
  obtain ⟨τ, M, ρ, rs, rm, r⟩ := h
  refine ⟨τ, M, ρ, rs, rm, ?_⟩
  simp only at r
  cases e : f τ M with
  | ok a M1 =>
    rw [e] at r
    exact fun b H1 ρ1 x g' m i => ⟨τ, M1, ρ1, a, rs.mono x g', m, i, r.mono x g'⟩
  | ex en M1 => rw [e] at r; exact r
  | bad => rw [e] at r; exact r
/-- .. a second part that doesn't look at the first -/
theorem seqK {G : Gx} {W : WR} {σ : L2.St} {H : Hp} {α' β' : Type} (rel₁ : Rel α β) (hrel : ∀ {ρ ρ' H H' a b}, Ext ρ ρ' → Grow H H' → rel₁ ρ H a b → rel₁ ρ' H' a b) (rel₂ : Rel α' β') {rel₃ : Rel γ δ} {g : Sl → Store → EO α'} {k : Sl → α → α' → Store → EO γ} {Q : δ → Hp → Prop} {b : β}
    (h : tK G W rel₁ rel₃ (fun τ a M => (g τ M).bind (k τ a)) σ Q b H) :
    tG G W rel₂ g σ H (fun b' H' => ∃ τ M ρ a a', RS W ρ H' τ σ ∧ RM G.w ρ H' M ∧ rel₁ ρ H' a b ∧ rel₂ ρ H' a' b' ∧ RE G W σ ρ H' rel₃ (k τ a a' M) Q) := by
  obtain ⟨τ, M, ρ, a, rs, rm, i, r⟩ := h
  refine ⟨τ, M, ρ, rs, rm, ?_⟩
  simp only at r
  cases e : g τ M with
  | ok a' M1 =>
    rw [e] at r
    exact fun b' H1 ρ1 x g' m i' => ⟨τ, M1, ρ1, a, a', rs.mono x g', m, hrel x g' i, i', r.mono x g'⟩
  | ex en M1 => rw [e] at r; exact r
  | bad => rw [e] at r; exact r
end
abbrev relB : Rel Bool Bool := fun _ _ a b => a = b
/-- an expression, an argument list, a test -/
def AE (X : Cx) (W : WR) (e : Expr) (f : EF) : Prop := PE X e (tG (X.gx W.Tb) W Is f)
def AA (X : Cx) (W : WR) (es : List Expr) (f : EFs) : Prop := PA X es (tG (X.gx W.Tb) W IsAll f)
def AT (X : Cx) (W : WR) (e : Expr) (f : EFb) : Prop := PT X e (tG (X.gx W.Tb) W relB f)
theorem _root_.L2.PE.pre {X : Cx} {e : Expr} {t t' : TE} (h : PE X e t) (w : ∀ σ H Q, t' σ H Q → t σ H Q) : PE X e t' := ⟨fun pins s σ H Q I q => h.run pins s σ H Q I (w σ H Q q)⟩
theorem _root_.L2.PA.pre {X : Cx} {e : List Expr} {t t' : TA} (h : PA X e t) (w : ∀ σ H Q, t' σ H Q → t σ H Q) : PA X e t' := ⟨fun pos pins s σ H Q I q => h.run pos pins s σ H Q I (w σ H Q q)⟩
theorem _root_.L2.PT.pre {X : Cx} {e : Expr} {t t' : TT} (h : PT X e t) (w : ∀ σ H Q, t' σ H Q → t σ H Q) : PT X e t' := ⟨fun pins s σ H Q I q => h.run pins s σ H Q I (w σ H Q q)⟩
theorem _root_.L2.PS.pre {X : Cx} {e : Stmt} {t t' : TS} (h : PS X e t) (w : ∀ D σ H, t' D σ H → t D σ H) : PS X e t' := ⟨fun pins s σ H D I q => h.run pins s σ H D I (w D σ H q)⟩
theorem _root_.L2.PSs.pre {X : Cx} {e : List Stmt} {t t' : TS} (h : PSs X e t) (w : ∀ D σ H, t' D σ H → t D σ H) : PSs X e t' := ⟨fun pins s σ H D I q => h.run pins s σ H D I (w D σ H q)⟩
/-- a value that is there: the outcome is ok with the same store -/
theorem RE.okv {α β : Type} {G : Gx} {W : WR} {σ : L2.St} {ρ ρ' : List Addr} {H H' : Hp} {rel : Rel α β} {a : α} {b : β} {M : Store} {Q : β → Hp → Prop} (r : RE G W σ ρ H rel (.ok a M) Q) (x : Ext ρ ρ') (g : Grow H H') (m : RM G.w ρ' H' M) (i : rel ρ' H' a b) : Q b H' :=
  r b H' ρ' x g m i
/-! ### names, constants -/
section
variable {X : Cx} {W : WR} {pos : Pos}
def eVar (i : Nat) : EF := fun τ M => match τ[i]? with
  | some (some a) => .ok a M
  | _ => .bad
def eC (a : A) : EF := fun _ M => .ok a M
theorem ae_v (i : Nat) {x : Str} (hN : X.N[i]? = some x := by rfl) (hv : Vis X.env.scope x := by first | exact Or.inl rfl | exact Or.inr (Or.inl rfl) | exact Or.inr (Or.inr rfl)) (hd : (x == ("__debug__" : Str)) = false := by decide)
    (hcd : (x == ("__classdict__" : Str)) = false := by decide) : AE X W (.Name x pos) (eVar i) := by
  refine (pe_var hN hv hd hcd).pre fun σ H Q h => ?_
  obtain ⟨τ, M, ρ, rs, rm, r⟩ := h
  unfold eVar at r
  split at r
  · rename_i a e
    obtain ⟨v, h1, h2⟩ := rs.get e
    exact ⟨v, h1, r.okv (.refl _) (.refl _) rm h2⟩
  · exact False.elim r
theorem const_ok {a : A} {v : V} (hi : ∀ ρ H, Is ρ H a v) {e : Expr} (h : PE X e (tC v)) : AE X W e (eC a) := by
  refine h.pre fun σ H Q h => ?_
  obtain ⟨τ, M, ρ, rs, rm, r⟩ := h
  exact r.okv (.refl _) (.refl _) rm (hi _ _)
theorem ae_int {i : Int} {j} : AE X W (.Constant (.int i) j pos) (eC (.int i)) := const_ok (fun _ _ => .int i) pe_int
theorem ae_bl {b : Bool} {j} : AE X W (.Constant (.bool b) j pos) (eC (.bl b)) := const_ok (fun _ _ => .bl b) pe_bl
theorem ae_non {j} : AE X W (.Constant .none j pos) (eC .non) := const_ok (fun _ _ => .non) pe_non
theorem ae_str {x : Str} {j} : AE X W (.Constant (.str x) j pos) (eC (.str x)) := const_ok (fun _ _ => .str x) pe_str
/-- a module's constant -/
theorem ae_glob {x : Str} {a : A} {v : V} {u : Value} (hm : X.mg x = some u) (hi : ∀ ρ H, Is ρ H a v) (r : RelV v u) (hg : Gl X x := by rfl) (hd : (x == ("__debug__" : Str)) = false := by decide) : AE X W (.Name x pos) (eC a) := const_ok hi (pe_glob hg hm r hd)
/-! ### argument lists -/
def eNil : EFs := fun _ M => .ok [] M
def eCons (f : EF) (g : EFs) : EFs := fun τ M => (f τ M).bind fun a M1 => (g τ M1).bind fun as M2 => .ok (a :: as) M2
theorem Is.ext {ρ ρ' : List Addr} {H H' : Hp} {a : A} {b : V} (x : Ext ρ ρ') (g : Grow H H') (i : Is ρ H a b) : Is ρ' H' a b := i.mono x g
theorem aa_nil : AA X W [] eNil := by
  refine pa_nil.pre fun σ H Q h => ?_
  obtain ⟨τ, M, ρ, rs, rm, r⟩ := h
  exact r.okv (.refl _) (.refl _) rm .nil
theorem aa_cons {e : Expr} {es : List Expr} {f : EF} {g : EFs} (h1 : AE X W e f) (h2 : AA X W es g) (hs : starEach (e :: es) X.env = (false, eval e X.env) :: starEach es X.env := by rfl) : AA X W (e :: es) (eCons f g) := by
  refine (pa_cons h1 h2 hs).pre fun σ H Q h => ?_
  refine (seqG Is h).imp fun x H1 h1 => ?_
  refine (seqK Is Is.ext IsAll h1).imp fun xs H2 h2 => ?_
  obtain ⟨τ, M, ρ, a, as, rs, rm, i, is, r⟩ := h2
  exact r.okv (.refl _) (.refl _) rm (.cons i is)
/-! ### operations on values -/
/-- a two-place operation of the machine -/
abbrev O2 := A → A → Store → Option (A × Store)
abbrev O1 := A → Store → Option (A × Store)
abbrev On := List A → Store → Option (A × Store)
def toE {α : Type} (o : Option (α × Store)) : EO α := match o with
  | some (a, M) => .ok a M
  | none => .bad
/-- it ends as told, from wherever -/
def RO (w : Amb) (ρ : List Addr) (H : Hp) (o : Option (A × Store)) (Q : VK) : Prop := match o with
  | some (a, M) => ∀ v H' ρ', Ext ρ ρ' → Grow H H' → RM w ρ' H' M → Is ρ' H' a v → Q v H'
  | none => False
theorem RO.of {G : Gx} {σ : L2.St} {ρ : List Addr} {H : Hp} {o : Option (A × Store)} {Q : VK} (r : RE G W σ ρ H Is (toE o) Q) : RO G.w ρ H o Q := by
  cases o with
  | none => exact r
  | some p => exact r
def r2 (w : Amb) (o : O2) : R2 := fun x y H Q => ∃ a b M ρ, Is ρ H a x ∧ Is ρ H b y ∧ RM w ρ H M ∧ RO w ρ H (o a b M) Q
def r1 (w : Amb) (o : O1) : V → Hp → VK → Prop := fun x H Q => ∃ a M ρ, Is ρ H a x ∧ RM w ρ H M ∧ RO w ρ H (o a M) Q
def rn (w : Amb) (o : On) : List V → Hp → VK → Prop := fun xs H Q => ∃ as M ρ, IsAll ρ H as xs ∧ RM w ρ H M ∧ RO w ρ H (o as M) Q
def eOp (o : O2) (f g : EF) : EF := fun τ M => (f τ M).bind fun a M1 => (g τ M1).bind fun b M2 => toE (o a b M2)
def eUn (o : O1) (f : EF) : EF := fun τ M => (f τ M).bind fun a M1 => toE (o a M1)
def eFn (o : On) (f : EFs) : EF := fun τ M => (f τ M).bind fun as M1 => toE (o as M1)
theorem op_tK {f g : EF} {o : O2} {σ : L2.St} {H : Hp} {Q : VK} {G : Gx} (h : tG G W Is (eOp o f g) σ H Q) : tG G W Is f σ H fun x H1 => tG G W Is g σ H1 fun y H2 => r2 G.w o x y H2 Q := by
  refine (seqG Is h).imp fun x H1 h1 => ?_
  refine (seqK Is Is.ext Is h1).imp fun y H2 h2 => ?_
  obtain ⟨τ, M, ρ, a, b, rs, rm, i, j, r⟩ := h2
  exact ⟨a, b, M, ρ, i, j, rm, RO.of r⟩
theorem ae_op {a b : Expr} {op : Operator} {o : O2} {f g : EF} (ho : OpR X (binaryOp op) (r2 (X.am W.Tb) o)) (ha : AE X W a f) (hb : AE X W b g) : AE X W (.BinOp a op b pos) (eOp o f g) :=
  (pe_op ho ha hb).pre fun _ _ _ h => op_tK h
theorem ae_un {a : Expr} {op : UnaryOp} {o : O1} {f : EF} (ho : UnR X (unaryOp op) (r1 (X.am W.Tb) o)) (ha : AE X W a f) : AE X W (.UnaryOp op a pos) (eUn o f) := by
  refine (pe_un ho ha).pre fun σ H Q h => ?_
  refine (seqG Is h).imp fun x H1 h1 => ?_
  obtain ⟨τ, M, ρ, a, rs, rm, i, r⟩ := h1
  exact ⟨a, M, ρ, i, rm, RO.of r⟩
theorem fn_tK {f : EFs} {o : On} {σ : L2.St} {H : Hp} {Q : VK} {G : Gx} (h : tG G W Is (eFn o f) σ H Q) : tG G W IsAll f σ H fun xs H1 => rn G.w o xs H1 Q := by
  refine (seqG IsAll h).imp fun x H1 h1 => ?_
  obtain ⟨τ, M, ρ, a, rs, rm, i, r⟩ := h1
  exact ⟨a, M, ρ, i, rm, RO.of r⟩
/-- f(e, ..), f built in -/
theorem ae_B {id : String} {o : On} {x : Str} {p : Pos} {e : Expr} {es : List Expr} {f : EFs} (hc : CallR X (.builtin id) (rn (X.am W.Tb) o)) (hm : X.mg x = none) (ha : AA X W (e :: es) f) (hg : Gl X x := by rfl) (hv : bootBuiltins x = some (.builtin id) := by decide +kernel) (hn : x ≠ "__name__" := by decide) (hdb : (x == ("__debug__" : Str)) = false := by decide)
    (he : starEach (e :: es) X.env = (false, eval e X.env) :: starEach es X.env := by rfl) (hpl : (backTo pos (starEach es X.env)).any (·.1) = false := by rfl) : AE X W (.Call (.Name x p) (e :: es) [] pos) (eFn o f) :=
  (pe_callB hc hg hm hv ha hn hdb he hpl).pre fun _ _ _ h => fn_tK h
theorem ae_Ty {T : String} {o : On} {x : Str} {p : Pos} {e : Expr} {es : List Expr} {f : EFs} (hc : CallR X (.type T) (rn (X.am W.Tb) o)) (hm : X.mg x = none) (ha : AA X W (e :: es) f) (hg : Gl X x := by rfl) (hv : bootBuiltins x = some (.type T) := by decide +kernel) (hn : x ≠ "__name__" := by decide) (hdb : (x == ("__debug__" : Str)) = false := by decide)
    (he : starEach (e :: es) X.env = (false, eval e X.env) :: starEach es X.env := by rfl) (hpl : (backTo pos (starEach es X.env)).any (·.1) = false := by rfl) : AE X W (.Call (.Name x p) (e :: es) [] pos) (eFn o f) :=
  (pe_callTy hc hg hm hv ha hn hdb he hpl).pre fun _ _ _ h => fn_tK h
end
end AB
/-! AB2: operations -/
namespace AB
open PySem PySem.Spec PyProof.Rows L2
/-- the list that a cell holds -/
def Cell.list? : Cell → Option (List A)
  | .lst xs => some xs
  | .frz xs => some xs
  | _ => none
def listAt (M : Store) (l : Nat) : Option (List A) := match M[l]? with
  | some c => c.list?
  | none => none
theorem RM.list {ρ : List Addr} {H : Hp} {M : Store} (m : RM w ρ H M) {l : Nat} {a : Addr} {xs : List A} (ha : ρ[l]? = some a) (h : listAt M l = some xs) : ∃ vs, SqL w.K H a vs ∧ IsAll ρ H xs vs := by
  unfold listAt at h
  split at h
  · rename_i c e
    have r := m.at_ l a c ha e
    cases c with
    | lst ys => cases h; obtain ⟨vs, q, i⟩ := r; exact ⟨vs, .inl (.inl q), i⟩
    | frz ys =>
      cases h
      obtain ⟨vs, q, i⟩ := r
      rcases q with (⟨o, q⟩ | q) | q
      · exact ⟨vs, .inl (.inr ⟨o, q⟩), i⟩
      · exact ⟨vs, .inl (.inl q), i⟩
      · exact ⟨vs, .inr q, i⟩
    | dK _ => cases h
    | dT _ => cases h
    | dN _ => cases h
    | st _ => cases h
    | obj => cases h
    | xd _ => cases h
    | fk _ => cases h
    | fT _ => cases h
    | ins _ _ => cases h
  · cases h
theorem RM.lstM {ρ : List Addr} {H : Hp} {M : Store} (m : RM w ρ H M) {l : Nat} {a : Addr} {xs : List A} (ha : ρ[l]? = some a) (h : M[l]? = some (.lst xs)) : ∃ vs, H a = some (.lst vs) ∧ IsAll ρ H xs vs := m.at_ l a _ ha h
/-- a value's data -/
def dat (M : Store) : Nat → A → Option PyData
  | _, .non => some .none
  | _, .bl b => some (.bool b)
  | _, .int i => some (.int i)
  | _, .str x => some (.str x)
  | n + 1, .tup xs => (xs.mapM (dat M n)).map .tuple
  | n + 1, .ftp xs => (xs.mapM (dat M n)).map .tuple
  | n + 1, .lst l => (listAt M l).bind fun xs => (xs.mapM (dat M n)).map .list
  | _, _ => none
theorem mapM_cons_some {α β : Type} {f : α → Option β} {x : α} {xs : List α} {ys : List β} (h : (x :: xs).mapM f = some ys) : ∃ y ys', f x = some y ∧ xs.mapM f = some ys' ∧ ys = y :: ys' := by
  rw [List.mapM_cons] at h
  cases e : f x with
  | none => rw [e] at h; cases h
  | some y =>
    rw [e] at h
    cases e2 : xs.mapM f with
    | none => rw [e2] at h; cases h
    | some ys' => rw [e2] at h; cases h; exact ⟨y, ys', rfl, rfl, rfl⟩
section
variable {w : Amb} {ρ : List Addr} {H : Hp} {M : Store} {K : PySem.W.Frag}
theorem dat_all {n : Nat} (ih : ∀ {a : A} {v : V} {d : PyData}, Is ρ H a v → dat M n a = some d → Dp K H v d) : ∀ {xs : List A} {vs : List V} {ds : List PyData}, IsAll ρ H xs vs → xs.mapM (dat M n) = some ds → DpAll K H vs ds
  | [], _, ds, .nil, e => by
    rw [List.mapM_nil] at e; cases e; exact .nil
  | x :: xs, _, ds, .cons r rs, e => by
    obtain ⟨y, ys, e1, e2, rfl⟩ := mapM_cons_some e
    exact .cons (ih r e1) (dat_all ih rs e2)
theorem dat_ok (m : RM w ρ H M) : ∀ {n : Nat} {a : A} {v : V} {d : PyData}, Is ρ H a v → dat M n a = some d → Dp w.K H v d := by
  intro n
  induction n with
  | zero =>
    intro a v d r e
    cases r <;> simp only [dat] at e <;> cases e <;> constructor
  | succ n ih =>
    intro a v d r e
    cases r with
    | non => simp only [dat] at e; cases e; constructor
    | bl b => simp only [dat] at e; cases e; constructor
    | int i => simp only [dat] at e; cases e; constructor
    | str x => simp only [dat] at e; cases e; constructor
    | tup h rs =>
      simp only [dat] at e
      cases e2 : List.mapM (dat M n) _ with
      | none => rw [e2] at e; cases e
      | some ds =>
        rw [e2] at e; cases e
        exact .tup (.inl (.inl h)) (dat_all ih rs e2)
    | lst h =>
      simp only [dat] at e
      cases e1 : listAt M _ with
      | none => rw [e1] at e; cases e
      | some xs =>
        rw [e1] at e
        obtain ⟨vs, q, i⟩ := m.list h e1
        cases e2 : List.mapM (dat M n) xs with
        | none => rw [Option.bind_some, e2] at e; cases e
        | some ds =>
          rw [Option.bind_some, e2] at e; cases e
          exact .lst q (dat_all ih i e2)
    | dct h => simp only [dat] at e; cases e
    | ty n => simp only [dat] at e; cases e
    | obj h => simp only [dat] at e; cases e
    | rng h => simp only [dat] at e; cases e
    | ftp h _ _ rs =>
      simp only [dat] at e
      cases e2 : List.mapM (dat M n) _ with
      | none => rw [e2] at e; cases e
      | some ds =>
        rw [e2] at e; cases e
        exact .tup (.inl (.inr ⟨_, h⟩)) (dat_all ih rs e2)
end
/-- data that == may compare -/
def datS (M : Store) (a : A) : Option PyData := match dat M 8 a with
  | some d => if SeqAt.shaped d = true then some d else none
  | none => none
theorem datS_ok {ρ : List Addr} {H : Hp} {M : Store} (m : RM w ρ H M) {a : A} {v : V} {d : PyData} (r : Is ρ H a v) (e : datS M a = some d) : Dp w.K H v d ∧ SeqAt.shaped d = true := by
  unfold datS at e
  split at e
  · rename_i d' e'
    split at e
    · rename_i hs; cases e; exact ⟨dat_ok m r e', hs⟩
    · cases e
  · cases e
def flat? : A → Option V
  | .non => some .non
  | .bl b => some (.bl b)
  | .int i => some (.int i)
  | .str x => some (.str x)
  | _ => none
theorem flat_ok {ρ : List Addr} {H : Hp} {a : A} {v w : V} (r : Is ρ H a v) (e : flat? a = some w) : v = w ∧ flatV v = true := by
  cases r <;> simp only [flat?] at e <;> cases e <;> exact ⟨rfl, rfl⟩
theorem flats_ok {ρ : List Addr} {H : Hp} : ∀ {as : List A} {vs ws : List V}, IsAll ρ H as vs → as.mapM flat? = some ws → vs = ws ∧ vs.all flatV = true
  | [], _, ws, .nil, e => by rw [List.mapM_nil] at e; cases e; exact ⟨rfl, rfl⟩
  | x :: xs, _, ws, .cons r rs, e => by
    obtain ⟨y, ys, e1, e2, rfl⟩ := mapM_cons_some e
    obtain ⟨h1, h2⟩ := flat_ok r e1
    obtain ⟨h3, h4⟩ := flats_ok rs e2
    subst h1 h3
    exact ⟨rfl, by rw [List.all_cons, h2, h4]; rfl⟩
/-! ### results -/
section
variable {ρ : List Addr} {H : Hp} {M : Store}
theorem RO.val {a : A} {v : V} {Q : VK} (r : RO w ρ H (some (a, M)) Q) (m : RM w ρ H M) (i : Is ρ H a v) : Q v H := r v H ρ (.refl _) (.refl _) m i
/-- a new tuple -/
theorem RO.newT {ts : List A} {vs : List V} {Q : VK} {p : Addr} (r : RO w ρ H (some (.tup ts, M)) Q) (m : RM w ρ H M) (i : IsAll ρ H ts vs) (hp : H p = none) : Q (.ref p) (upd H p (.tup vs)) :=
  r _ _ ρ (.refl _) (.new hp) (m.new hp) (.tup upd_same (i.mono (.refl _) (.new hp)))
/-- a new list -/
theorem RO.newL {ts : List A} {vs : List V} {Q : VK} {p : Addr} (r : RO w ρ H (some (.lst M.length, M ++ [.lst ts])) Q) (m : RM w ρ H M) (i : IsAll ρ H ts vs) (hp : H p = none) : Q (.ref p) (upd H p (.lst vs)) :=
  r _ _ (ρ ++ [p]) (.snoc _ _) (.new hp) (m.push hp ⟨vs, upd_same, i.mono (.snoc _ _) (.new hp)⟩) (.lst (by rw [← m.len]; simp))
/-- a list is changed -/
theorem RO.setL {l : Nat} {a : A} {v : V} {b : Addr} {c : Cell} {ts : List A} {vs : List V} {Q : VK} (r : RO w ρ H (some (a, M.set l (.lst ts))) Q) (m : RM w ρ H M) (hb : ρ[l]? = some b) (hc : M[l]? = some c) (i : IsAll ρ H ts vs) (ia : Is ρ H a v) (hm : c.isM = true := by rfl) : Q v (upd H b (.lst vs)) :=
  have g := m.growSet (o := .lst vs) hb hc hm
  r _ _ ρ (.refl _) g (m.set hb hc ⟨vs, upd_same, i.mono (.refl _) g⟩ hm) (ia.mono (.refl _) g)
end
def oAdd : O2 := fun a b M => match a, b with
  | .int i, .int j => some (.int (i + j), M)
  | .tup xs, .tup ys => if xs.length + ys.length ≤ sizeLine then some (.tup (xs ++ ys), M) else none
  | .str x, .str y => if x.length + y.length ≤ sizeLine then some (.str (x ++ y), M) else none
  | .lst l, .lst k => match M[l]?, M[k]? with
    | some (.lst xs), some (.lst ys) => if xs.length + ys.length ≤ sizeLine then some (.lst M.length, M ++ [.lst (xs ++ ys)]) else none
    | _, _ => none
  | _, _ => none
section
variable {X : Cx}
theorem op_addA : OpR X (binaryOp .Add) (r2 (X.am Tb) oAdd) := by
  intro pins s σ H x y v u Q I rx ry h
  obtain ⟨a, b, M, ρ, ia, ib, m, r⟩ := h
  unfold oAdd at r
  split at r
  · cases ia; cases ib
    exact op_add pins s σ H _ _ v u Q I rx ry ⟨_, _, rfl, rfl, r.val m (.int _)⟩
  · cases ia with
    | tup ha qa =>
      cases ib with
      | tup hb qb =>
        split at r
        · rename_i hz
          refine op_catA pins s σ H _ _ v u Q I rx ry ⟨_, _, _, _, rfl, rfl, .inl (.inl ha), .inl (.inl hb), by rw [← qa.length, ← qb.length]; exact hz, ?_, ?_, ?_⟩
          · intro e; subst e; cases qa; exact r.val m (.tup hb qb)
          · intro _ e; subst e; cases qb; rw [List.append_nil] at r; exact r.val m (.tup ha qa)
          · intro _ _ p hp; exact r.newT m (qa.append qb) hp
        · exact r.elim
  · cases ia; cases ib
    split at r
    · rename_i hz
      exact op_add_str pins s σ H _ _ v u Q I rx ry ⟨_, _, rfl, rfl, hz, r.val m (.str _)⟩
    · exact r.elim
  · rename_i l k
    cases ia with
    | lst ha =>
      cases ib with
      | lst hb =>
        split at r
        · rename_i xs ys e1 e2
          split at r
          · rename_i hz
            obtain ⟨vs, h1, i1⟩ := m.lstM ha e1
            obtain ⟨ws, h2, i2⟩ := m.lstM hb e2
            exact op_cat pins s σ H _ _ v u Q I rx ry ⟨_, _, _, _, rfl, rfl, h1, h2, by rw [← i1.length, ← i2.length]; exact hz, fun p hp => r.newL m (i1.append i2) hp⟩
          · exact r.elim
        · exact r.elim
  · exact r.elim
def oSub : O2 := fun a b M => match a, b with
  | .int i, .int j => some (.int (i - j), M)
  | _, _ => none
theorem op_subA : OpR X (binaryOp .Sub) (r2 (X.am Tb) oSub) := by
  intro pins s σ H x y v u Q I rx ry h
  obtain ⟨a, b, M, ρ, ia, ib, m, r⟩ := h
  unfold oSub at r
  split at r
  · cases ia; cases ib
    exact op_sub pins s σ H _ _ v u Q I rx ry ⟨_, _, rfl, rfl, r.val m (.int _)⟩
  · exact r.elim
def oMul : O2 := fun a b M => match a, b with
  | .int i, .int j => if (-(2 ^ 64) < i ∧ i < 2 ^ 64) ∨ (-(2 ^ 64) < j ∧ j < 2 ^ 64) then some (.int (i * j), M) else none
  | .lst l, .int k => match M[l]? with
    | some (.lst xs) => if -(2 ^ 63) ≤ k ∧ k < 2 ^ 63 ∧ xs.length * k.toNat ≤ sizeLine then some (.lst M.length, M ++ [.lst (List.replicate k.toNat xs).flatten]) else none
    | _ => none
  | _, _ => none
theorem IsAll.rep {ρ : List Addr} {H : Hp} {ts : List A} {vs : List V} (r : IsAll ρ H ts vs) : ∀ n : Nat, IsAll ρ H (List.replicate n ts).flatten (List.replicate n vs).flatten
  | 0 => .nil
  | n + 1 => by
    rw [List.replicate_succ, List.replicate_succ, List.flatten_cons, List.flatten_cons]
    exact r.append (IsAll.rep r n)
theorem op_mulA : OpR X (binaryOp .Mult) (r2 (X.am Tb) oMul) := by
  intro pins s σ H x y v u Q I rx ry h
  obtain ⟨a, b, M, ρ, ia, ib, m, r⟩ := h
  unfold oMul at r
  split at r
  · cases ia; cases ib
    split at r
    · rename_i hc
      exact op_mul pins s σ H _ _ v u Q I rx ry ⟨_, _, rfl, rfl, hc, r.val m (.int _)⟩
    · exact r.elim
  · rename_i l k
    cases ib
    cases ia with
    | lst ha =>
      split at r
      · rename_i xs e1
        split at r
        · rename_i hc
          obtain ⟨vs, h1, i1⟩ := m.lstM ha e1
          exact op_rep pins s σ H _ _ v u Q I rx ry ⟨_, _, _, rfl, rfl, h1, hc.1, hc.2.1, by rw [← i1.length]; exact hc.2.2, fun p hp => r.newL m (i1.rep _) hp⟩
        · exact r.elim
      · exact r.elim
  · exact r.elim
def oFdiv : O2 := fun a b M => match a, b with
  | .int i, .int j => if 0 < j ∧ j < 1073741824 then some (.int (i / j), M) else none
  | _, _ => none
theorem op_fdivA : OpR X (binaryOp .FloorDiv) (r2 (X.am Tb) oFdiv) := by
  intro pins s σ H x y v u Q I rx ry h
  obtain ⟨a, b, M, ρ, ia, ib, m, r⟩ := h
  unfold oFdiv at r
  split at r
  · cases ia; cases ib
    split at r
    · rename_i hc
      exact op_fdiv pins s σ H _ _ v u Q I rx ry ⟨_, _, rfl, rfl, hc, r.val m (.int _)⟩
    · exact r.elim
  · exact r.elim
def oMod : O2 := fun a b M => match a, b with
  | .int i, .int j => if 0 < j then some (.int (i % j), M) else none
  | _, _ => none
theorem op_modA : OpR X (binaryOp .Mod) (r2 (X.am Tb) oMod) := by
  intro pins s σ H x y v u Q I rx ry h
  obtain ⟨a, b, M, ρ, ia, ib, m, r⟩ := h
  unfold oMod at r
  split at r
  · cases ia; cases ib
    split at r
    · rename_i hc
      exact op_mod pins s σ H _ _ v u Q I rx ry ⟨_, _, rfl, rfl, hc, r.val m (.int _)⟩
    · exact r.elim
  · exact r.elim
def oPow : O2 := fun a b M => match a, b with
  | .int i, .int j => if 0 ≤ j ∧ j ≤ 1000000 ∧ i.natAbs < 2 ^ 64 then some (.int (i ^ j.toNat), M) else none
  | _, _ => none
theorem op_powA : OpR X (binaryOp .Pow) (r2 (X.am Tb) oPow) := by
  intro pins s σ H x y v u Q I rx ry h
  obtain ⟨a, b, M, ρ, ia, ib, m, r⟩ := h
  unfold oPow at r
  split at r
  · cases ia; cases ib
    split at r
    · rename_i hc
      exact op_pow pins s σ H _ _ v u Q I rx ry ⟨_, _, rfl, rfl, hc, r.val m (.int _)⟩
    · exact r.elim
  · exact r.elim
def oNeg : O1 := fun a M => match a with
  | .int i => some (.int (-i), M)
  | _ => none
theorem un_negA : UnR X (unaryOp .USub) (r1 (X.am Tb) oNeg) := by
  intro pins s σ H x v Q I rx h
  obtain ⟨a, M, ρ, ia, m, r⟩ := h
  unfold oNeg at r
  split at r
  · cases ia
    exact un_neg pins s σ H _ v Q I rx ⟨_, rfl, r.val m (.int _)⟩
  · exact r.elim
/-! ### comparisons -/
def oEq : O2 := fun a b M => match datS M a, datS M b with
  | some d, some e => some (.bl (PyData.eqv d e), M)
  | _, _ => none
def oNe : O2 := fun a b M => match datS M a, datS M b with
  | some d, some e => some (.bl (!PyData.eqv d e), M)
  | _, _ => none
theorem op_eqA (hu : X.A.units + 64 < cLine) : OpR X (compareOp .Eq) (r2 (X.am Tb) oEq) := by
  intro pins s σ H x y v u Q I rx ry h
  obtain ⟨a, b, M, ρ, ia, ib, m, r⟩ := h
  unfold oEq at r
  split at r
  · rename_i d e e1 e2
    obtain ⟨h1, s1⟩ := datS_ok m ia e1
    obtain ⟨h2, s2⟩ := datS_ok m ib e2
    exact op_eqD hu pins s σ H x y v u Q I rx ry ⟨d, e, h1, h2, s1, s2, r.val m (.bl _)⟩
  · exact r.elim
theorem op_neA (hu : X.A.units + 64 < cLine) : OpR X (compareOp .NotEq) (r2 (X.am Tb) oNe) := by
  intro pins s σ H x y v u Q I rx ry h
  obtain ⟨a, b, M, ρ, ia, ib, m, r⟩ := h
  unfold oNe at r
  split at r
  · rename_i d e e1 e2
    obtain ⟨h1, s1⟩ := datS_ok m ia e1
    obtain ⟨h2, s2⟩ := datS_ok m ib e2
    exact op_neD hu pins s σ H x y v u Q I rx ry ⟨d, e, h1, h2, s1, s2, r.val m (.bl _)⟩
  · exact r.elim
def oInt (p : Int → Int → Bool) : O2 := fun a b M => match a, b with
  | .int i, .int j => some (.bl (p i j), M)
  | _, _ => none
def oLt : O2 := oInt fun i j => decide (i < j)
def oLe : O2 := oInt fun i j => decide (i ≤ j)
def oGt : O2 := oInt fun i j => decide (j < i)
def oGe : O2 := oInt fun i j => decide (j ≤ i)
theorem op_intA {op : CmpOp} {p : Int → Int → Bool} (ho : OpR X (compareOp op) (rI0 fun i j => .bl (p i j))) : OpR X (compareOp op) (r2 (X.am Tb) (oInt p)) := by
  intro pins s σ H x y v u Q I rx ry h
  obtain ⟨a, b, M, ρ, ia, ib, m, r⟩ := h
  unfold oInt at r
  split at r
  · cases ia; cases ib
    exact ho pins s σ H _ _ v u Q I rx ry ⟨_, _, rfl, rfl, r.val m (.bl _)⟩
  · exact r.elim
theorem op_ltA : OpR X (compareOp .Lt) (r2 (X.am Tb) oLt) := op_intA op_lt
theorem op_leA : OpR X (compareOp .LtE) (r2 (X.am Tb) oLe) := op_intA op_le
theorem op_gtA : OpR X (compareOp .Gt) (r2 (X.am Tb) oGt) := op_intA op_gt
theorem op_geA : OpR X (compareOp .GtE) (r2 (X.am Tb) oGe) := op_intA op_ge
def isNon : A → Bool
  | .non => true
  | _ => false
def oIs : O2 := fun a b M => match b with
  | .non => some (.bl (isNon a), M)
  | _ => none
def oIsNot : O2 := fun a b M => match b with
  | .non => some (.bl (!isNon a), M)
  | _ => none
theorem isNon_ok {ρ : List Addr} {H : Hp} {a : A} {v : V} (r : Is ρ H a v) : decide (v = .non) = isNon a := by
  cases r <;> simp [isNon]
theorem op_isA : OpR X (compareOp .Is) (r2 (X.am Tb) oIs) := by
  intro pins s σ H x y v u Q I rx ry h
  obtain ⟨a, b, M, ρ, ia, ib, m, r⟩ := h
  unfold oIs at r
  split at r
  · cases ib
    exact op_isN pins s σ H _ _ v u Q I rx ry ⟨rfl, by rw [isNon_ok ia]; exact r.val m (.bl _)⟩
  · exact r.elim
theorem op_isNotA : OpR X (compareOp .IsNot) (r2 (X.am Tb) oIsNot) := by
  intro pins s σ H x y v u Q I rx ry h
  obtain ⟨a, b, M, ρ, ia, ib, m, r⟩ := h
  unfold oIsNot at r
  split at r
  · cases ib
    exact op_notN pins s σ H _ _ v u Q I rx ry ⟨rfl, by rw [isNon_ok ia]; exact r.val m (.bl _)⟩
  · exact r.elim
/-! ### keys of dicts -/
def key? : A → Option Key
  | .int i => some (.inl i)
  | .str x => some (.inr x)
  | _ => none
theorem key_ok {ρ : List Addr} {H : Hp} {a : A} {v : V} {k : Key} (r : Is ρ H a v) (e : key? a = some k) : v = kV k := by
  cases r <;> simp only [key?] at e <;> cases e <;> rfl
theorem keys_ok {ρ : List Addr} {H : Hp} : ∀ {as : List A} {vs : List V} {ks : List Key}, IsAll ρ H as vs → as.mapM key? = some ks → vs = ks.map kV
  | [], _, ks, .nil, e => by rw [List.mapM_nil] at e; cases e; rfl
  | x :: xs, _, ks, .cons r rs, e => by
    obtain ⟨y, ys, e1, e2, rfl⟩ := mapM_cons_some e
    rw [key_ok r e1, keys_ok rs e2]; rfl
section
variable {κ : Type} [DecidableEq κ]
def valA (kvs : List (κ × A)) (k : κ) : Option A := (kvs.find? fun kv => decide (kv.1 = k)).map (·.2)
def putA (kvs : List (κ × A)) (k : κ) (v : A) : List (κ × A) :=
  if (kvs.any fun kv => decide (kv.1 = k)) = true then kvs.map (fun kv => if kv.1 = k then (kv.1, v) else kv) else kvs ++ [(k, v)]
theorem valA_ok {ρ : List Addr} {H : Hp} (k : κ) : ∀ {kvs : List (κ × A)} {vs : List V}, IsAll ρ H (kvs.map (·.2)) vs →
    (valA kvs k = none ∧ valV ((kvs.map (·.1)).zip vs) k = none) ∨ ∃ a v, valA kvs k = some a ∧ valV ((kvs.map (·.1)).zip vs) k = some v ∧ Is ρ H a v
  | [], _, .nil => .inl ⟨rfl, rfl⟩
  | (j, a) :: kvs, _, .cons (v := v) (vs := vs) r rs => by
    by_cases e : j = k
    · subst e
      exact .inr ⟨a, v, by simp [valA], by simp [valV], r⟩
    · have ih := valA_ok (H := H) k rs
      have e1 : valA ((j, a) :: kvs) k = valA kvs k := by simp [valA, List.find?_cons, e]
      have e2 : valV ((((j, a) :: kvs).map (·.1)).zip (v :: vs)) k = valV ((kvs.map (·.1)).zip vs) k := by simp [valV, List.find?_cons, e]
      rw [e1, e2]; exact ih
theorem put_ok {ρ : List Addr} {H : Hp} (k : κ) {x : A} {y : V} (rx : Is ρ H x y) {kvs : List (κ × A)} {vs : List V} (r : IsAll ρ H (kvs.map (·.2)) vs) :
    ∃ ws, putK ((kvs.map (·.1)).zip vs) k y = ((putA kvs k x).map (·.1)).zip ws ∧ IsAll ρ H ((putA kvs k x).map (·.2)) ws := by
  have any_eq : ∀ {kvs : List (κ × A)} {vs : List V}, IsAll ρ H (kvs.map (·.2)) vs → (((kvs.map (·.1)).zip vs).any fun kv => decide (kv.1 = k)) = kvs.any fun kv => decide (kv.1 = k) := by
    intro kvs
    induction kvs with
    | nil => intro vs r; cases r; rfl
    | cons p kvs ih =>
      intro vs r
      cases r with
      | cons r rs => simp only [List.map_cons, List.zip_cons_cons, List.any_cons, ih rs]
  unfold putK putA
  rw [any_eq r]
  split
  · clear any_eq
    rename_i hany; clear hany
    induction kvs generalizing vs with
    | nil => cases r; exact ⟨[], rfl, .nil⟩
    | cons p kvs ih =>
      cases r with
      | @cons _ v0 _ vs0 r rs =>
        obtain ⟨ws, e1, e2⟩ := ih rs
        obtain ⟨j, a⟩ := p
        by_cases e : j = k
        · subst e
          refine ⟨y :: ws, ?_, ?_⟩
          · simp only [List.map_cons, List.zip_cons_cons, if_true]
            rw [e1]
          · simp only [List.map_cons, if_true]
            exact .cons rx e2
        · refine ⟨v0 :: ws, ?_, ?_⟩
          · simp only [List.map_cons, List.zip_cons_cons, if_neg e]
            rw [e1]
          · simp only [List.map_cons, if_neg e]
            exact .cons r e2
  · refine ⟨vs ++ [y], ?_, ?_⟩
    · rw [List.map_append, List.zip_append (by simpa using r.length)]; rfl
    · rw [List.map_append]; exact r.append (.cons rx .nil)
end
/-- what a dict holds at a key -/
def dGet (M : Store) (d : Nat) (k : A) : Option (Option A) := match M[d]? with
  | some (.dK kvs) => (key? k).map fun j => valA kvs j
  | some (.dT kvs) => match k with
    | .tup xs => (xs.mapM key?).map fun j => valA kvs j
    | _ => none
  | some (.fk kvs) => (key? k).map fun j => valA kvs j
  | some (.fT kvs) => match k with
    | .tup xs => (xs.mapM key?).map fun j => valA kvs j
    | _ => none
  | _ => none
def dPut (M : Store) (d : Nat) (k x : A) : Option Store := match M[d]? with
  | some (.dK kvs) => if kvs.length < sizeLine then (key? k).map fun j => M.set d (.dK (putA kvs j x)) else none
  | some (.dT kvs) => if kvs.length < sizeLine then match k with
    | .tup xs => (xs.mapM key?).map fun j => M.set d (.dT (putA kvs j x))
    | _ => none else none
  | _ => none
theorem dGet_ok {ρ : List Addr} {H : Hp} {M : Store} (m : RM w ρ H M) {d : Nat} {b : Addr} {k : A} {y : V} {o : Option A} (hb : ρ[d]? = some b) (ik : Is ρ H k y) (e : dGet M d k = some o) :
    (o = none ∧ DGet H b y none) ∨ ∃ a v, o = some a ∧ DGet H b y (some v) ∧ Is ρ H a v := by
  unfold dGet at e
  split at e
  · rename_i kvs ec
    obtain ⟨vs, h, i⟩ := m.at_ d b _ hb ec
    cases ek : key? k with
    | none => rw [ek] at e; cases e
    | some j =>
      rw [ek] at e; cases e
      rw [key_ok ik ek]
      rcases valA_ok j i with ⟨h1, h2⟩ | ⟨a, v, h1, h2, h3⟩
      · exact .inl ⟨h1, by rw [← h2]; exact DGet.k h⟩
      · exact .inr ⟨a, v, h1, by rw [← h2]; exact DGet.k h, h3⟩
  · rename_i kvs ec
    obtain ⟨vs, h, i⟩ := m.at_ d b _ hb ec
    split at e
    · rename_i xs
      cases ik with
      | tup ht it =>
        cases ek : xs.mapM key? with
        | none => rw [ek] at e; cases e
        | some j =>
          rw [ek] at e; cases e
          rw [keys_ok it ek] at ht
          rcases valA_ok j i with ⟨h1, h2⟩ | ⟨a, v, h1, h2, h3⟩
          · exact .inl ⟨h1, by rw [← h2]; exact DGet.t h ht⟩
          · exact .inr ⟨a, v, h1, by rw [← h2]; exact DGet.t h ht, h3⟩
    · cases e
  · rename_i kvs ec
    obtain ⟨od, vs, h, i⟩ := m.at_ d b _ hb ec
    cases ek : key? k with
    | none => rw [ek] at e; cases e
    | some j =>
      rw [ek] at e; cases e
      rw [key_ok ik ek]
      rcases valA_ok j i with ⟨h1, h2⟩ | ⟨a, v, h1, h2, h3⟩
      · exact .inl ⟨h1, .inl ⟨_, _, .inr ⟨od, h⟩, rfl, h2.symm⟩⟩
      · exact .inr ⟨a, v, h1, .inl ⟨_, _, .inr ⟨od, h⟩, rfl, h2.symm⟩, h3⟩
  · rename_i kvs ec
    obtain ⟨od, vs, h, i⟩ := m.at_ d b _ hb ec
    split at e
    · rename_i xs
      cases ik with
      | tup ht it =>
        cases ek : xs.mapM key? with
        | none => rw [ek] at e; cases e
        | some j =>
          rw [ek] at e; cases e
          rw [keys_ok it ek] at ht
          rcases valA_ok j i with ⟨h1, h2⟩ | ⟨a, v, h1, h2, h3⟩
          · exact .inl ⟨h1, .inr ⟨_, _, _, .inr ⟨od, h⟩, rfl, ht, h2.symm⟩⟩
          · exact .inr ⟨a, v, h1, .inr ⟨_, _, _, .inr ⟨od, h⟩, rfl, ht, h2.symm⟩, h3⟩
    · cases e
  · cases e
theorem dPut_ok {ρ : List Addr} {H : Hp} {M M' : Store} (m : RM w ρ H M) {d : Nat} {b : Addr} {k x : A} {y z : V} (hb : ρ[d]? = some b) (ik : Is ρ H k y) (ix : Is ρ H x z) (e : dPut M d k x = some M') :
    ∃ H', DPut H b y z H' ∧ RM w ρ H' M' ∧ Grow H H' := by
  unfold dPut at e
  split at e
  · rename_i kvs ec
    obtain ⟨vs, h, i⟩ := m.at_ d b _ hb ec
    split at e
    · rename_i hz
      cases ek : key? k with
      | none => rw [ek] at e; cases e
      | some j =>
        rw [ek] at e; cases e
        rw [key_ok ik ek]
        obtain ⟨ws, e1, e2⟩ := put_ok j ix i
        have hl : ((kvs.map (·.1)).zip vs).length < sizeLine := by
          have := i.length
          simp only [List.length_zip, List.length_map] at this ⊢; omega
        have dp := DPut.k (k := j) (v := z) h hl
        rw [e1] at dp
        exact ⟨_, dp, m.set hb ec ⟨ws, upd_same, e2.mono (.refl _) (m.growSet hb ec)⟩, m.growSet hb ec⟩
    · cases e
  · rename_i kvs ec
    obtain ⟨vs, h, i⟩ := m.at_ d b _ hb ec
    split at e
    · rename_i hz
      split at e
      · rename_i xs
        cases ik with
        | tup ht it =>
          cases ek : xs.mapM key? with
          | none => rw [ek] at e; cases e
          | some j =>
            rw [ek] at e; cases e
            rw [keys_ok it ek] at ht
            obtain ⟨ws, e1, e2⟩ := put_ok j ix i
            have hl : ((kvs.map (·.1)).zip vs).length < sizeLine := by
              have := i.length
              simp only [List.length_zip, List.length_map] at this ⊢; omega
            have dp := DPut.t (k := j) (v := z) h ht hl
            rw [e1] at dp
            exact ⟨_, dp, m.set hb ec ⟨ws, upd_same, e2.mono (.refl _) (m.growSet hb ec)⟩, m.growSet hb ec⟩
      · cases e
    · cases e
  · cases e
/-- x in y: a dict's keys; flat items of a list or a tuple; data in a list -/
def oIn : O2 := fun a b M => match b with
  | .dct d => (dGet M d a).map fun o => (.bl o.isSome, M)
  | .tup xs => match flat? a, xs.mapM flat? with
    | some x, some ys => some (.bl (inV x ys), M)
    | _, _ => none
  | .lst l => match listAt M l with
    | some xs => match flat? a, xs.mapM flat? with
      | some x, some ys => some (.bl (inV x ys), M)
      | _, _ => match datS M a, datS M (.lst l) with
        | some d, some (.list ds) => some (.bl (ds.any fun z => PyData.eqv z d), M)
        | _, _ => none
    | none => none
  | _ => none
def notO (o : O2) : O2 := fun a b M => match o a b M with
  | some (.bl c, M) => some (.bl (!c), M)
  | _ => none
def oNotIn : O2 := notO oIn
theorem op_inA (hu : X.A.units + 65 < cLine) : OpR X (compareOp .In) (r2 (X.am Tb) oIn) := by
  intro pins s σ H x y v u Q I rx ry h
  obtain ⟨a, b, M, ρ, ia, ib, m, r⟩ := h
  unfold oIn at r
  split at r
  · rename_i d
    cases ib with
    | dct hb =>
      cases e : dGet M d a with
      | none => rw [e] at r; exact r.elim
      | some o =>
        rw [e] at r
        cases ry
        rcases dGet_ok m hb ia e with ⟨rfl, g⟩ | ⟨c, w, rfl, g, _⟩
        · exact d_in (by omega) I g rx fun s' I' => ⟨.bl _, H, I', rfl, r.val m (.bl _)⟩
        · exact d_in (by omega) I g rx fun s' I' => ⟨.bl _, H, I', rfl, r.val m (.bl _)⟩
  · cases ib with
    | tup hb ibs =>
      split at r
      · rename_i x' ys e1 e2
        obtain ⟨rfl, f1⟩ := flat_ok ia e1
        obtain ⟨rfl, f2⟩ := flats_ok ibs e2
        exact op_in_seq pins s σ H _ _ v u Q I rx ry ⟨_, _, rfl, .inr (.inl (.inl hb)), f1, f2, r.val m (.bl _)⟩
      · exact r.elim
  · rename_i l
    cases ib with
    | lst hb =>
      split at r
      · rename_i xs el
        obtain ⟨vs, hq, is⟩ := m.list hb el
        split at r
        · rename_i x' ys e1 e2
          obtain ⟨rfl, f1⟩ := flat_ok ia e1
          obtain ⟨rfl, f2⟩ := flats_ok is e2
          exact op_in_seq pins s σ H _ _ v u Q I rx ry ⟨_, _, rfl, .inl hq, f1, f2, r.val m (.bl _)⟩
        · split at r
          · rename_i d ds e1 e2
            obtain ⟨h1, s1⟩ := datS_ok m ia e1
            obtain ⟨h2, s2⟩ := datS_ok m (.lst hb) e2
            exact op_inD hu pins s σ H _ _ v u Q I rx ry ⟨d, ds, h1, h2, s1, s2, r.val m (.bl _)⟩
          · exact r.elim
      · exact r.elim
  · exact r.elim
theorem op_notInA (hu : X.A.units + 65 < cLine) : OpR X (compareOp .NotIn) (r2 (X.am Tb) oNotIn) := by
  intro pins s σ H x y v u Q I rx ry h
  obtain ⟨a, b, M, ρ, ia, ib, m, r⟩ := h
  unfold oNotIn notO oIn at r
  cases b with
  | dct d =>
    cases ib with
    | dct hb =>
      simp only at r
      cases e : dGet M d a with
      | none => rw [e] at r; exact r.elim
      | some o =>
        rw [e] at r
        cases ry
        rcases dGet_ok m hb ia e with ⟨rfl, g⟩ | ⟨c, w, rfl, g, _⟩
        · exact d_notIn (by omega) I g rx fun s' I' => ⟨.bl _, H, I', rfl, RO.val (ρ := ρ) (M := M) r m (.bl _)⟩
        · exact d_notIn (by omega) I g rx fun s' I' => ⟨.bl _, H, I', rfl, RO.val (ρ := ρ) (M := M) r m (.bl _)⟩
  | tup xs =>
    cases ib with
    | tup hb ibs =>
      simp only at r
      cases e1 : flat? a with
      | none => rw [e1] at r; exact r.elim
      | some x' =>
        cases e2 : xs.mapM flat? with
        | none => rw [e1, e2] at r; exact r.elim
        | some ys =>
          rw [e1, e2] at r
          obtain ⟨rfl, f1⟩ := flat_ok ia e1
          obtain ⟨rfl, f2⟩ := flats_ok ibs e2
          exact op_notIn_seq pins s σ H _ _ v u Q I rx ry ⟨_, _, rfl, .inr (.inl (.inl hb)), f1, f2, RO.val (ρ := ρ) (M := M) r m (.bl _)⟩
  | lst l =>
    cases ib with
    | lst hb =>
      simp only at r
      cases el : listAt M l with
      | none => rw [el] at r; exact r.elim
      | some xs =>
        rw [el] at r
        obtain ⟨vs, hq, is⟩ := m.list hb el
        simp only at r
        have deep : RO (X.am Tb) ρ H (match (match datS M a, datS M (.lst l) with
            | some d, some (.list ds) => some (A.bl (ds.any fun z => PyData.eqv z d), M)
            | _, _ => none) with
            | some (.bl c, M) => some (A.bl (!c), M)
            | _ => none) Q → wpAny (model X.prog X.w) X.A (compareOp .NotIn v u) (EP X pins σ Q) X.xe s := fun r => by
          cases e3 : datS M a with
          | none => rw [e3] at r; exact r.elim
          | some d =>
            cases e4 : datS M (.lst l) with
            | none => rw [e3, e4] at r; exact r.elim
            | some dl =>
              rw [e3, e4] at r
              cases dl with
              | list ds =>
                obtain ⟨h1, s1⟩ := datS_ok m ia e3
                obtain ⟨h2, s2⟩ := datS_ok m (.lst hb) e4
                exact op_notInD hu pins s σ H _ _ v u Q I rx ry ⟨d, ds, h1, h2, s1, s2, RO.val (ρ := ρ) (M := M) r m (.bl _)⟩
              | _ => exact r.elim
        cases e1 : flat? a with
        | none => rw [e1] at r; exact deep r
        | some x' =>
          cases e2 : xs.mapM flat? with
          | none => rw [e1, e2] at r; exact deep r
          | some ys =>
            rw [e1, e2] at r
            obtain ⟨rfl, f1⟩ := flat_ok ia e1
            obtain ⟨rfl, f2⟩ := flats_ok is e2
            exact op_notIn_seq pins s σ H _ _ v u Q I rx ry ⟨_, _, rfl, .inl hq, f1, f2, RO.val (ρ := ρ) (M := M) r m (.bl _)⟩
  | _ => exact r.elim
end
end AB
/-! AB3: tests, statements, loops, comprehensions, calls -/
namespace AB
open PySem PySem.Spec PyProof.Rows L2
/-! ### comparisons, tests, and | or | not -/
section
variable {X : Cx} {W : WR} {pos : Pos} {a b c : Expr} {f g h : EF} {rest : List Expr}
theorem ae_cmp {op : CmpOp} {o : O2} (ho : OpR X (compareOp op) (r2 (X.am W.Tb) o)) (ha : AE X W a f) (hb : AE X W b g) (hm : behindInMarks op b = false := by with_unfolding_all rfl) : AE X W (.Compare a [op] [b] pos) (eOp o f g) :=
  (pe_cmpR ho ha hb hm).pre fun _ _ _ h => op_tK h
/-- a bool's value as a test -/
def eB (f : EF) : EFb := fun τ M => (f τ M).bind fun a M1 => match a with
  | .bl k => .ok k M1
  | _ => .bad
theorem bool_tK {f : EF} {σ : L2.St} {H : Hp} {Q : Bool → Hp → Prop} {G : Gx} (h : tG G W relB (eB f) σ H Q) : tG G W Is f σ H fun x H' => ∃ k, x = .bl k ∧ Q k H' := by
  refine (seqG Is h).imp fun x H1 h1 => ?_
  obtain ⟨τ, M, ρ, a, rs, rm, i, r⟩ := h1
  cases a with
  | bl k => cases i; exact ⟨k, rfl, r.okv (.refl _) (.refl _) rm rfl⟩
  | _ => exact r.elim
theorem at_cmp {op : CmpOp} {o : O2} (ho : OpR X (compareOp op) (r2 (X.am W.Tb) o)) (ha : AE X W a f) (hb : AE X W b g) (hm : behindInMarks op b = false := by with_unfolding_all rfl) : AT X W (.Compare a [op] [b] pos) (eB (eOp o f g)) :=
  (pt_cmpR ho ha hb hm).pre fun σ H Q h => by
    have h' := bool_tK h
    exact op_tK h'
def chainK (o' : O2) (h : EF) (τ : Sl) (b k : A) (M3 : Store) : EO A := match k with
  | .bl true => (h τ M3).bind fun c M4 => toE (o' b c M4)
  | .bl false => .ok (.bl false) M3
  | _ => .bad
def eChain (o o' : O2) (f g h : EF) : EF := fun τ M => (f τ M).bind fun a M1 => (g τ M1).bind fun b M2 => (toE (o a b M2)).bind (chainK o' h τ b)
theorem chain_tK {o o' : O2} {σ : L2.St} {H : Hp} {Q : VK} {G : Gx} (h' : tG G W Is (eChain o o' f g h) σ H Q) :
    tG G W Is f σ H fun x H1 => tG G W Is g σ H1 fun y H2 => r2 G.w o x y H2 fun z H3 => ∃ k, z = .bl k ∧ (if k = true then tG G W Is h σ H3 fun w' H4 => r2 G.w o' y w' H4 Q else Q (.bl false) H3) := by
  refine (seqG Is h').imp fun x H1 h1 => ?_
  refine (seqK Is Is.ext Is h1).imp fun y H2 h2 => ?_
  obtain ⟨τ, M, ρ, a, b, rs, rm, i, j, r⟩ := h2
  refine ⟨a, b, M, ρ, i, j, rm, ?_⟩
  cases e : o a b M with
  | none => rw [e] at r; exact r
  | some p =>
    obtain ⟨k, M3⟩ := p
    rw [e] at r
    refine fun z H3 ρ3 x3 g3 m3 i3 => ?_
    have r : RE G W σ ρ H2 Is (chainK o' h τ b k M3) Q := r
    cases k with
    | bl k =>
      cases i3
      refine ⟨k, rfl, ?_⟩
      cases k with
      | true =>
        rw [if_pos rfl]
        have r3 := r.mono x3 g3
        refine ⟨τ, M3, ρ3, rs.mono x3 g3, m3, ?_⟩
        have r3 : RE G W σ ρ3 H3 Is ((h τ M3).bind fun c M4 => toE (o' b c M4)) Q := r3
        cases e4 : h τ M3 with
        | ok c M4 =>
          rw [e4] at r3
          exact fun w' H4 ρ4 x4 g4 m4 i4 => ⟨b, c, M4, ρ4, (j.mono x3 g3).mono x4 g4, i4, m4, RO.of (RE.mono r3 x4 g4)⟩
        | ex en M4 => rw [e4] at r3; exact r3
        | bad => rw [e4] at r3; exact r3
      | false =>
        rw [if_neg Bool.false_ne_true]
        exact r.okv x3 g3 m3 (.bl false)
    | _ => exact r.elim
theorem ae_chain {op op' : CmpOp} {o o' : O2} (ho : OpR X (compareOp op) (r2 (X.am W.Tb) o)) (ho' : OpR X (compareOp op') (r2 (X.am W.Tb) o')) (ha : AE X W a f) (hb : AE X W b g) (hc : AE X W c h)
    (hm : lastMarks [op, op'] [b, c] = false := by with_unfolding_all rfl) : AE X W (.Compare a [op, op'] [b, c] pos) (eChain o o' f g h) := (pe_chain ho ho' ha hb hc hm).pre fun _ _ _ h => chain_tK h
theorem at_chain {op op' : CmpOp} {o o' : O2} (ho : OpR X (compareOp op) (r2 (X.am W.Tb) o)) (ho' : OpR X (compareOp op') (r2 (X.am W.Tb) o')) (ha : AE X W a f) (hb : AE X W b g) (hc : AE X W c h)
    (hm : lastMarks [op, op'] [b, c] = false := by with_unfolding_all rfl) : AT X W (.Compare a [op, op'] [b, c] pos) (eB (eChain o o' f g h)) := (pt_chain ho ho' ha hb hc hm).pre fun _ _ _ h => chain_tK (bool_tK h)
/-- truth -/
def truA (M : Store) : A → Option Bool
  | .non => some false
  | .bl b => some b
  | .int i => some (i != 0)
  | .str x => if x.length ≤ sizeLine then some ((x.length : Int) != 0) else none
  | .tup xs => some (!xs.isEmpty)
  | .lst l => (listAt M l).map fun xs => !xs.isEmpty
  | .dct d => match M[d]? with
    | some (.dK kvs) => some (!kvs.isEmpty)
    | _ => none
  | .ty _ => none
  | .obj _ => none
  | .rng _ _ => none
  | .ftp _ => none
theorem isEmpty_all {ρ : List Addr} {H : Hp} {ts : List A} {vs : List V} (r : IsAll ρ H ts vs) : vs.isEmpty = ts.isEmpty := by cases r <;> rfl
theorem truA_ok {ρ : List Addr} {H : Hp} {M : Store} (m : RM w ρ H M) {a : A} {v : V} {k : Bool} (i : Is ρ H a v) (e : truA M a = some k) : TruV w.K v H k := by
  cases i with
  | non => cases e; rfl
  | bl b => cases e; rfl
  | int i => cases e; rfl
  | str x =>
    simp only [truA] at e
    split at e
    · rename_i hz; cases e; exact ⟨hz, rfl⟩
    · cases e
  | tup h r => cases e; exact .inr (.inl ⟨_, .inl (.inl h), by rw [isEmpty_all r]⟩)
  | lst h =>
    simp only [truA] at e
    cases e1 : listAt M _ with
    | none => rw [e1] at e; cases e
    | some xs =>
      rw [e1] at e; cases e
      obtain ⟨vs, q, r⟩ := m.list h e1
      exact .inl ⟨vs, q, by rw [isEmpty_all r]⟩
  | dct h =>
    simp only [truA] at e
    split at e
    · rename_i kvs e1
      cases e
      obtain ⟨vs, q, r⟩ := m.at_ _ _ _ h e1
      refine .inr (.inr ⟨_, q, ?_⟩)
      cases kvs with
      | nil => cases r; rfl
      | cons p kvs => cases r; rfl
    · cases e
  | ty n => simp only [truA] at e; cases e
  | obj h => simp only [truA] at e; cases e
  | rng h => simp only [truA] at e; cases e
  | ftp _ _ _ _ => simp only [truA] at e; cases e
def eT (f : EF) : EFb := fun τ M => (f τ M).bind fun a M1 => match truA M1 a with
  | some k => .ok k M1
  | none => .bad
theorem at_val (ha : AE X W a f) (he : ∀ whole, isTrue a X.env whole = (do let v ← whole; standAt a.pos; holding [v] (truthy v)) := by intro _; rfl) : AT X W a (eT f) :=
  (pt_truth ha he).pre fun σ H Q h => by
    refine (seqG Is h).imp fun x H1 h1 => ?_
    obtain ⟨τ, M, ρ, a, rs, rm, i, r⟩ := h1
    dsimp only at r
    cases e : truA M a with
    | none => rw [e] at r; exact r.elim
    | some k => rw [e] at r; exact ⟨k, truA_ok rm i e, r.okv (.refl _) (.refl _) rm rfl⟩
def bAnd (f g : EFb) : EFb := fun τ M => (f τ M).bind fun k M1 => if k = true then g τ M1 else .ok false M1
def bOr (f g : EFb) : EFb := fun τ M => (f τ M).bind fun k M1 => if k = true then .ok true M1 else g τ M1
def bNot (f : EFb) : EFb := fun τ M => (f τ M).bind fun k M1 => .ok (!k) M1
variable {fb gb : EFb}
def AW (X : Cx) (W : WR) (e : Expr) (f : EFb) : Prop := PW X e (tG (X.gx W.Tb) W relB f)
theorem _root_.L2.PW.pre {X : Cx} {e : Expr} {t t' : TT} (h : PW X e t) (w : ∀ σ H Q, t' σ H Q → t σ H Q) : PW X e t' := ⟨fun wh pins s σ H Q I q => h.run wh pins s σ H Q I (w σ H Q q)⟩
theorem AW.at (h : AW X W a fb) : AT X W a fb := PW.pt h
theorem aw_and1 (ha : AT X W a fb) : AW X W (.BoolOp .And [a] pos) fb := pw_and1 ha
theorem aw_or1 (ha : AT X W a fb) : AW X W (.BoolOp .Or [a] pos) fb := pw_or1 ha
theorem and_tK {σ : L2.St} {H : Hp} {Q : Bool → Hp → Prop} {G : Gx} (h : tG G W relB (bAnd fb gb) σ H Q) : tG G W relB fb σ H fun c H1 => if c = true then tG G W relB gb σ H1 Q else Q false H1 := by
  refine (seqG relB h).imp fun x H1 h1 => ?_
  obtain ⟨τ, M, ρ, k, rs, rm, i, r⟩ := h1
  have i : k = x := i
  subst i
  have r : RE G W σ ρ H1 relB (if k = true then gb τ M else .ok false M) Q := r
  cases k with
  | true => exact ⟨τ, M, ρ, rs, rm, r⟩
  | false => exact r.okv (.refl _) (.refl _) rm rfl
theorem or_tK {σ : L2.St} {H : Hp} {Q : Bool → Hp → Prop} {G : Gx} (h : tG G W relB (bOr fb gb) σ H Q) : tG G W relB fb σ H fun c H1 => if c = true then Q true H1 else tG G W relB gb σ H1 Q := by
  refine (seqG relB h).imp fun x H1 h1 => ?_
  obtain ⟨τ, M, ρ, k, rs, rm, i, r⟩ := h1
  have i : k = x := i
  subst i
  have r : RE G W σ ρ H1 relB (if k = true then .ok true M else gb τ M) Q := r
  cases k with
  | true => exact r.okv (.refl _) (.refl _) rm rfl
  | false => exact ⟨τ, M, ρ, rs, rm, r⟩
theorem aw_and (ha : AT X W a fb) (hb : AW X W (.BoolOp .And (b :: rest) pos) gb) : AW X W (.BoolOp .And (a :: b :: rest) pos) (bAnd fb gb) := (pw_and ha hb).pre fun _ _ _ h => and_tK h
theorem aw_or (ha : AT X W a fb) (hb : AW X W (.BoolOp .Or (b :: rest) pos) gb) : AW X W (.BoolOp .Or (a :: b :: rest) pos) (bOr fb gb) := (pw_or ha hb).pre fun _ _ _ h => or_tK h
theorem at_not (ha : AT X W a fb) : AT X W (.UnaryOp .Not a pos) (bNot fb) := (pt_not ha).pre fun σ H Q h => by
  refine (seqG relB h).imp fun x H1 h1 => ?_
  obtain ⟨τ, M, ρ, k, rs, rm, i, r⟩ := h1
  have i : k = x := i
  subst i
  exact r.okv (.refl _) (.refl _) rm rfl
/-- .. as values; bools alone ahead -/
def eAnd (f g : EF) : EF := fun τ M => (f τ M).bind fun a M1 => match a with
  | .bl true => g τ M1
  | .bl false => .ok (.bl false) M1
  | _ => .bad
def eOr (f g : EF) : EF := fun τ M => (f τ M).bind fun a M1 => match a with
  | .bl true => .ok (.bl true) M1
  | .bl false => g τ M1
  | _ => .bad
def eNot (f : EF) : EF := fun τ M => (f τ M).bind fun a M1 => match a with
  | .bl k => .ok (.bl (!k)) M1
  | _ => .bad
theorem ae_one {op} (h : AE X W a f) : AE X W (.BoolOp op [a] pos) f := pe_one h
theorem ae_and (ha : AE X W a f) (hb : AE X W (.BoolOp .And (b :: rest) pos) g) : AE X W (.BoolOp .And (a :: b :: rest) pos) (eAnd f g) := (pe_and ha hb).pre fun σ H Q h => by
  refine (seqG Is h).imp fun x H1 h1 => ?_
  obtain ⟨τ, M, ρ, a, rs, rm, i, r⟩ := h1
  cases a with
  | bl k =>
    cases i
    cases k with
    | true => exact ⟨true, rfl, ⟨τ, M, ρ, rs, rm, r⟩⟩
    | false => exact ⟨false, rfl, r.okv (.refl _) (.refl _) rm (.bl false)⟩
  | _ => exact r.elim
theorem ae_or (ha : AE X W a f) (hb : AE X W (.BoolOp .Or (b :: rest) pos) g) : AE X W (.BoolOp .Or (a :: b :: rest) pos) (eOr f g) := (pe_or ha hb).pre fun σ H Q h => by
  refine (seqG Is h).imp fun x H1 h1 => ?_
  obtain ⟨τ, M, ρ, a, rs, rm, i, r⟩ := h1
  cases a with
  | bl k =>
    cases i
    cases k with
    | true => exact ⟨true, rfl, r.okv (.refl _) (.refl _) rm (.bl true)⟩
    | false => exact ⟨false, rfl, ⟨τ, M, ρ, rs, rm, r⟩⟩
  | _ => exact r.elim
theorem ae_not (ha : AE X W a f) : AE X W (.UnaryOp .Not a pos) (eNot f) := (pe_not ha).pre fun σ H Q h => by
  refine (seqG Is h).imp fun x H1 h1 => ?_
  obtain ⟨τ, M, ρ, a, rs, rm, i, r⟩ := h1
  cases a with
  | bl k => cases i; exact ⟨k, rfl, r.okv (.refl _) (.refl _) rm (.bl _)⟩
  | _ => exact r.elim
def eIf (t : EFb) (f g : EF) : EF := fun τ M => (t τ M).bind fun k M1 => if k = true then f τ M1 else g τ M1
theorem ae_if (hc : AT X W c fb) (ha : AE X W a f) (hb : AE X W b g) : AE X W (.IfExp c a b pos) (eIf fb f g) := (pe_ifExp hc ha hb).pre fun σ H Q h => by
  refine (seqG relB h).imp fun x H1 h1 => ?_
  obtain ⟨τ, M, ρ, k, rs, rm, i, r⟩ := h1
  have i : k = x := i
  subst i
  have r : RE (X.gx W.Tb) W σ ρ H1 Is (if k = true then f τ M else g τ M) Q := r
  cases k with
  | true => exact ⟨τ, M, ρ, rs, rm, r⟩
  | false => exact ⟨τ, M, ρ, rs, rm, r⟩
/-! ### displays -/
def eTup (f : EFs) : EF := fun τ M => (f τ M).bind fun as M1 => if as.length ≤ sizeLine then .ok (.tup as) M1 else .bad
def eLst (f : EFs) : EF := fun τ M => (f τ M).bind fun as M1 => if as.length ≤ sizeLine then .ok (.lst M1.length) (M1 ++ [.lst as]) else .bad
variable {es : List Expr} {fs : EFs}
theorem ae_tup {x1} (h : AA X W es fs) : AE X W (.Tuple es x1 pos) (eTup fs) := (pe_tup h).pre fun σ H Q h => by
  refine (seqG IsAll h).imp fun x H1 h1 => ?_
  obtain ⟨τ, M, ρ, as, rs, rm, i, r⟩ := h1
  have r : RE (X.gx W.Tb) W σ ρ H1 Is (if as.length ≤ sizeLine then .ok (.tup as) M else .bad) Q := r
  split at r
  · rename_i hz
    refine ⟨by rw [← i.length]; exact hz, fun p hp => ?_⟩
    exact r.okv (.refl _) (.new hp) (rm.new hp) (.tup upd_same (i.mono (.refl _) (.new hp)))
  · exact r.elim
theorem ae_lst (h : AA X W es fs) : AE X W (.List es pos) (eLst fs) := (pe_lst h).pre fun σ H Q h => by
  refine (seqG IsAll h).imp fun x H1 h1 => ?_
  obtain ⟨τ, M, ρ, as, rs, rm, i, r⟩ := h1
  have r : RE (X.gx W.Tb) W σ ρ H1 Is (if as.length ≤ sizeLine then .ok (.lst M.length) (M ++ [.lst as]) else .bad) Q := r
  split at r
  · rename_i hz
    refine ⟨by rw [← i.length]; exact hz, fun p hp => ?_⟩
    exact r.okv (.snoc _ p) (.new hp) (rm.push hp ⟨x, upd_same, i.mono (.snoc _ _) (.new hp)⟩) (.lst (by rw [← rm.len]; simp))
  · exact r.elim
end
/-! ### items, slices -/
section
variable {X : Cx} {W : WR} {pos : Pos} {a b : Expr} {f g : EF}
def oIx : O2 := fun x i M => match x, i with
  | .tup xs, .int i => (atI xs i).map (·, M)
  | .lst l, .int i => (listAt M l).bind fun xs => (atI xs i).map (·, M)
  | _, _ => none
theorem IsAll.atI {ρ : List Addr} {H : Hp} {ts : List A} {vs : List V} (r : IsAll ρ H ts vs) {i : Int} {a : A} (e : L2.atI ts i = some a) : ∃ v, L2.atI vs i = some v ∧ Is ρ H a v := by
  unfold L2.atI at e ⊢
  rw [← r.length]
  cases e1 : ixN ts.length i with
  | none => rw [e1] at e; cases e
  | some j =>
    rw [e1] at e
    obtain ⟨v, h1, h2⟩ := r.get e
    exact ⟨v, h1, h2⟩
theorem ix_A : IxR X (r2 (X.am W.Tb) oIx) := by
  intro value slice pins s σ H x y v u Q I rx ry h hs
  obtain ⟨a, b, M, ρ, ia, ib, m, r⟩ := h
  unfold oIx at r
  split at r
  · rename_i xs i
    cases ib
    cases ia with
    | tup ha qa =>
      cases e : atI xs i with
      | none => rw [e] at r; exact r.elim
      | some t =>
        rw [e] at r
        obtain ⟨w, h1, h2⟩ := qa.atI e
        exact ix_tup value slice pins s σ H _ _ v u Q I rx ry ⟨_, _, _, _, rfl, rfl, .inl (.inl ha), h1, RO.val (ρ := ρ) (M := M) r m h2⟩ hs
  · rename_i l i
    cases ib
    cases ia with
    | lst ha =>
      cases e1 : listAt M l with
      | none => rw [e1] at r; exact r.elim
      | some xs =>
        rw [e1] at r
        obtain ⟨vs, hq, is⟩ := m.list ha e1
        rw [Option.bind_some] at r
        cases e : atI xs i with
        | none => rw [e] at r; exact r.elim
        | some t =>
          rw [e] at r
          obtain ⟨w, h1, h2⟩ := is.atI e
          exact ix_list value slice pins s σ H _ _ v u Q I rx ry ⟨_, _, _, _, rfl, rfl, hq, h1, RO.val (ρ := ρ) (M := M) r m h2⟩ hs
  · exact r.elim
theorem ae_ix (ha : AE X W a f) (hb : AE X W b g) (hs : PlainIx b := by intro _ _; rfl) : AE X W (.Subscript a b pos) (eOp oIx f g) := (pe_ix ix_A ha hb hs).pre fun _ _ _ h => op_tK h
def oDget : O2 := fun x k M => match x with
  | .dct d => match dGet M d k with
    | some (some a) => some (a, M)
    | _ => none
  | _ => none
theorem ae_dget (hu : X.A.units + 1 < cLine) (ha : AE X W a f) (hb : AE X W b g) (hs : NoSl b := by intro _ _; rfl) : AE X W (.Subscript a b pos) (eOp oDget f g) := (pe_dget hu ha hb hs).pre fun σ H Q h => by
  refine (op_tK h).imp fun x H1 h1 => h1.imp fun y H2 h2 => ?_
  obtain ⟨a, b, M, ρ, ia, ib, m, r⟩ := h2
  unfold oDget at r
  split at r
  · rename_i d
    cases ia with
    | dct hd =>
      split at r
      · rename_i c e
        rcases dGet_ok m hd ib e with ⟨z, _⟩ | ⟨c', v, ec, gg, iv⟩
        · cases z
        · cases ec
          exact ⟨_, _, rfl, gg, r.val m iv⟩
      · exact r.elim
  · exact r.elim
/-- a part of a slice -/
def ePart (f : EF) : Sl → Store → EO (Option Int) := fun τ M => (f τ M).bind fun a M1 => match a with
  | .int i => .ok (some i) M1
  | _ => .bad
def eNoPart : Sl → Store → EO (Option Int) := fun _ M => .ok none M
abbrev relP : Rel (Option Int) (Option Int) := fun _ _ a b => a = b
def AP (X : Cx) (W : WR) (e : Option Expr) (f : Sl → Store → EO (Option Int)) : Prop := PO X e (fun σ H Q => tG (X.gx W.Tb) W relP f σ H Q)
theorem ap_none : AP X W none eNoPart := ⟨fun pins s σ H Q I h => by
  obtain ⟨τ, M, ρ, rs, rm, r⟩ := h
  exact po_none.run pins s σ H Q I (r.okv (.refl _) (.refl _) rm rfl)⟩
theorem ap_some (h : AE X W a f) : AP X W (some a) (ePart f) := ⟨fun pins s σ H Q I h' => (po_some h).run pins s σ H Q I (by
  refine (seqG Is h').imp fun x H1 h1 => ?_
  obtain ⟨τ, M, ρ, a, rs, rm, i, r⟩ := h1
  cases a with
  | int k => cases i; exact ⟨k, rfl, r.okv (.refl _) (.refl _) rm rfl⟩
  | _ => exact r.elim)⟩
theorem IsAll.cut {ρ : List Addr} {H : Hp} {ts : List A} {vs : List V} (r : IsAll ρ H ts vs) (lo hi : Option Int) : IsAll ρ H ((ts.drop (HT.sIx ts.length 0 lo)).take (HT.sIx ts.length ts.length hi - HT.sIx ts.length 0 lo)) (cutV vs lo hi) := by
  unfold cutV
  rw [← r.length]
  exact (r.drop _).take _
def cutA (xs : List A) (lo hi : Option Int) : List A := (xs.drop (HT.sIx xs.length 0 lo)).take (HT.sIx xs.length xs.length hi - HT.sIx xs.length 0 lo)
def oSl (x : A) (lo hi : Option Int) (M : Store) : Option (A × Store) := match x with
  | .tup xs => some (.tup (cutA xs lo hi), M)
  | .lst l => (listAt M l).map fun xs => (.lst M.length, M ++ [.lst (cutA xs lo hi)])
  | .str z => if z.length ≤ sizeLine then some (.str (cutS z lo hi), M) else none
  | _ => none
def eSl (f : EF) (p q : Sl → Store → EO (Option Int)) : EF := fun τ M => (f τ M).bind fun a M1 => (p τ M1).bind fun lo M2 => (q τ M2).bind fun hi M3 => toE (oSl a lo hi M3)
def rSl (w : Amb) (x : V) (lo hi : Option Int) (H : Hp) (Q : VK) : Prop := ∃ a M ρ, Is ρ H a x ∧ RM w ρ H M ∧ RO w ρ H (oSl a lo hi M) Q
theorem cutA_all {xs : List A} {lo hi : Option Int} (h : HT.sIx xs.length 0 lo = 0 ∧ HT.sIx xs.length xs.length hi = xs.length) : cutA xs lo hi = xs := by
  unfold cutA
  rw [h.1, h.2]
  simp
theorem sl_A : SlR X (rSl (X.am W.Tb)) := by
  intro pins s σ H x v vl vu lo hi sl Q I rx hs pl pu h
  obtain ⟨a, M, ρ, ia, m, r⟩ := h
  unfold oSl at r
  cases a with
  | tup xs =>
    cases ia with
    | tup ha qa =>
      refine sl_tupA pins s σ H _ v vl vu lo hi sl Q I rx hs pl pu ⟨_, _, rfl, .inl (.inl ha), fun hw => ?_, fun hw p hp => ?_⟩
      · rw [← qa.length] at hw
        have r : RO (X.am W.Tb) ρ H (some (.tup (cutA xs lo hi), M)) Q := r
        rw [cutA_all hw] at r
        exact r.val m (.tup ha qa)
      · exact RO.newT (M := M) r m (qa.cut lo hi) hp
  | lst l =>
    cases ia with
    | lst ha =>
      simp only at r
      cases e1 : listAt M l with
      | none => rw [e1] at r; exact r.elim
      | some xs =>
        rw [e1] at r
        obtain ⟨vs, hq, is⟩ := m.list ha e1
        exact sl_list pins s σ H _ v vl vu lo hi sl Q I rx hs pl pu ⟨_, _, rfl, hq, fun p hp => RO.newL (M := M) r m (is.cut lo hi) hp⟩
  | str z =>
    cases ia
    simp only at r
    split at r
    · rename_i hz
      exact sl_str pins s σ H _ v vl vu lo hi sl Q I rx hs pl pu ⟨z, rfl, hz, r.val m (.str _)⟩
    · exact r.elim
  | _ => exact r.elim
theorem ae_sl {p2 : Pos} {lo hi : Option Expr} {p q : Sl → Store → EO (Option Int)} (ha : AE X W a f) (hl : AP X W lo p) (hh : AP X W hi q) : AE X W (.Subscript a (.Slice lo hi none p2) pos) (eSl f p q) := (pe_slice sl_A ha hl hh).pre fun σ H Q h => by
  refine (seqG Is h).imp fun x H1 h1 => ?_
  refine (seqK Is Is.ext relP h1).imp fun y H2 h2 => ?_
  obtain ⟨τ, M, ρ, a, lo', rs, rm, i, j, r⟩ := h2
  subst j
  refine ⟨τ, M, ρ, rs, rm, ?_⟩
  cases e : q τ M with
  | ok hi' M3 =>
    rw [e] at r
    exact fun u H3 ρ3 x3 g3 m3 i3 => by
      have i3 : hi' = u := i3
      subst i3
      exact ⟨a, M3, ρ3, i.mono x3 g3, m3, RO.of (RE.mono (o := toE (oSl a lo' hi' M3)) r x3 g3)⟩
  | ex en M3 => rw [e] at r; exact r
  | bad => rw [e] at r; exact r
end
end AB
/-! AB4: statements, loops, comprehensions, calls -/
namespace AB
open PySem PySem.Spec PyProof.Rows L2
inductive SO where
  | nx (τ : Sl) (M : Store) | rt (a : A) (M : Store) | bk (τ : Sl) (M : Store) | ct (τ : Sl) (M : Store) | ex (e : Exn) (τ : Sl) (M : Store) | bad
abbrev SF := Sl → Store → SO
def EO.bindS {α : Type} (x : EO α) (τ : Sl) (k : α → Store → SO) : SO := match x with
  | .ok a M => k a M
  | .ex e M => .ex e τ M
  | .bad => .bad
def RSO (G : Gx) (W : WR) (D : Ends) (ρ : List Addr) (H : Hp) : SO → Prop
  | .nx τ M => ∀ σ' H' ρ', Ext ρ ρ' → Grow H H' → RM G.w ρ' H' M → RS W ρ' H' τ σ' → D.nx σ' H'
  | .rt a M => ∀ v H' ρ', Ext ρ ρ' → Grow H H' → RM G.w ρ' H' M → Is ρ' H' a v → D.rt v H'
  | .bk τ M => ∀ σ' H' ρ', Ext ρ ρ' → Grow H H' → RM G.w ρ' H' M → RS W ρ' H' τ σ' → D.bk σ' H'
  | .ct τ M => ∀ σ' H' ρ', Ext ρ ρ' → Grow H H' → RM G.w ρ' H' M → RS W ρ' H' τ σ' → D.ct σ' H'
  | .ex e τ M => ∀ cls d σ' H' ρ', Ext ρ ρ' → Grow H H' → RM G.w ρ' H' M → RS W ρ' H' τ σ' → RX G.mg ρ' H' e cls d → W cls d σ' H'
  | .bad => False
section
variable {G : Gx} {W : WR} {D D' : Ends} {ρ ρ' : List Addr} {H H' : Hp} {o : SO}
theorem RSO.mono (r : RSO G W D ρ H o) (x : Ext ρ ρ') (g : Grow H H') : RSO G W D ρ' H' o := by
  cases o with
  | nx τ M => exact fun s h p x2 g2 => r s h p (x.trans x2) (g.trans g2)
  | rt a M => exact fun s h p x2 g2 => r s h p (x.trans x2) (g.trans g2)
  | bk τ M => exact fun s h p x2 g2 => r s h p (x.trans x2) (g.trans g2)
  | ct τ M => exact fun s h p x2 g2 => r s h p (x.trans x2) (g.trans g2)
  | ex e τ M => exact fun c d s h p x2 g2 => r c d s h p (x.trans x2) (g.trans g2)
  | bad => exact r
end
def tS (G : Gx) (W : WR) (f : SF) : TS := fun D σ H => ∃ τ M ρ, RS W ρ H τ σ ∧ RM G.w ρ H M ∧ RSO G W D ρ H (f τ M)
def AS (X : Cx) (W : WR) (st : Stmt) (f : SF) : Prop := PS X st (tS (X.gx W.Tb) W f)
def ASs (X : Cx) (W : WR) (st : List Stmt) (f : SF) : Prop := PSs X st (tS (X.gx W.Tb) W f)
/-- from an expression's reading -/
theorem bindS_tK {α β : Type} {G : Gx} {W : WR} {D : Ends} {σ : L2.St} {H : Hp} (rel : Rel α β) {f : Sl → Store → EO α} {k : Sl → α → Store → SO} (h : tS G W (fun τ M => (f τ M).bindS τ (k τ)) D σ H) :
    tG G W rel f σ H (fun b H1 => ∃ τ M ρ a, RS W ρ H1 τ σ ∧ RM G.w ρ H1 M ∧ rel ρ H1 a b ∧ RSO G W D ρ H1 (k τ a M)) := by
  obtain ⟨τ, M, ρ, rs, rm, r⟩ := h
  refine ⟨τ, M, ρ, rs, rm, ?_⟩
  dsimp only at r
  cases e : f τ M with
  | ok a M1 => rw [e] at r; exact fun b H1 ρ1 x g m i => ⟨τ, M1, ρ1, a, rs.mono x g, m, i, RSO.mono r x g⟩
  | ex en M1 => rw [e] at r; exact fun c d H1 ρ1 x g m i => r c d σ H1 ρ1 x g m (rs.mono x g) i
  | bad => rw [e] at r; exact r
section
variable {X : Cx} {W : WR} {pos : Pos} {st : Stmt} {rest : List Stmt} {e : Expr} {f : EF} {s t : SF}
def sNil : SF := fun τ M => .nx τ M
def sSeq (s t : SF) : SF := fun τ M => match s τ M with
  | .nx τ1 M1 => t τ1 M1
  | o => o
theorem ass_nil : ASs X W [] sNil := pss_nil.pre fun D σ H h => by
  obtain ⟨τ, M, ρ, rs, rm, r⟩ := h
  exact r _ _ ρ (.refl _) (.refl _) rm rs
theorem ass_cons (h1 : AS X W st s) (h2 : ASs X W rest t) : ASs X W (st :: rest) (sSeq s t) := (pss_cons h1 h2).pre fun D σ H h => by
  obtain ⟨τ, M, ρ, rs, rm, r⟩ := h
  refine ⟨τ, M, ρ, rs, rm, ?_⟩
  unfold sSeq at r
  cases e : s τ M with
  | nx τ1 M1 => rw [e] at r; exact fun σ1 H1 ρ1 x g m i => ⟨τ1, M1, ρ1, i, m, RSO.mono r x g⟩
  | rt a M1 => rw [e] at r; exact r
  | bk a M1 => rw [e] at r; exact r
  | ct a M1 => rw [e] at r; exact r
  | ex e a M1 => rw [e] at r; exact r
  | bad => rw [e] at r; exact r
def sExpr (f : EF) : SF := fun τ M => (f τ M).bindS τ fun _ M1 => .nx τ M1
theorem as_expr (he : AE X W e f) (hs : swapsWith e none pos.line X.env = pure false := by rfl) : AS X W (.Expr e pos) (sExpr f) := (ps_expr he hs).pre fun D σ H h => (bindS_tK Is h).imp fun b H1 h1 => by
  obtain ⟨τ, M, ρ, a, rs, rm, i, r⟩ := h1
  exact r _ _ ρ (.refl _) (.refl _) rm rs
def sRet (f : EF) : SF := fun τ M => (f τ M).bindS τ fun a M1 => .rt a M1
theorem as_ret (he : AE X W e f) : AS X W (.Return (some e) pos) (sRet f) := (ps_ret he).pre fun D σ H h => (bindS_tK Is h).imp fun b H1 h1 => by
  obtain ⟨τ, M, ρ, a, rs, rm, i, r⟩ := h1
  exact r _ _ ρ (.refl _) (.refl _) rm i
def sIf (c : EFb) (s t : SF) : SF := fun τ M => (c τ M).bindS τ fun k M1 => if k = true then s τ M1 else t τ M1
theorem as_if {c : Expr} {fc : EFb} {a b : List Stmt} (hc : AT X W c fc) (ha : ASs X W a s) (hb : ASs X W b t) : AS X W (.If c a b pos) (sIf fc s t) := (ps_if hc ha hb).pre fun D σ H h => (bindS_tK relB h).imp fun b H1 h1 => by
  obtain ⟨τ, M, ρ, k, rs, rm, i, r⟩ := h1
  have i : k = b := i
  subst i
  have r : RSO (X.gx W.Tb) W D ρ H1 (if k = true then s τ M else t τ M) := r
  cases k with
  | true => exact ⟨τ, M, ρ, rs, rm, r⟩
  | false => exact ⟨τ, M, ρ, rs, rm, r⟩
/-- code that the proof never comes to -/
def sBad : SF := fun _ _ => .bad
theorem ass_never {sts : List Stmt} : ASs X W sts sBad := pss_never.pre fun D σ H h => by
  obtain ⟨τ, M, ρ, rs, rm, r⟩ := h
  exact r
/-! ### targets -/
/-- a target of names: one, or a tuple of targets -/
inductive Tgt where
  | nm (i : Nat) | tp (ts : List Tgt)
mutual
def Tgt.set : Tgt → A → Sl → Option Sl
  | .nm i, a, τ => some (τ.set i (some a))
  | .tp ts, .tup as, τ => Tgt.sets ts as τ
  | .tp _, _, _ => none
def Tgt.sets : List Tgt → List A → Sl → Option Sl
  | [], [], τ => some τ
  | t :: ts, a :: as, τ => (Tgt.set t a τ).bind fun τ1 => Tgt.sets ts as τ1
  | [], _ :: _, _ => none
  | _ :: _, [], _ => none
def Tgt.own : Tgt → List Nat
  | .nm i => [i]
  | .tp ts => Tgt.owns ts
def Tgt.owns : List Tgt → List Nat
  | [] => []
  | t :: ts => Tgt.own t ++ Tgt.owns ts
end
/-- the slots other than these are the same -/
def SameBut (vs : List Nat) (σ σ' : L2.St) : Prop := σ'.length = σ.length ∧ ∀ i, i ∉ vs → σ'[i]? = σ[i]?
theorem wipe_get (i : Nat) : ∀ (ws : List Nat) (s : L2.St), (L2.wipe s ws)[i]? = if i ∈ ws then (if i < s.length then some none else none) else s[i]?
  | [], s => by simp [L2.wipe]
  | w :: ws, s => by
    unfold L2.wipe
    by_cases e : w = i
    · subst e
      by_cases hl : w < s.length
      · rw [List.getElem?_set_self (by rw [wipe_length]; exact hl)]; simp [hl]
      · rw [List.getElem?_eq_none (by rw [List.length_set, wipe_length]; omega)]; simp [hl]
    · rw [List.getElem?_set_ne e, wipe_get i ws s]
      have : (i ∈ w :: ws) = (i ∈ ws) := by simp [Ne.symm e]
      simp only [this]
theorem wipe_wipe (s : L2.St) (ws : List Nat) : L2.wipe (L2.wipe s ws) ws = L2.wipe s ws := by
  apply List.ext_getElem?
  intro i
  rw [wipe_get, wipe_get, wipe_length]
  by_cases hi : i ∈ ws <;> simp [hi]
theorem SameBut.wipe {vs : List Nat} {σ σ' : L2.St} (h : SameBut vs σ σ') {ws : List Nat} (hs : ∀ i ∈ vs, i ∈ ws) : L2.wipe σ' ws = L2.wipe σ ws := by
  apply List.ext_getElem?
  intro i
  rw [wipe_get, wipe_get, h.1]
  by_cases hi : i ∈ ws
  · simp [hi]
  · simp [hi]; exact h.2 i fun z => hi (hs i z)
/-- what a target of names asks -/
def tTgt (t : Tgt) : TG := fun v σ H Q => ∃ a τ ρ τ', Is ρ H a v ∧ RS0 ρ H τ σ ∧ t.set a τ = some τ' ∧ ∀ σ', RS0 ρ H τ' σ' → SameBut t.own σ σ' → Q σ' H
def tTgts (ts : List Tgt) : TGs := fun vs σ H Q => ∃ as τ ρ τ', IsAll ρ H as vs ∧ RS0 ρ H τ σ ∧ Tgt.sets ts as τ = some τ' ∧ ∀ σ', RS0 ρ H τ' σ' → SameBut (Tgt.owns ts) σ σ' → Q σ' H
def AG (X : Cx) (e : Expr) (t : Tgt) : Prop := PG X e (tTgt t)
def AGs (X : Cx) (es : List Expr) (ts : List Tgt) : Prop := PGs X es (tTgts ts)
theorem _root_.L2.PG.pre {X : Cx} {e : Expr} {t t' : TG} (h : PG X e t) (w : ∀ v σ H Q, t' v σ H Q → t v σ H Q) : PG X e t' := ⟨fun pins s σ H v u Q I r q => h.run pins s σ H v u Q I r (w v σ H Q q)⟩
theorem _root_.L2.PGs.pre {X : Cx} {e : List Expr} {t t' : TGs} (h : PGs X e t) (w : ∀ v σ H Q, t' v σ H Q → t v σ H Q) : PGs X e t' := ⟨fun pins s σ H v u Q I r q => h.run pins s σ H v u Q I r (w v σ H Q q)⟩
theorem ag_nm (i : Nat) {x : Str} (hN : X.N.Nodup) (hi : X.N[i]? = some x := by rfl) (hx : Loc X.env.scope x := by first | exact Or.inl rfl | exact Or.inr rfl) (hf : X.fn x = true ∨ X.env.scope.names.lookup x = some .local := by first | exact .inl rfl | exact .inr rfl | assumption) : AG X (.Name x pos) (.nm i) :=
  (pg_name hN hi hx hf).pre fun v σ H Q h => by
    obtain ⟨a, τ, ρ, τ', ia, rs, e, q⟩ := h
    simp only [Tgt.set] at e
    cases e
    refine q _ (rs.set ia i) ⟨by simp, fun j hj => ?_⟩
    rw [List.getElem?_set_ne (by intro z; exact hj (by simp [Tgt.own, z]))]
theorem ags_nil : AGs X [] [] := pgs_nil.pre fun vs σ H Q h => by
  obtain ⟨as, τ, ρ, τ', ia, rs, e, q⟩ := h
  cases ia with
  | nil => cases e; exact ⟨rfl, q _ rs ⟨rfl, fun _ _ => rfl⟩⟩
  | cons _ _ => simp only [Tgt.sets] at e; cases e
theorem ags_cons {e : Expr} {es : List Expr} {t : Tgt} {ts : List Tgt} (h1 : AG X e t) (h2 : AGs X es ts) (hs : (assignEach (e :: es) X.env).map (·.2) = assign e X.env :: (assignEach es X.env).map (·.2) := by rfl) : AGs X (e :: es) (t :: ts) :=
  (pgs_cons h1 h2 hs).pre fun vs σ H Q h => by
    obtain ⟨as, τ, ρ, τ', ia, rs, e, q⟩ := h
    cases ia with
    | nil => simp only [Tgt.sets] at e; cases e
    | @cons a v as vs i is =>
      simp only [Tgt.sets] at e
      cases e1 : t.set a τ with
      | none => rw [e1] at e; cases e
      | some τ1 =>
        rw [e1] at e
        refine ⟨v, vs, rfl, a, τ, ρ, τ1, i, rs, e1, fun σ1 rs1 s1 => ⟨as, τ1, ρ, τ', is, rs1, e, fun σ2 rs2 s2 => q σ2 rs2 ⟨s2.1.trans s1.1, fun j hj => ?_⟩⟩⟩
        simp only [Tgt.owns, List.mem_append, not_or] at hj
        exact (s2.2 j hj.2).trans (s1.2 j hj.1)
theorem IsAll.sets_len : ∀ {ts : List Tgt} {as : List A} {τ τ' : Sl}, Tgt.sets ts as τ = some τ' → as.length = ts.length
  | [], [], _, _, _ => rfl
  | t :: ts, a :: as, τ, τ', e => by
    simp only [Tgt.sets] at e
    cases e1 : t.set a τ with
    | none => rw [e1] at e; cases e
    | some τ1 => rw [e1] at e; simp [IsAll.sets_len (τ := τ1) e]
  | [], _ :: _, _, _, e => by simp only [Tgt.sets] at e; cases e
  | _ :: _, [], _, _, e => by simp only [Tgt.sets] at e; cases e
theorem ag_tp {es : List Expr} {k : Nat} {ts : List Tgt} (hc : X.calm = true) (h : AGs X es ts) (hn : (assignEach es X.env).length = ts.length := by rfl) (hst : (assignEach es X.env).findIdx? (·.1) = none := by rfl) : AG X (.Tuple es k pos) (.tp ts) :=
  (pg_tup (n := ts.length) hc h hn hst).pre fun v σ H Q h => by
    obtain ⟨a, τ, ρ, τ', ia, rs, e, q⟩ := h
    cases a with
    | tup as =>
      cases ia with
      | tup hp is =>
        simp only [Tgt.set] at e
        exact ⟨_, _, rfl, .inl (.inl hp), by rw [← is.length]; exact IsAll.sets_len e, as, τ, ρ, τ', is, rs, e, q⟩
    | _ => simp only [Tgt.set] at e; cases e
/-! ### assignments -/
def sAsg (t : Tgt) (f : EF) : SF := fun τ M => (f τ M).bindS τ fun a M1 => match t.set a τ with
  | some τ1 => .nx τ1 M1
  | none => .bad
theorem asg_tK {t : Tgt} {D : Ends} {σ : L2.St} {H : Hp} {G : Gx} (h : tS G W (sAsg t f) D σ H) : tG G W Is f σ H fun x H1 => tTgt t x σ H1 D.nx := (bindS_tK Is h).imp fun b H1 h1 => by
  obtain ⟨τ, M, ρ, a, rs, rm, i, r⟩ := h1
  cases e : t.set a τ with
  | none => rw [e] at r; exact r.elim
  | some τ1 => rw [e] at r; exact ⟨a, τ, ρ, τ1, i, rs.s, e, fun σ' rs' _ => r _ _ ρ (.refl _) (.refl _) rm (rs.of rs')⟩
theorem as_asg {tg : Expr} {t : Tgt} (he : AE X W e f) (hg : AG X tg t) (hs : swapsWithSole [tg] e pos.line X.env = pure false := by rfl) (hw : swappedStores [tg] e X.env = pure none := by rfl)
    (h1 : (assignEach [tg] X.env).map (·.2) = [assign tg X.env] := by rfl) : AS X W (.Assign [tg] e pos) (sAsg t f) := (ps_asg he hg hs hw h1).pre fun D σ H h => asg_tK h
theorem as_set (i : Nat) {x : Str} {pos' : Pos} (hN : X.N.Nodup) (he : AE X W e f) (hi : X.N[i]? = some x := by rfl) (hx : Loc X.env.scope x := by first | exact Or.inl rfl | exact Or.inr rfl) (hs : swapsWith e (some (.Name x pos')) pos.line X.env = pure false := by rfl)
    (hf : X.fn x = true ∨ X.env.scope.names.lookup x = some .local := by first | exact .inl rfl | exact .inr rfl | assumption) : AS X W (.Assign [.Name x pos'] e pos) (sAsg (.nm i) f) := (ps_set hN hi hx he hs hf).pre fun D σ H h => (bindS_tK Is h).imp fun b H1 h1 => by
  obtain ⟨τ, M, ρ, a, rs, rm, i, r⟩ := h1
  exact r _ _ ρ (.refl _) (.refl _) rm (rs.set i _)
/-- d[k] = v -/
def sDput (fd fk fv : EF) : SF := fun τ M => (fv τ M).bindS τ fun v M1 => (fd τ M1).bindS τ fun d M2 => (fk τ M2).bindS τ fun k M3 => match d with
  | .dct l => match dPut M3 l k v with
    | some M4 => .nx τ M4
    | none => .bad
  | _ => .bad
/-- xs[i] = v -/
def oSetL (M : Store) (x i v : A) : Option Store := match x, i with
  | .lst l, .int k => match M[l]? with
    | some (.lst xs) => (ixN xs.length k).map fun j => M.set l (.lst (xs.set j v))
    | _ => none
  | _, _ => none
def sSetL (fo fi fv : EF) : SF := fun τ M => (fv τ M).bindS τ fun v M1 => (fo τ M1).bindS τ fun x M2 => (fi τ M2).bindS τ fun i M3 => match oSetL M3 x i v with
  | some M4 => .nx τ M4
  | none => .bad
theorem bindS_tKs {α β α' β' : Type} {G : Gx} {D : Ends} {σ : L2.St} {H : Hp} (rel₁ : Rel α β) (hrel : ∀ {ρ ρ' H H' a b}, Ext ρ ρ' → Grow H H' → rel₁ ρ H a b → rel₁ ρ' H' a b) (rel : Rel α' β') {f : Sl → Store → EO α'} {k : Sl → α → α' → Store → SO} {b : β}
    (h : ∃ τ M ρ a, RS W ρ H τ σ ∧ RM G.w ρ H M ∧ rel₁ ρ H a b ∧ RSO G W D ρ H ((f τ M).bindS τ (k τ a))) :
    tG G W rel f σ H (fun b' H1 => ∃ τ M ρ a a', RS W ρ H1 τ σ ∧ RM G.w ρ H1 M ∧ rel₁ ρ H1 a b ∧ rel ρ H1 a' b' ∧ RSO G W D ρ H1 (k τ a a' M)) := by
  obtain ⟨τ, M, ρ, a, rs, rm, i1, r⟩ := h
  refine ⟨τ, M, ρ, rs, rm, ?_⟩
  cases e : f τ M with
  | ok a' M1 => rw [e] at r; exact fun b H1 ρ1 x g m i => ⟨τ, M1, ρ1, a, a', rs.mono x g, m, hrel x g i1, i, RSO.mono r x g⟩
  | ex en M1 => rw [e] at r; exact fun c d H1 ρ1 x g m i => r c d σ H1 ρ1 x g m (rs.mono x g) i
  | bad => rw [e] at r; exact r
theorem as_dput {o i v : Expr} {fd fk fv : EF} {pos' : Pos} (hu : X.A.units + 1 < cLine) (ho : AE X W o fd) (hi : AE X W i fk) (hv : AE X W v fv) (hs : swapsWith v (some (.Subscript o i pos')) pos.line X.env = pure false := by rfl) :
    AS X W (.Assign [.Subscript o i pos'] v pos) (sDput fd fk fv) := (ps_dput hu ho hi hv hs).pre fun D σ H h => (bindS_tK Is h).imp fun b H1 h1 => (bindS_tKs Is Is.ext Is h1).imp fun c H2 h2 => by
  obtain ⟨τ, M, ρ, a, a', rs, rm, ia, ia', r⟩ := h2
  refine ⟨τ, M, ρ, rs, rm, ?_⟩
  cases e : fk τ M with
  | ok k M3 =>
    rw [e] at r
    intro y H3 ρ3 x3 g3 m3 i3
    have r := RSO.mono r x3 g3
    cases a' with
    | dct l =>
      cases ia'.mono x3 g3 with
      | dct hb =>
        have r : RSO (X.gx W.Tb) W D ρ3 H3 (match dPut M3 l k a with
          | some M4 => .nx τ M4
          | none => .bad) := r
        cases e2 : dPut M3 l k a with
        | none => rw [e2] at r; exact r.elim
        | some M4 =>
          rw [e2] at r
          obtain ⟨H4, dp, m4, g4⟩ := dPut_ok m3 hb i3 (ia.mono x3 g3) e2
          exact ⟨_, H4, rfl, dp, r _ _ ρ3 (.refl _) g4 m4 ((rs.mono x3 g3).mono (.refl _) g4)⟩
    | _ => exact r.elim
  | ex en M3 => rw [e] at r; exact fun c d H3 ρ3 x g m i => r c d σ H3 ρ3 x g m (rs.mono x g) i
  | bad => rw [e] at r; exact r
theorem as_setL {o i v : Expr} {fo fi fv : EF} {pos' : Pos} (ho : AE X W o fo) (hi : AE X W i fi) (hv : AE X W v fv) (hs : swapsWithSole [.Subscript o i pos'] v pos.line X.env = pure false := by rfl) (hw : swappedStores [.Subscript o i pos'] v X.env = pure none := by rfl)
    (h1 : (assignEach [.Subscript o i pos'] X.env).map (·.2) = [assign (.Subscript o i pos') X.env] := by rfl)
    (ha : ∀ v, assign (.Subscript o i pos') X.env v = (do
      let ov ← holding [v] (eval o X.env)
      let iv ← holding [v, ov] (eval i X.env)
      standAt pos'
      holding [v, ov, iv] (setItem ov iv v)
      release [v, ov, iv] []) := by intro _; rfl) :
    AS X W (.Assign [.Subscript o i pos'] v pos) (sSetL fo fi fv) := (ps_asg hv (pg_sub ho hi set_list ha) hs hw h1).pre fun D σ H h => (bindS_tK Is h).imp fun b H1 h1 => (bindS_tKs Is Is.ext Is h1).imp fun c H2 h2 => by
  obtain ⟨τ, M, ρ, a, a', rs, rm, ia, ia', r⟩ := h2
  refine ⟨τ, M, ρ, rs, rm, ?_⟩
  cases e : fi τ M with
  | ok k M3 =>
    rw [e] at r
    intro y H3 ρ3 x3 g3 m3 i3
    have r : RSO (X.gx W.Tb) W D ρ3 H3 (match oSetL M3 a' k a with
      | some M4 => .nx τ M4
      | none => .bad) := RSO.mono r x3 g3
    unfold oSetL at r
    cases a' with
    | lst l =>
      cases k with
      | int j =>
        cases i3
        cases ia'.mono x3 g3 with
        | lst hb =>
          dsimp only at r
          cases e2 : M3[l]? with
          | none => rw [e2] at r; exact r.elim
          | some cc =>
            rw [e2] at r
            cases cc with
            | lst xs =>
              dsimp only at r
              obtain ⟨vs, hh, is⟩ := m3.lstM hb e2
              cases e3 : ixN xs.length j with
              | none => rw [e3] at r; exact r.elim
              | some jj =>
                rw [e3] at r
                have g4 := m3.growSet (o := .lst (vs.set jj b)) hb e2
                have i4 := (ia.mono x3 g3).mono (.refl ρ3) g4
                refine ⟨_, vs, j, jj, rfl, rfl, hh, by rw [← is.length]; exact e3, ?_⟩
                exact r _ _ ρ3 (.refl _) g4 (m3.set hb e2 ⟨_, upd_same, IsAll.set i4 jj (is.mono (.refl _) g4)⟩) ((rs.mono x3 g3).mono (.refl _) g4)
            | _ => exact r.elim
      | _ => exact r.elim
    | _ => exact r.elim
  | ex en M3 => rw [e] at r; exact fun c d H3 ρ3 x g m i => r c d σ H3 ρ3 x g m (rs.mono x g) i
  | bad => rw [e] at r; exact r
end
end AB
/-! AB5: loops, comprehensions, calls, defs -/
namespace AB
open PySem PySem.Spec PyProof.Rows L2
inductive Src where
  | snap (xs : List A) | dyn (l : Nat) | rng (lo : Int) (n : Nat) | enl (l : Nat) | zpl (l : Nat) (ys : List A)
def Src.at (s : Src) (M : Store) (i : Nat) : Option (Option A) := match s with
  | .snap xs => some xs[i]?
  | .dyn l => (listAt M l).map (·[i]?)
  | .rng lo n => some (if i < n then some (.int (lo + i)) else none)
  | .enl l => (listAt M l).map fun xs => xs[i]?.map fun x => .tup [.int (i : Nat), x]
  | .zpl l ys => (listAt M l).map fun xs => match xs[i]?, ys[i]? with
    | some x, some y => some (.tup [x, y])
    | _, _ => none
def lenAt (M : Store) (l : Nat) : Nat := match listAt M l with
  | some xs => xs.length + 1
  | none => 0
def Src.size (s : Src) (M : Store) : Nat := match s with
  | .snap xs => xs.length + 1
  | .dyn l => lenAt M l
  | .rng _ n => n + 1
  | .enl l => lenAt M l
  | .zpl l _ => lenAt M l
def SrcJ (w : Amb) (ρ : List Addr) (H : Hp) (src : Src) (J : It) : Prop := ∀ (ρ2 : List Addr) (H2 : Hp) (M2 : Store) (i : Nat), Ext ρ ρ2 → Grow H H2 → RM w ρ2 H2 M2 →
  match src.at M2 i with
  | some (some x) => J.go i H2 ∧ ∀ v H3, J.yld i H2 v H3 → Grow H2 H3 ∧ RM w ρ2 H3 M2 ∧ Is ρ2 H3 x v
  | some none => J.stop i H2
  | none => True
abbrev relJ (w : Amb) : Rel Src It := fun ρ H s J => SrcJ w ρ H s J
abbrev EI := Sl → Store → EO Src
def AI (X : Cx) (W : WR) (tg iter : Expr) (f : EI) : Prop := PI X tg iter (tG (X.gx W.Tb) W (relJ (X.am W.Tb)) f)
theorem _root_.L2.PI.pre {X : Cx} {tg e : Expr} {t t' : TI} (h : PI X tg e t) (w : ∀ σ H R, t' σ H R → t σ H R) : PI X tg e t' := ⟨fun pins s σ H R I q => h.run pins s σ H R I (w σ H R q)⟩
abbrev On' := List A → Store → EO A
/-! ### while -/
def whileA (c : EFb) (b : SF) : Nat → Sl → Store → SO
  | 0, _, _ => .bad
  | n + 1, τ, M => (c τ M).bindS τ fun k M1 => if k = true then
      match b τ M1 with
      | .nx τ2 M2 => whileA c b n τ2 M2
      | .ct τ2 M2 => whileA c b n τ2 M2
      | .bk τ2 M2 => .nx τ2 M2
      | o => o
    else .nx τ M1
section
variable {X : Cx} {W : WR} {pos : Pos} {e : Expr} {f : EF} {s t : SF}
theorem as_while (n : Sl → Store → Nat) {c : Expr} {body : List Stmt} {fc : EFb} {fb : SF} (hp : PassesOwn (model X.prog X.w) X.A X.env X.xe) (hc : AT X W c fc) (hb : ASs X W body fb) :
    AS X W (.While c body [] pos) (fun τ M => whileA fc fb (n τ M) τ M) := (ps_while hp hc hb).pre fun D σ H h => by
  obtain ⟨τ, M, ρ, rs, rm, r⟩ := h
  refine ⟨fun m σ H => ∃ τ M ρ, RS W ρ H τ σ ∧ RM (X.am W.Tb) ρ H M ∧ RSO (X.gx W.Tb) W D ρ H (whileA fc fb m τ M), ⟨n τ M, τ, M, ρ, rs, rm, r⟩, ?_⟩
  clear r rs rm
  rintro m σ H ⟨τ, M, ρ, rs, rm, r⟩
  cases m with
  | zero => exact r.elim
  | succ m =>
    unfold whileA at r
    refine ⟨τ, M, ρ, rs, rm, ?_⟩
    cases ec : fc τ M with
    | ok k M1 =>
      rw [ec] at r
      intro k' H1 ρ1 x1 g1 m1 ik
      have ik : k = k' := ik
      subst ik
      have r := RSO.mono r x1 g1
      have rs1 := rs.mono x1 g1
      cases k with
      | true =>
        rw [if_pos rfl]
        refine ⟨fun σ' H' => ∃ τ M ρ, RS W ρ H' τ σ' ∧ RM (X.am W.Tb) ρ H' M ∧ RSO (X.gx W.Tb) W D ρ H' (whileA fc fb m τ M), fun σ' H' q => ⟨m, Nat.lt_succ_self m, q⟩, τ, M1, ρ1, rs1, m1, ?_⟩
        have r : RSO (X.gx W.Tb) W D ρ1 H1 (match fb τ M1 with
          | .nx τ2 M2 => whileA fc fb m τ2 M2
          | .ct τ2 M2 => whileA fc fb m τ2 M2
          | .bk τ2 M2 => .nx τ2 M2
          | o => o) := r
        cases eb : fb τ M1 with
        | nx τ2 M2 => rw [eb] at r; exact fun σ2 H2 ρ2 x g m i => ⟨τ2, M2, ρ2, i, m, RSO.mono r x g⟩
        | ct τ2 M2 => rw [eb] at r; exact fun σ2 H2 ρ2 x g m i => ⟨τ2, M2, ρ2, i, m, RSO.mono r x g⟩
        | bk τ2 M2 => rw [eb] at r; exact r
        | rt a M2 => rw [eb] at r; exact r
        | ex en τ2 M2 => rw [eb] at r; exact r
        | bad => rw [eb] at r; exact r
      | false =>
        rw [if_neg Bool.false_ne_true]
        exact r _ _ ρ1 (.refl _) (.refl _) m1 rs1
    | ex en M1 => rw [ec] at r; exact fun c d H1 ρ1 x g m i => r c d σ H1 ρ1 x g m (rs.mono x g) i
    | bad => rw [ec] at r; exact r
/-! ### for -/
def forA (src : Src) (t : Tgt) (b : SF) : Nat → Nat → Sl → Store → SO
  | 0, _, _, _ => .bad
  | n + 1, i, τ, M => match src.at M i with
    | none => .bad
    | some none => .nx τ M
    | some (some x) => match t.set x τ with
      | none => .bad
      | some τ1 => match b τ1 M with
        | .nx τ2 M2 => forA src t b n (i + 1) τ2 M2
        | .ct τ2 M2 => forA src t b n (i + 1) τ2 M2
        | .bk τ2 M2 => .nx τ2 M2
        | o => o
def sFor (f : EI) (t : Tgt) (b : SF) : SF := fun τ M => (f τ M).bindS τ fun src M1 => forA src t b (src.size M1) 0 τ M1
theorem as_for {tg iter : Expr} {body : List Stmt} {fi : EI} {t : Tgt} {fb : SF} (hp : PassesOwn (model X.prog X.w) X.A X.env X.xe) (hc : X.calm = true) (hi : AI X W tg iter fi) (hg : AG X tg t) (hb : ASs X W body fb)
    (hs : ∀ x, foldedSetIterable iter X.env x = pure x := by intro _; rfl) : AS X W (.For tg iter body [] pos) (sFor fi t fb) := (ps_for hp hc hi hg hb hs).pre fun D σ H h => (bindS_tK (relJ (X.am W.Tb)) h).imp fun J H1 h1 => by
  obtain ⟨τ, M, ρ, src, rs, rm, ij, r⟩ := h1
  refine ⟨fun i m σ H => ∃ τ M ρ', Ext ρ ρ' ∧ Grow H1 H ∧ RS W ρ' H τ σ ∧ RM (X.am W.Tb) ρ' H M ∧ RSO (X.gx W.Tb) W D ρ' H (forA src t fb m i τ M), ⟨src.size M, τ, M, ρ, .refl _, .refl _, rs, rm, r⟩, ?_⟩
  clear r rs rm
  rintro i m σ H ⟨τ, M, ρ', x', g', rs, rm, r⟩
  cases m with
  | zero => exact r.elim
  | succ m =>
    unfold forA at r
    have jj := ij ρ' H M i x' g' rm
    cases ea : src.at M i with
    | none => rw [ea] at r; exact r.elim
    | some o =>
      cases o with
      | none =>
        rw [ea] at r jj
        exact .inl ⟨jj, r _ _ ρ' (.refl _) (.refl _) rm rs⟩
      | some a =>
        rw [ea] at r jj
        obtain ⟨go, yy⟩ := jj
        refine .inr ⟨go, fun σ' H' => ∃ τ M ρ', Ext ρ ρ' ∧ Grow H1 H' ∧ RS W ρ' H' τ σ' ∧ RM (X.am W.Tb) ρ' H' M ∧ RSO (X.gx W.Tb) W D ρ' H' (forA src t fb m (i + 1) τ M), fun σ' H' q => ⟨m, Nat.lt_succ_self m, q⟩, fun v H2 y => ?_⟩
        obtain ⟨g2, m2, ia⟩ := yy v H2 y
        have r : RSO (X.gx W.Tb) W D ρ' H (match t.set a τ with
          | none => .bad
          | some τ1 => match fb τ1 M with
            | .nx τ2 M2 => forA src t fb m (i + 1) τ2 M2
            | .ct τ2 M2 => forA src t fb m (i + 1) τ2 M2
            | .bk τ2 M2 => .nx τ2 M2
            | o => o) := r
        cases et : t.set a τ with
        | none => rw [et] at r; exact r.elim
        | some τ1 =>
          rw [et] at r
          refine ⟨a, τ, ρ', τ1, ia, (rs.mono (.refl _) g2).s, et, fun σ1 rs1 _ => ⟨τ1, M, ρ', (rs.mono (.refl _) g2).of rs1, m2, ?_⟩⟩
          have r := RSO.mono r (.refl _) g2
          have r : RSO (X.gx W.Tb) W D ρ' H2 (match fb τ1 M with
            | .nx τ2 M2 => forA src t fb m (i + 1) τ2 M2
            | .ct τ2 M2 => forA src t fb m (i + 1) τ2 M2
            | .bk τ2 M2 => .nx τ2 M2
            | o => o) := r
          cases eb : fb τ1 M with
          | nx τ2 M2 => rw [eb] at r; exact fun σ2 H3 ρ3 x g m i => ⟨τ2, M2, ρ3, x'.trans x, (g'.trans g2).trans g, i, m, RSO.mono r x g⟩
          | ct τ2 M2 => rw [eb] at r; exact fun σ2 H3 ρ3 x g m i => ⟨τ2, M2, ρ3, x'.trans x, (g'.trans g2).trans g, i, m, RSO.mono r x g⟩
          | bk τ2 M2 => rw [eb] at r; exact r
          | rt a M2 => rw [eb] at r; exact r
          | ex en τ2 M2 => rw [eb] at r; exact r
          | bad => rw [eb] at r; exact r
/-! ### what is walked -/
theorem _root_.L2.PI.or {tg e : Expr} {t t' : TI} (h : PI X tg e t) (h' : PI X tg e t') : PI X tg e (fun σ H R => t σ H R ∨ t' σ H R) := ⟨fun pins s σ H R I q => q.elim (fun q => h.run pins s σ H R I q) fun q => h'.run pins s σ H R I q⟩
def srcOf (a : A) (M : Store) : EO Src := match a with
  | .tup xs => .ok (.snap xs) M
  | .lst l => match listAt M l with
    | some _ => .ok (.dyn l) M
    | none => .bad
  | _ => .bad
def iSeq (f : EF) : EI := fun τ M => (f τ M).bind srcOf
theorem srcJ_list {w : Amb} {ρ : List Addr} {H : Hp} {l : Nat} {a : Addr} (ha : ρ[l]? = some a) : SrcJ w ρ H (.dyn l) (Itl w.K a) := by
  intro ρ2 H2 M2 i x g m
  cases e : Src.at (.dyn l) M2 i with
  | none => trivial
  | some o =>
    simp only [Src.at] at e
    cases el : listAt M2 l with
    | none => rw [el] at e; cases e
    | some xs =>
      rw [el] at e
      obtain ⟨vs, q, is⟩ := m.list (x.get ha) el
      cases o with
      | none =>
        have e : xs[i]? = none := Option.some.inj e
        exact ⟨vs, q, by rw [← is.length]; exact List.getElem?_eq_none_iff.mp e⟩
      | some t =>
        have e : xs[i]? = some t := Option.some.inj e
        obtain ⟨v, hv, iv⟩ := is.get e
        refine ⟨⟨vs, v, q, hv⟩, fun w H3 ⟨eH, hw⟩ => ?_⟩
        subst eH
        have := hw vs q
        rw [hv] at this
        obtain rfl := Option.some.inj this
        exact ⟨.refl _, m, iv⟩
theorem srcJ_tup {K : PySem.W.Frag} {ρ : List Addr} {H : Hp} {xs : List A} {vs : List V} {a : Addr} (ha : H a = some (.tup vs)) (is : IsAll ρ H xs vs) : SrcJ w ρ H (.snap xs) (Itt K a) := by
  intro ρ2 H2 M2 i x g m
  have h2 : SqT K H2 a vs := .inl (.inl (g _ _ (.tup _) ha))
  cases e : xs[i]? with
  | none =>
    simp only [Src.at, e]
    exact ⟨vs, h2, by rw [← is.length]; exact List.getElem?_eq_none_iff.mp e⟩
  | some t =>
    simp only [Src.at, e]
    obtain ⟨v, hv, iv⟩ := is.get e
    refine ⟨⟨vs, v, h2, hv⟩, fun w H3 ⟨eH, hw⟩ => ?_⟩
    subst eH
    have := hw vs h2
    rw [hv] at this
    obtain rfl := Option.some.inj this
    exact ⟨.refl _, m, iv.mono x g⟩
theorem ai_seq {tg l : Expr} (h : AE X W l f) : AI X W tg l (iSeq f) := ((pi_list h).or (pi_tup h)).pre fun σ H R h => by
  obtain ⟨τ, M, ρ, rs, rm, r⟩ := h
  unfold iSeq at r
  cases e : f τ M with
  | ok a M1 =>
    rw [e] at r
    cases a with
    | lst l =>
      refine .inl ⟨τ, M, ρ, rs, rm, ?_⟩
      rw [e]
      intro v H1 ρ1 x g m i
      cases i with
      | lst ha =>
        have r : RE (X.gx W.Tb) W σ ρ H (relJ (X.am W.Tb)) (match listAt M1 l with
          | some _ => .ok (.dyn l) M1
          | none => .bad) R := r
        cases el : listAt M1 l with
        | none => rw [el] at r; exact r.elim
        | some xs =>
          rw [el] at r
          obtain ⟨vs, q, is⟩ := m.list ha el
          exact ⟨_, rfl, ⟨vs, q⟩, RE.okv r x g m (srcJ_list ha)⟩
    | tup xs =>
      refine .inr ⟨τ, M, ρ, rs, rm, ?_⟩
      rw [e]
      intro v H1 ρ1 x g m i
      cases i with
      | tup ha is =>
        exact ⟨_, rfl, ⟨_, .inl (.inl ha)⟩, RE.okv (a := Src.snap xs) (M := M1) r x g m (srcJ_tup ha is)⟩
    | _ => exact r.elim
  | ex en M1 =>
    rw [e] at r
    exact .inl ⟨τ, M, ρ, rs, rm, by rw [e]; exact r⟩
  | bad => rw [e] at r; exact r.elim
def rngOf1 (as : List A) (M : Store) : EO Src := match as with
  | [.int j] => if -(2 ^ 62) ≤ j ∧ j < 2 ^ 62 then .ok (.rng 0 j.toNat) M else .bad
  | _ => .bad
def iRng1 (f : EFs) : EI := fun τ M => (f τ M).bind rngOf1
theorem srcJ_rng {ρ : List Addr} {H : Hp} {lo : Int} {n : Nat} : SrcJ w ρ H (.rng lo n) (Itr lo n) := by
  intro ρ2 H2 M2 i x g m
  by_cases h : i < n
  · simp only [Src.at, if_pos h]
    exact ⟨h, fun v H3 ⟨e1, e2⟩ => by subst e1 e2; exact ⟨.refl _, m, .int _⟩⟩
  · simp only [Src.at, if_neg h]
    exact Nat.le_of_not_lt h
theorem ai_rng1 {tg a : Expr} {fs : EFs} {p : Pos} (hm : X.mg "range" = none) (ha : AA X W [a] fs) (hg : Gl X "range" := by rfl) (hs : starEach [a] X.env = [(false, eval a X.env)] := by rfl) : AI X W tg (.Call (.Name "range" p) [a] [] pos) (iRng1 fs) :=
  (pi_range1 hg hm ha hs).pre fun σ H R h => by
    refine (seqG IsAll h).imp fun vs H1 h1 => ?_
    obtain ⟨τ, M, ρ, as, rs, rm, i, r⟩ := h1
    dsimp only [rngOf1] at r
    split at r
    · split at r
      · rename_i hz
        cases i with
        | cons i1 i =>
          cases i; cases i1
          exact ⟨_, rfl, hz.1, hz.2, r.okv (.refl _) (.refl _) rm srcJ_rng⟩
      · exact r.elim
    · exact r.elim
/-! ### comprehensions -/
def wipeA (τ : Sl) : List Nat → Sl
  | [] => τ
  | v :: vs => (wipeA τ vs).set v none
theorem RS.wipe {ρ : List Addr} {H : Hp} {τ : Sl} {σ : L2.St} (r : RS W ρ H τ σ) : ∀ vs : List Nat, RS W ρ H (wipeA τ vs) (L2.wipe σ vs)
  | [] => r
  | v :: vs => by
    unfold wipeA L2.wipe
    exact (RS.wipe r vs).unset v none
def lcA (src : Src) (t : Tgt) (ft : EFb) (fe : EF) (l : Nat) (τ : Sl) : Nat → Nat → Store → EO A
  | 0, _, _ => .bad
  | n + 1, i, M => match src.at M i with
    | none => .bad
    | some none => .ok (.lst l) M
    | some (some x) => match t.set x τ with
      | none => .bad
      | some τ1 => match ft τ1 M with
        | .ok true M1 => match fe τ1 M1 with
          | .ok y M2 => match M2[l]? with
            | some (.lst acc) => if acc.length < sizeLine then lcA src t ft fe l τ n (i + 1) (M2.set l (.lst (acc ++ [y]))) else .bad
            | _ => .bad
          | _ => .bad
        | .ok false M1 => lcA src t ft fe l τ n (i + 1) M1
        | _ => .bad
def eLc (fi : EI) (t : Tgt) (ft : EFb) (fe : EF) (own : List Nat) : EF := fun τ M => (fi τ M).bind fun src M1 => lcA src t ft fe M1.length (wipeA τ own) (src.size M1) 0 (M1 ++ [.lst []])
def ATs (X : Cx) (W : WR) (ifs : List Expr) (f : EFb) : Prop := PTs X ifs (tG (X.gx W.Tb) W relB f)
def bYes : EFb := fun _ M => .ok true M
theorem ats_nil : ATs X W [] bYes := ⟨fun pins s σ H Q I h => by
  obtain ⟨τ, M, ρ, rs, rm, r⟩ := h
  exact pts_nil.run pins s σ H Q I (r.okv (.refl _) (.refl _) rm rfl)⟩
theorem lc_tK {G : Gx} {fi : EI} {t : Tgt} {ft : EFb} {fe : EF} {own : List Nat} {σ : L2.St} {H : Hp} {Q : VK} (ho : ∀ i ∈ t.own, i ∈ own) (h : tG G W Is (eLc fi t ft fe own) σ H Q) :
    tLc (tG G W (relJ G.w) fi) (tTgt t) (tG G W.nx relB ft) (tG G W.nx Is fe) own σ H Q := by
  refine (seqG (relJ G.w) h).imp fun J H1 h1 => ?_
  obtain ⟨τ, M, ρ, src, rs, rm, ij, r⟩ := h1
  intro D hD
  have r : RE G W σ ρ H1 Is (lcA src t ft fe M.length (wipeA τ own) (src.size M) 0 (M ++ [.lst []])) Q := r
  have g0 : Grow H1 (upd H1 D (.lst [])) := .new hD
  have m0 : RM G.w (ρ ++ [D]) (upd H1 D (.lst [])) (M ++ [.lst []]) := rm.push hD ⟨[], upd_same, .nil⟩
  have hl0 : (ρ ++ [D])[M.length]? = some D := by rw [← rm.len]; simp
  generalize hl : M.length = l at r hl0
  generalize hM : (M ++ [Cell.lst []]) = M0 at r m0
  refine ⟨fun i m H => ∃ M ρ', Ext (ρ ++ [D]) ρ' ∧ Grow H1 H ∧ RM G.w ρ' H M ∧ RE G W σ ρ' H Is (lcA src t ft fe l (wipeA τ own) m i M) Q,
    ⟨_, M0, ρ ++ [D], .refl _, g0, m0, RE.mono r (.snoc _ _) g0⟩, ?_⟩
  clear r m0 hM
  rintro i m H ⟨M, ρ', x', g', rm', r⟩
  have xx : Ext ρ ρ' := (Ext.snoc ρ D).trans x'
  cases m with
  | zero => exact r.elim
  | succ m =>
    unfold lcA at r
    have jj := ij ρ' H M i xx g' rm'
    cases ea : src.at M i with
    | none => rw [ea] at r; exact r.elim
    | some o =>
      cases o with
      | none =>
        rw [ea] at r jj
        exact .inl ⟨jj, r.okv (.refl _) (.refl _) rm' (.lst (x'.get hl0))⟩
      | some a =>
        rw [ea] at r jj
        obtain ⟨go, yy⟩ := jj
        refine .inr ⟨go, fun H => ∃ M ρ', Ext (ρ ++ [D]) ρ' ∧ Grow H1 H ∧ RM G.w ρ' H M ∧ RE G W σ ρ' H Is (lcA src t ft fe l (wipeA τ own) m (i + 1) M) Q, fun H' q => ⟨m, Nat.lt_succ_self m, q⟩, fun v H2 y => ?_⟩
        obtain ⟨g2, m2, ia⟩ := yy v H2 y
        dsimp only at r
        cases et : t.set a (wipeA τ own) with
        | none => rw [et] at r; exact r.elim
        | some τ1 =>
          rw [et] at r
          dsimp only at r
          have g12 := g'.trans g2
          refine ⟨a, wipeA τ own, ρ', τ1, ia, ((rs.mono xx g12).wipe own).s, et, fun σ1 rs1 sb => ⟨?_, ?_⟩⟩
          · rw [sb.wipe ho]
            exact wipe_wipe σ own
          · have r := RE.mono r (.refl _) g2
            have rs1 : RS W.nx ρ' H2 τ1 σ1 := ⟨(rs.mono xx g12).ext, (rs.mono xx g12).grow, rs1⟩
            refine ⟨τ1, M, ρ', rs1, m2, ?_⟩
            cases e1 : ft τ1 M with
            | ok k M1 =>
              rw [e1] at r
              intro k' H3 ρ3 x3 g3 m3 ik
              have ik : k = k' := ik
              subst ik
              have r := RE.mono r x3 g3
              cases k with
              | true =>
                rw [if_pos rfl]
                dsimp only at r
                refine ⟨τ1, M1, ρ3, rs1.mono x3 g3, m3, ?_⟩
                cases e2 : fe τ1 M1 with
                | ok y M2 =>
                  rw [e2] at r
                  intro w H4 ρ4 x4 g4 m4 iy
                  have r := RE.mono r x4 g4
                  dsimp only at r
                  have hb : ρ4[l]? = some D := x4.get (x3.get (x'.get hl0))
                  cases e3 : M2[l]? with
                  | none => rw [e3] at r; exact r.elim
                  | some cc =>
                    rw [e3] at r
                    cases cc with
                    | lst acc =>
                      dsimp only at r
                      obtain ⟨vs, hh, is⟩ := m4.lstM hb e3
                      split at r
                      · rename_i hz
                        have g5 := m4.growSet (o := .lst (vs ++ [w])) hb e3
                        refine ⟨vs, hh, by rw [← is.length]; exact hz, _, ρ4, x'.trans (x3.trans x4), ((g12.trans g3).trans g4).trans g5, m4.set (c' := .lst (acc ++ [y])) hb e3 ⟨_, upd_same, (is.append (.cons iy .nil)).mono (.refl _) g5⟩, RE.mono r (.refl _) g5⟩
                      · exact r.elim
                    | _ => exact r.elim
                | ex en M2 => rw [e2] at r; exact r.elim
                | bad => rw [e2] at r; exact r.elim
              | false =>
                rw [if_neg Bool.false_ne_true]
                exact ⟨M1, ρ3, x'.trans x3, g12.trans g3, m3, r⟩
            | ex en M1 => rw [e1] at r; exact r.elim
            | bad => rw [e1] at r; exact r.elim
theorem ae_lc (own : List (Str × Nat)) {elt tg iter : Expr} {ifs : List Expr} {scope : Scope} {fi : EI} {t : Tgt} {ft : EFb} {fe : EF} (hc : X.calm = true) (hN : X.N.Nodup) (ok : BlkOk X.N X.env.scope scope own) (ho : ∀ i ∈ t.own, i ∈ own.map (·.2)) (hi : AI X W tg iter fi)
    (hg : ∀ (s : Shared) (H : Hp) (C : Addr) (cl : List (Str × Addr)) (fp : List Addr), AG (X.blk s H scope (compEnvC scope cl C X.env) fp) tg t) (ht : ∀ (s : Shared) (H : Hp) (C : Addr) (cl : List (Str × Addr)) (fp : List Addr), ATs (X.blk s H scope (compEnvC scope cl C X.env) fp) W.nx ifs ft)
    (he : ∀ (s : Shared) (H : Hp) (C : Addr) (cl : List (Str × Addr)) (fp : List Addr), AE (X.blk s H scope (compEnvC scope cl C X.env) fp) W.nx elt fe) (hs : ∀ x, foldedSetIterable iter X.env x = pure x := by intro _; rfl) :
    AE X W (.ListComp elt [⟨tg, iter, ifs, 0⟩] scope pos) (eLc fi t ft fe (own.map (·.2))) := (pe_lc (tt := tG (X.gx W.Tb) W.nx relB ft) (te := tG (X.gx W.Tb) W.nx Is fe) hc hN hi ok hg ht he hs).pre fun _ _ _ h => lc_tK ho h
/-! ### calls of defs -/
/-- what a def promises that does F -/
def spA (G : Gx) (n : Nat) (F : On') : Sp := fun vs H Q E => ∃ as M ρ, IsAll ρ H as vs ∧ RM G.w ρ H M ∧ as.length = n ∧ RE G ⟨fun cls d _ H' => E cls d H', G.w.Tb, [], fun _ => none⟩ [] ρ H Is (F as M) Q
def eCall (n : Nat) (F : On') (fs : EFs) : EF := fun τ M => (fs τ M).bind fun as M1 => if as.length = n then F as M1 else .bad
theorem ae_call {k n : Nat} {fa : Addr} {fd : FuncData} {ps : List Str} {F : On'} {x : Str} {p : Pos} {e : Expr} {es : List Expr} {fs : EFs} (G : FnOk X.prog X.w X.K X.mg X.base (L2.CX X.prog X.w) k fa fd ps (spA (X.gx W.Tb) n F)) (hr : Room k X.A) (hm : X.mg x = some (.ref fa)) (hk : PySem.W.keepIn X.K (.ref fa) = true) (hb : Binds X.K fd ps []) (tk : Takes X W.w)
    (ha : AA X W (e :: es) fs) (hg : Gl X x := by rfl) (hdb : (x == ("__debug__" : Str)) = false := by decide) (he : starEach (e :: es) X.env = (false, eval e X.env) :: starEach es X.env := by rfl) (hpl : (backTo pos (starEach es X.env)).any (·.1) = false := by rfl) :
    AE X W (.Call (.Name x p) (e :: es) [] pos) (eCall n F fs) := (pe_callS (E := WE W) G hr hg hm hk hb (fun σ => passAt tk σ) ha hdb he hpl).pre fun σ H Q h => by
  refine (seqG IsAll h).imp fun vs H1 h1 => ?_
  obtain ⟨τ, M, ρ, as, rs, rm, i, r⟩ := h1
  have r : RE (X.gx W.Tb) W σ ρ H1 Is (if as.length = n then F as M else .bad) Q := r
  split at r
  · rename_i hn
    refine ⟨as, M, ρ, i, rm, hn, ?_⟩
    cases e : F as M with
    | ok a M1 => rw [e] at r; exact r
    | ex en M1 => rw [e] at r; exact r
    | bad => rw [e] at r; exact r
  · exact r.elim
/-- what a body's end is to the caller -/
def retOf (o : SO) : EO A := match o with
  | .nx _ M => .ok .non M
  | .rt a M => .ok a M
  | .ex e _ M => .ex e M
  | _ => .bad
def startA (n : Nat) (as : List A) : Sl := as.map some ++ List.replicate (n - as.length) none
def defA (n : Nat) (s : SF) : On' := fun as M => retOf (s (startA n as) M)
theorem start_ok {ρ : List Addr} {H : Hp} {as : List A} {vs : List V} (r : IsAll ρ H as vs) (N : List Str) : RS0 ρ H (startA N.length as) (L2.start N vs) := by
  unfold startA L2.start
  rw [r.length]
  have rep : ∀ n, RS0 ρ H (List.replicate n none) (List.replicate n none) := by
    intro n
    induction n with
    | zero => exact .nil
    | succ n ih => rw [List.replicate_succ, List.replicate_succ]; exact .no ih
  generalize N.length - vs.length = n
  induction as generalizing vs with
  | nil => cases r; exact rep n
  | cons a as ih =>
    cases r with
    | cons i is => exact .yes i (ih is)
section
variable {P : Program} {w : World} {K : PySem.W.Frag} {mg : Str → Option Value} {base : Heap}
/-- a def's body, its errors let out -/
theorem fn_A {x qual : Str} {st : Stmt} {fa : Addr} {fd : FuncData} {N ps : List Str} {k : Nat} {s : SF} (F : Fun K x qual st fa fd) (S : FnScope N ps (defScope st))
    (hbody : ∀ (cdv : Value) (A : Around) (outer : List Env) (s₀ : Shared) (H : Hp) (E : XK), Room k (A.deeper (envOfC qual (defScope st) s₀.heap.objs.size fa cdv)) →
      ASs (cxOf (L2.CX P w) P w K mg base N qual (defScope st) fa cdv A outer s₀ H E) ⟨fun cls d _ H => E cls d H, Tb, [], fun _ => none⟩ (defBody st) s) :
    FnOk P w K mg base (L2.CX P w) (k + 1) fa fd ps (spA ⟨mg, ⟨w, K, mg, Tb⟩⟩ ps.length (defA N.length s)) := by
  refine F.okX S (fun vs H Q E h => ?_) (fun cdv A outer s₀ H vs Q E hr h => ⟨_, hbody cdv A outer s₀ H E hr, ?_⟩)
  · obtain ⟨as, M, ρ, i, rm, hn, _⟩ := h
    rw [← i.length]; exact hn
  · obtain ⟨as, M, ρ, i, rm, hn, r⟩ := h
    refine ⟨startA N.length as, M, ρ, ⟨⟨ρ, rfl⟩, fun _ _ _ z => (nomatch z), start_ok i N⟩, rm, ?_⟩
    unfold defA at r
    cases e : s (startA N.length as) M with
    | nx τ M1 => rw [e] at r; exact fun σ' H' ρ' x g m _ => r .non H' ρ' x g m .non
    | rt a M1 => rw [e] at r; exact r
    | ex en τ M1 => rw [e] at r; exact fun c d σ' H' ρ' x g m _ ix => r c d H' ρ' x g m ix
    | bk τ M1 => rw [e] at r; exact r.elim
    | ct τ M1 => rw [e] at r; exact r.elim
    | bad => rw [e] at r; exact r.elim
/-- nothing is promised of what ends badly -/
theorem fn_bad {fa : Addr} {fd : FuncData} {ps : List Str} {n k : Nat} : FnOk P w K mg base (L2.CX P w) k fa fd ps (spA ⟨mg, ⟨w, K, mg, Tb⟩⟩ n fun _ _ => .bad) :=
  ⟨fun vs H Q E h => by obtain ⟨_, _, _, _, _, _, r⟩ := h; exact r.elim, fun A outer s H args us vs Q E _ _ _ _ h => by obtain ⟨_, _, _, _, _, _, r⟩ := h; exact r.elim⟩
end
end
end AB
/-! AB6: built-ins -/
namespace AB
open PySem PySem.Spec PyProof.Rows L2
section
variable {X : Cx} {W : WR} {pos : Pos} {a b e : Expr} {es : List Expr} {f g : EF} {fs : EFs}
/-! ### isinstance -/
def tyOf? (M : Store) : A → Option String
  | .non => some "NoneType"
  | .bl _ => some "bool"
  | .int _ => some "int"
  | .str _ => some "str"
  | .tup _ => some "tuple"
  | .lst l => (listAt M l).map fun _ => "list"
  | .dct d => match M[d]? with
    | some (.dK _) => some "dict"
    | some (.dT _) => some "dict"
    | _ => none
  | .ty _ => none
  | .obj _ => none
  | .rng _ _ => none
  | .ftp _ => none
theorem tyOf_ok {ρ : List Addr} {H : Hp} {M : Store} (m : RM w ρ H M) {a : A} {v : V} {n : String} (i : Is ρ H a v) (e : tyOf? M a = some n) : TyX w.K H v (.type n) := by
  cases i with
  | non => cases e; exact .base .non
  | bl b => cases e; exact .base (.bl b)
  | int b => cases e; exact .base (.int b)
  | str b => cases e; exact .base (.str b)
  | tup h _ => cases e; exact .base (.tup h)
  | lst h =>
    simp only [tyOf?] at e
    cases el : listAt M _ with
    | none => rw [el] at e; cases e
    | some xs =>
      rw [el] at e; cases e
      unfold listAt at el
      split at el
      · rename_i c ec
        have r := m.at_ _ _ c h ec
        cases c with
        | lst ys => obtain ⟨vs, q, _⟩ := r; exact .base (.lst q)
        | frz ys =>
          obtain ⟨vs, q, _⟩ := r
          rcases q with (⟨o, q⟩ | q) | ⟨o, its, n, q1, q2, _⟩
          · exact .base (.frz q)
          · exact .base (.lst q)
          · exact .kList q1 q2
        | _ => cases el
      · cases el
  | dct h =>
    simp only [tyOf?] at e
    split at e
    · rename_i kvs ec; cases e; obtain ⟨vs, q, _⟩ := m.at_ _ _ _ h ec; exact .base (.dK q)
    · rename_i kvs ec; cases e; obtain ⟨vs, q, _⟩ := m.at_ _ _ _ h ec; exact .base (.dT q)
    · cases e
  | ty n => cases e
  | obj h => cases e
  | rng h => cases e
  | ftp _ _ _ _ => cases e
/-- the answer by the types' names (kitB's own, tabled) -/
def isiT (t c : String) : Option Bool :=
  if t = c then some true else
  if ["NoneType", "bool", "int", "str", "tuple", "list", "dict"].contains t = true ∧ ["bool", "int", "str", "tuple", "list", "dict"].contains c = true then some (t == "bool" && c == "int") else none
theorem isiT_ok {t c : String} {b : Bool} (h : isiT t c = some b) : kitB t c = some b := by
  unfold isiT at h
  split at h
  · rename_i e; subst e; cases h
    unfold kitB
    rw [if_pos (beq_self_eq_true _)]
  · split at h
    · rename_i ne hh
      obtain ⟨h1, h2⟩ := hh
      simp only [List.contains_eq_mem, List.mem_cons, List.not_mem_nil, or_false, decide_eq_true_eq] at h1 h2
      cases h
      rcases h1 with rfl | rfl | rfl | rfl | rfl | rfl | rfl <;> rcases h2 with rfl | rfl | rfl | rfl | rfl | rfl <;> first | exact absurd rfl ne | decide +kernel
    · cases h
def isiAny (t : String) : List A → Option Bool
  | [] => some false
  | .ty c :: cs => match isiT t c, isiAny t cs with
    | some a, some b => some (a || b)
    | _, _ => none
  | _ :: _ => none
def oIsi : On := fun as M => match as with
  | [x, .ty c] => match tyOf? M x with
    | some t => (isiT t c).map fun b => (.bl b, M)
    | none => none
  | [x, .tup cs] => match tyOf? M x with
    | some t => (isiAny t cs).map fun b => (.bl b, M)
    | none => none
  | _ => none
theorem isiAny_ok {ρ : List Addr} {H : Hp} {K : PySem.W.Frag} {t : String} : ∀ {cs : List A} {vs : List V} {b : Bool}, IsAll ρ H cs vs → isiAny t cs = some b → ∃ us, Paired ClsV vs us ∧ PySem.W.kitAny K (.type t) us = some b
  | [], _, b, .nil, e => by cases e; exact ⟨[], .nil, kitAny_nil⟩
  | c :: cs, _, b, .cons r rs, e => by
    cases r with
    | ty n =>
      simp only [isiAny] at e
      split at e
      · rename_i a b2 e1 e2; cases e
        obtain ⟨us, p, q⟩ := isiAny_ok rs e2
        exact ⟨_, .cons (.ty n) p, kitAny_cons (kit_ty (isiT_ok e1)) (fun z => by subst z; simpa using q) fun z => by subst z; rfl⟩
      · cases e
    | _ => simp only [isiAny] at e; cases e
theorem cr_isi : CallR X (.builtin "isinstance") (rn (X.am W.Tb) oIsi) := by
  intro pins s σ H xs us Q I r h
  obtain ⟨as, M, ρ, is, m, ro⟩ := h
  unfold oIsi at ro
  split at ro
  · rename_i x c
    cases is with
    | cons i1 is =>
      cases is with
      | cons i2 is =>
        cases is; cases i2
        split at ro
        · rename_i t et
          cases e1 : isiT t c with
          | none => rw [e1] at ro; exact ro.elim
          | some b =>
            rw [e1] at ro
            exact call_isi pins s σ H _ us Q I r ⟨_, _, _, _, b, rfl, .ty c, tyOf_ok m i1 et, kit_ty (isiT_ok e1), RO.val (ρ := ρ) (M := M) ro m (.bl _)⟩
        · exact ro.elim
  · rename_i x cs
    cases is with
    | cons i1 is =>
      cases is with
      | cons i2 is =>
        cases is
        cases i2 with
        | tup ht it =>
          split at ro
          · rename_i t et
            cases e1 : isiAny t cs with
            | none => rw [e1] at ro; exact ro.elim
            | some b =>
              rw [e1] at ro
              obtain ⟨ws, p, q⟩ := isiAny_ok (K := X.K) it e1
              exact call_isiT pins s σ H _ us Q I r ⟨_, _, _, _, ws, b, rfl, ht, p, tyOf_ok m i1 et, q, RO.val (ρ := ρ) (M := M) ro m (.bl _)⟩
          · exact ro.elim
  · exact ro.elim
/-- a built-in class as a value -/
theorem ae_type {x : Str} {n : String} (hm : X.mg x = none) (hg : Gl X x := by rfl) (hv : bootBuiltins x = some (.type n) := by decide +kernel) (hn : x ≠ "__name__" := by decide) (hd : (x == ("__debug__" : Str)) = false := by decide) : AE X W (.Name x pos) (eC (.ty n)) :=
  const_ok (fun _ _ => .ty n) (pe_bltn hg hm hv rfl hn hd)
/-! ### len -/
def oLen : On := fun as M => match as with
  | [.tup xs] => some (.int (xs.length : Nat), M)
  | [.lst l] => (listAt M l).map fun xs => (.int (xs.length : Nat), M)
  | [.str x] => if x.length ≤ sizeLine then some (.int (x.length : Nat), M) else none
  | [.dct d] => match M[d]? with
    | some (.dK kvs) => some (.int (kvs.length : Nat), M)
    | some (.dT kvs) => some (.int (kvs.length : Nat), M)
    | _ => none
  | _ => none
theorem cr_len : CallR X (.builtin "len") (rn (X.am W.Tb) oLen) := by
  intro pins s σ H xs us Q I r h
  obtain ⟨as, M, ρ, is, m, ro⟩ := h
  unfold oLen at ro
  split at ro
  · cases is with
    | cons i1 is =>
      cases is
      cases i1 with
      | tup ht it => exact call_len pins s σ H _ us Q I r ⟨_, _, rfl, .inr ⟨_, .inl (.inl ht), it.length⟩, ro.val m (.int _)⟩
  · rename_i l
    cases is with
    | cons i1 is =>
      cases is
      cases i1 with
      | lst hl =>
        cases el : listAt M l with
        | none => rw [el] at ro; exact ro.elim
        | some ys =>
          rw [el] at ro
          obtain ⟨vs, hq, iv⟩ := m.list hl el
          exact call_len pins s σ H _ us Q I r ⟨_, _, rfl, .inl ⟨_, hq, iv.length⟩, RO.val (ρ := ρ) (M := M) ro m (.int _)⟩
  · cases is with
    | cons i1 is =>
      cases is
      cases i1
      split at ro
      · rename_i hz
        exact call_len pins s σ H _ us Q I r ⟨_, _, rfl, ⟨hz, rfl⟩, ro.val m (.int _)⟩
      · exact ro.elim
  · rename_i d
    cases is with
    | cons i1 is =>
      cases is
      cases i1 with
      | dct hd =>
        split at ro
        · rename_i kvs ec
          obtain ⟨vs, q, iv⟩ := m.at_ _ _ _ hd ec
          refine call_lenD pins s σ H _ us Q I r ⟨_, _, rfl, q, ?_⟩
          have : ((kvs.map (·.1)).zip vs).length = kvs.length := by have := iv.length; simp only [List.length_zip, List.length_map] at this ⊢; omega
          rw [this]
          exact ro.val m (.int _)
        · rename_i kvs ec
          obtain ⟨vs, q, iv⟩ := m.at_ _ _ _ hd ec
          refine call_len_dT pins s σ H _ us Q I r ⟨_, _, rfl, q, ?_⟩
          have : ((kvs.map (·.1)).zip vs).length = kvs.length := by have := iv.length; simp only [List.length_zip, List.length_map] at this ⊢; omega
          rw [this]
          exact ro.val m (.int _)
        · exact ro.elim
  · exact ro.elim
/-! ### int, min, max, abs, tuple, list, all, any -/
def oInt1 : On := fun as M => match as with
  | [.int i] => some (.int i, M)
  | [.bl k] => some (.int (if k then 1 else 0), M)
  | _ => none
theorem cr_int : CallR X (.type "int") (rn (X.am W.Tb) oInt1) := by
  intro pins s σ H xs us Q I r h
  obtain ⟨as, M, ρ, is, m, ro⟩ := h
  unfold oInt1 at ro
  split at ro
  · cases is with
    | cons i1 is => cases is; cases i1; exact call_int1 pins s σ H _ us Q I r (.inl ⟨_, rfl, ro.val m (.int _)⟩)
  · cases is with
    | cons i1 is => cases is; cases i1; exact call_int1 pins s σ H _ us Q I r (.inr ⟨_, rfl, ro.val m (.int _)⟩)
  · exact ro.elim
def oTuple : On := fun as M => match as with
  | [.tup xs] => some (.tup xs, M)
  | [.lst l] => (listAt M l).map fun xs => (.tup xs, M)
  | _ => none
theorem cr_tuple : CallR X (.type "tuple") (rn (X.am W.Tb) oTuple) := by
  intro pins s σ H xs us Q I r h
  obtain ⟨as, M, ρ, is, m, ro⟩ := h
  unfold oTuple at ro
  split at ro
  · cases is with
    | cons i1 is =>
      cases is
      cases i1 with
      | tup ht it => exact call_tuple_of pins s σ H _ us Q I r ⟨_, _, rfl, .inr ⟨.inl (.inl ht), ro.val m (.tup ht it)⟩⟩
  · rename_i l
    cases is with
    | cons i1 is =>
      cases is
      cases i1 with
      | lst hl =>
        cases el : listAt M l with
        | none => rw [el] at ro; exact ro.elim
        | some ys =>
          rw [el] at ro
          obtain ⟨vs, hq, iv⟩ := m.list hl el
          exact call_tuple_of pins s σ H _ us Q I r ⟨_, _, rfl, .inl ⟨hq, fun p hp => RO.newT (M := M) ro m iv hp⟩⟩
  · exact ro.elim
/-- the keys of a dict of tuples -/
def keyA : Key → A
  | .inl i => .int i
  | .inr x => .str x
def oList : On := fun as M => match as with
  | [.tup xs] => some (.lst M.length, M ++ [.lst xs])
  | [.lst l] => (listAt M l).map fun xs => (.lst M.length, M ++ [.lst xs])
  | [.dct d] => match M[d]? with
    | some (.dK kvs) => some (.lst M.length, M ++ [.lst (kvs.map fun kv => keyA kv.1)])
    | some (.dT kvs) => some (.lst M.length, M ++ [.lst (kvs.map fun kv => .tup (kv.1.map keyA))])
    | _ => none
  | _ => none
theorem keyA_is {ρ : List Addr} {H : Hp} (k : Key) : Is ρ H (keyA k) (kV k) := by
  cases k with
  | inl i => exact .int i
  | inr x => exact .str x
theorem keysA_is {ρ : List Addr} {H : Hp} : ∀ ks : List Key, IsAll ρ H (ks.map keyA) (ks.map kV)
  | [] => .nil
  | k :: ks => .cons (keyA_is k) (keysA_is ks)
theorem map_zip_fst {κ β : Type} {ks : List κ} {vs : List β} (h : ks.length = vs.length) : (ks.zip vs).map (·.1) = ks := by
  induction ks generalizing vs with
  | nil => rfl
  | cons k ks ih =>
    cases vs with
    | nil => cases h
    | cons v vs => simp only [List.zip_cons_cons, List.map_cons]; rw [ih (by simpa using h)]
theorem isKeys_all {ρ : List Addr} {H : Hp} : ∀ {ks : List (List Key)} {vs : List V} {bs : List Addr}, ks.length = vs.length → IsKeys H (ks.zip vs) bs → IsAll ρ H (ks.map fun k => .tup (k.map keyA)) (bs.map V.ref)
  | [], _, bs, _, h => by
    cases h
    exact .nil
  | k :: ks, [], _, hl, _ => by cases hl
  | k :: ks, v :: vs, _, hl, h => by
    cases h with
    | cons h1 h2 => exact .cons (.tup h1 (keysA_is k)) (isKeys_all (by simpa using hl) h2)
theorem cr_list (hc : X.calm = true) : CallR X (.type "list") (rn (X.am W.Tb) oList) := by
  intro pins s σ H xs us Q I r h
  obtain ⟨as, M, ρ, is, m, ro⟩ := h
  unfold oList at ro
  split at ro
  · cases is with
    | cons i1 is =>
      cases is
      cases i1 with
      | tup ht it => exact call_list_of pins s σ H _ us Q I r ⟨_, _, rfl, .inr (.inl (.inl ht)), fun p hp => ro.newL m it hp⟩
  · rename_i l
    cases is with
    | cons i1 is =>
      cases is
      cases i1 with
      | lst hl =>
        cases el : listAt M l with
        | none => rw [el] at ro; exact ro.elim
        | some ys =>
          rw [el] at ro
          obtain ⟨vs, hq, iv⟩ := m.list hl el
          exact call_list_of pins s σ H _ us Q I r ⟨_, _, rfl, .inl hq, fun p hp => RO.newL (M := M) ro m iv hp⟩
  · rename_i d
    cases is with
    | cons i1 is =>
      cases is
      cases i1 with
      | dct hd =>
        split at ro
        · rename_i kvs ec
          obtain ⟨vs, q, iv⟩ := m.at_ _ _ _ hd ec
          have hl : (kvs.map (·.1)).length = vs.length := by have := iv.length; simpa using this
          refine call_list_dK hc pins s σ H _ us Q I r ⟨_, _, rfl, q, fun p hp => ?_⟩
          have e : ((kvs.map (·.1)).zip vs).map (fun kv => kV kv.1) = (kvs.map (·.1)).map kV := by
            rw [show (fun kv : Key × V => kV kv.1) = kV ∘ (·.1) from rfl, ← List.map_map, map_zip_fst hl]
          rw [e]
          have e2 : (kvs.map fun kv => keyA kv.1) = (kvs.map (·.1)).map keyA := by rw [List.map_map]; rfl
          rw [e2] at ro
          exact ro.newL m (keysA_is _) hp
        · rename_i kvs ec
          obtain ⟨vs, q, iv⟩ := m.at_ _ _ _ hd ec
          have hl : (kvs.map (·.1)).length = vs.length := by have := iv.length; simpa using this
          refine call_list_dT hc pins s σ H _ us Q I r ⟨_, _, rfl, .inl q, fun p bs hp hk => ?_⟩
          have e2 : (kvs.map fun kv => A.tup (kv.1.map keyA)) = (kvs.map (·.1)).map fun k => .tup (k.map keyA) := by rw [List.map_map]; rfl
          rw [e2] at ro
          exact ro.newL m (isKeys_all hl hk) hp
        · exact ro.elim
  · exact ro.elim
def bls? : List A → Option (List Bool)
  | [] => some []
  | .bl b :: r => (bls? r).map (b :: ·)
  | _ :: _ => none
theorem bls_ok {ρ : List Addr} {H : Hp} : ∀ {as : List A} {vs : List V} {bs : List Bool}, IsAll ρ H as vs → bls? as = some bs → vs = bs.map V.bl
  | [], _, bs, .nil, e => by cases e; rfl
  | a :: as, _, bs, .cons r rs, e => by
    cases r with
    | bl b =>
      simp only [bls?] at e
      cases e1 : bls? as with
      | none => rw [e1] at e; cases e
      | some bs' => rw [e1] at e; cases e; rw [bls_ok rs e1]; rfl
    | _ => simp only [bls?] at e; cases e
def oAll : On := fun as M => match as with
  | [.lst l] => ((listAt M l).bind bls?).map fun bs => (.bl (bs.all id), M)
  | _ => none
def oAny : On := fun as M => match as with
  | [.lst l] => ((listAt M l).bind bls?).map fun bs => (.bl (bs.any id), M)
  | _ => none
theorem cr_allA (hc : X.calm = true) : CallR X (.builtin "all") (rn (X.am W.Tb) oAll) := by
  intro pins s σ H xs us Q I r h
  obtain ⟨as, M, ρ, is, m, ro⟩ := h
  unfold oAll at ro
  split at ro
  · rename_i l
    cases is with
    | cons i1 is =>
      cases is
      cases i1 with
      | lst hl =>
        cases el : listAt M l with
        | none => rw [el] at ro; exact ro.elim
        | some ys =>
          obtain ⟨vs, hq, iv⟩ := m.list hl el
          cases eb : bls? ys with
          | none => rw [el, Option.bind_some, eb] at ro; exact ro.elim
          | some bs =>
            rw [el, Option.bind_some, eb] at ro
            rw [bls_ok iv eb] at hq
            exact cr_all hc pins s σ H _ us Q I r ⟨_, _, rfl, hq, RO.val (ρ := ρ) (M := M) ro m (.bl _)⟩
  · exact ro.elim
theorem cr_anyA (hc : X.calm = true) : CallR X (.builtin "any") (rn (X.am W.Tb) oAny) := by
  intro pins s σ H xs us Q I r h
  obtain ⟨as, M, ρ, is, m, ro⟩ := h
  unfold oAny at ro
  split at ro
  · rename_i l
    cases is with
    | cons i1 is =>
      cases is
      cases i1 with
      | lst hl =>
        cases el : listAt M l with
        | none => rw [el] at ro; exact ro.elim
        | some ys =>
          obtain ⟨vs, hq, iv⟩ := m.list hl el
          cases eb : bls? ys with
          | none => rw [el, Option.bind_some, eb] at ro; exact ro.elim
          | some bs =>
            rw [el, Option.bind_some, eb] at ro
            rw [bls_ok iv eb] at hq
            exact cr_any hc pins s σ H _ us Q I r ⟨_, _, rfl, hq, RO.val (ρ := ρ) (M := M) ro m (.bl _)⟩
  · exact ro.elim
end
end AB
/-! AB7: methods of lists, ranges as values -/
namespace AB
open PySem PySem.Spec PyProof.Rows L2
section
variable {X : Cx} {W : WR} {pos : Pos} {a b e : Expr} {es : List Expr} {f g : EF} {fs : EFs}
/-! ### list methods -/
abbrev OM := A → List A → Store → Option (A × Store)
def rm (w : Amb) (o : OM) : V → List V → Hp → VK → Prop := fun x xs H Q => ∃ a as M ρ, Is ρ H a x ∧ IsAll ρ H as xs ∧ RM w ρ H M ∧ RO w ρ H (o a as M) Q
def isL (M : Store) : A → Bool
  | .lst l => (listAt M l).isSome
  | _ => false
def eMeth (o : OM) (f : EF) (fs : EFs) : EF := fun τ M => (f τ M).bind fun a M1 => if isL M1 a = true then (fs τ M1).bind fun as M2 => toE (o a as M2) else .bad
theorem isL_ok {ρ : List Addr} {H : Hp} {M : Store} (m : RM w ρ H M) {a : A} {v : V} (i : Is ρ H a v) (h : isL M a = true) : tyV w.K "list" v H := by
  cases i with
  | lst hl =>
    simp only [isL] at h
    cases el : listAt M _ with
    | none => rw [el] at h; cases h
    | some xs =>
      obtain ⟨vs, q, _⟩ := m.list hl el
      exact .inl ⟨rfl, vs, q⟩
  | _ => simp only [isL] at h; cases h
theorem ae_meth {o : OM} {name : Str} {id : String} {apos cpos : Pos} (slot : Slot "list" name id) (hty : typeOf (.builtin id) = pure (.type "method_descriptor")) (hm : MtR X id (rm (X.am W.Tb) o)) (ho : AE X W a f) (ha : AA X W (e :: es) fs)
    (hbase : attributeBase a name X.env (eval a X.env) = eval a X.env := by rfl)
    (hfew : ((backTo cpos (starEach (e :: es) X.env)).all (fun x => !x.1) && (backToKw cpos (keywordEach [] X.env)).all (fun x => x.1.isSome)
      && decide ((e :: es).length + ([] : List Keyword).length + (if ([] : List Keyword).isEmpty then 0 else 1) < 30)) = true := by rfl)
    (hline : (apos.endLine == cpos.line) = true := by rfl) (hs : starEach (e :: es) X.env = (false, eval e X.env) :: starEach es X.env := by rfl) (hplain : (backTo cpos (starEach es X.env)).any (·.1) = false := by rfl) :
    AE X W (.Call (.Attribute a name apos) (e :: es) [] cpos) (eMeth o f fs) := (pe_bm PySem.F.plainAttrs_list slot hty hm ho ha hbase hfew hline hs hplain).pre fun σ H Q h => by
  refine (seqG Is h).imp fun x H1 h1 => ?_
  obtain ⟨τ, M, ρ, c, rs, rm', i, r⟩ := h1
  have r : RE (X.gx W.Tb) W σ ρ H1 Is (if isL M c = true then (fs τ M).bind fun as M2 => toE (o c as M2) else .bad) Q := r
  split at r
  · rename_i hl
    refine ⟨isL_ok rm' i hl, τ, M, ρ, rs, rm', ?_⟩
    cases e2 : fs τ M with
    | ok as M2 =>
      rw [e2] at r
      intro vs H2 ρ2 x g m is
      have r := RE.mono r x g
      exact ⟨c, as, M2, ρ2, i.mono x g, is, m, RO.of r⟩
    | ex en M2 => rw [e2] at r; exact r
    | bad => rw [e2] at r; exact r
  · exact r.elim
def oAppend : OM := fun x as M => match x, as with
  | .lst l, [y] => match M[l]? with
    | some (.lst xs) => if xs.length < sizeLine then some (.non, M.set l (.lst (xs ++ [y]))) else none
    | _ => none
  | _, _ => none
theorem mt_appendA : MtR X "list.append" (rm (X.am W.Tb) oAppend) := by
  intro pins s σ H x xs v us Q I rx rxs h
  obtain ⟨a, as, M, ρ, ia, is, m, ro⟩ := h
  unfold oAppend at ro
  split at ro
  · rename_i l y
    cases is with
    | cons i1 is =>
      cases is
      cases ia with
      | lst hl =>
        split at ro
        · rename_i ys ec
          split at ro
          · rename_i hz
            obtain ⟨vs, hh, iv⟩ := m.lstM hl ec
            exact mt_append pins s σ H _ _ v us Q I rx rxs ⟨_, _, _, rfl, rfl, hh, by rw [← iv.length]; exact hz, ro.setL m hl ec (iv.append (.cons i1 .nil)) .non⟩
          · exact ro.elim
        · exact ro.elim
  · exact ro.elim
def oPop : OM := fun x as M => match x, as with
  | .lst l, [] => match M[l]? with
    | some (.lst xs) => match xs[xs.length - 1]? with
      | some y => some (y, M.set l (.lst xs.dropLast))
      | none => none
    | _ => none
  | .lst l, [.int i] => match M[l]? with
    | some (.lst xs) => if -(2 ^ 63) ≤ i ∧ i < 2 ^ 63 then match seqIndex? i xs.length with
        | some k => match xs[k]? with
          | some y => some (y, M.set l (.lst (xs.eraseIdx k)))
          | none => none
        | none => none
      else none
    | _ => none
  | _, _ => none
/-- the first place of an equal flat item -/
def ixFlat (y : V) : List V → Nat → Option Nat
  | [], _ => none
  | x :: xs, j => if eqV x y = true then some j else ixFlat y xs (j + 1)
theorem ixFlat_ok {y : V} : ∀ {xs : List V} {j n : Nat}, ixFlat y xs j = some n → ∃ k z, n = j + k ∧ xs[k]? = some z ∧ eqV z y = true ∧ ∀ (m : Nat) (z' : V), m < k → xs[m]? = some z' → eqV z' y = false
  | [], _, _, e => by cases e
  | x :: xs, j, n, e => by
    unfold ixFlat at e
    split at e
    · rename_i h; cases e
      exact ⟨0, x, rfl, rfl, h, fun m z' hm => absurd hm (Nat.not_lt_zero m)⟩
    · rename_i h
      obtain ⟨k, z, e1, e2, e3, e4⟩ := ixFlat_ok e
      refine ⟨k + 1, z, by omega, by simpa using e2, e3, fun m z' hm hz => ?_⟩
      cases m with
      | zero => simp at hz; subst hz; simpa using h
      | succ m => exact e4 m z' (by omega) (by simpa using hz)
def oIndex : OM := fun x as M => match x, as with
  | .lst l, [y] => match listAt M l with
    | some xs => match flat? y, xs.mapM flat? with
      | some w, some ws => (ixFlat w ws 0).map fun j => (.int (j : Nat), M)
      | _, _ => none
    | none => none
  | _, _ => none
theorem mt_indexA : MtR X "list.index" (rm (X.am W.Tb) oIndex) := by
  intro pins s σ H x xs v us Q I rx rxs h
  obtain ⟨a, as, M, ρ, ia, is, m, ro⟩ := h
  unfold oIndex at ro
  split at ro
  · rename_i l y
    cases is with
    | cons i1 is =>
      cases is
      cases ia with
      | lst hl =>
        split at ro
        · rename_i ys el
          split at ro
          · rename_i w ws e1 e2
            obtain ⟨vs, hq, iv⟩ := m.list hl el
            obtain ⟨rfl, f1⟩ := flat_ok i1 e1
            obtain ⟨rfl, f2⟩ := flats_ok iv e2
            cases e3 : ixFlat _ vs 0 with
            | none => rw [e3] at ro; exact ro.elim
            | some j =>
              rw [e3] at ro
              obtain ⟨k, z, h1, h2, h3, h4⟩ := ixFlat_ok e3
              have : j = k := by omega
              subst this
              exact mt_index pins s σ H _ _ v us Q I rx rxs ⟨_, _, _, j, z, rfl, rfl, hq, f1, f2, h2, h3, h4, RO.val (ρ := ρ) (M := M) ro m (.int _)⟩
          · exact ro.elim
        · exact ro.elim
  · exact ro.elim
def oExtend : OM := fun x as M => match x, as with
  | .lst l, [.lst k] => match M[l]?, M[k]? with
    | some (.lst xs), some (.lst ys) => if xs.length + ys.length ≤ sizeLine then some (.non, M.set l (.lst (xs ++ ys))) else none
    | _, _ => none
  | _, _ => none
theorem mt_extendA : MtR X "list.extend" (rm (X.am W.Tb) oExtend) := by
  intro pins s σ H x xs v us Q I rx rxs h
  obtain ⟨a, as, M, ρ, ia, is, m, ro⟩ := h
  unfold oExtend at ro
  split at ro
  · rename_i l k
    cases is with
    | cons i1 is =>
      cases is
      cases ia with
      | lst hl =>
        cases i1 with
        | lst hk =>
          split at ro
          · rename_i ys zs e1 e2
            split at ro
            · rename_i hz
              obtain ⟨vs, hh, iv⟩ := m.lstM hl e1
              obtain ⟨ws, hh2, iw⟩ := m.lstM hk e2
              exact mt_extend pins s σ H _ _ v us Q I rx rxs ⟨_, _, _, _, rfl, rfl, hh, hh2, by rw [← iv.length, ← iw.length]; exact hz, ro.setL m hl e1 (iv.append iw) .non⟩
            · exact ro.elim
          · exact ro.elim
  · exact ro.elim
theorem ae_append {apos cpos : Pos} (ho : AE X W a f) (ha : AA X W [e] fs) (hbase : attributeBase a "append" X.env (eval a X.env) = eval a X.env := by rfl)
    (hfew : ((backTo cpos (starEach [e] X.env)).all (fun x => !x.1) && (backToKw cpos (keywordEach [] X.env)).all (fun x => x.1.isSome)
      && decide ([e].length + ([] : List Keyword).length + (if ([] : List Keyword).isEmpty then 0 else 1) < 30)) = true := by rfl)
    (hline : (apos.endLine == cpos.line) = true := by rfl) (hs : starEach [e] X.env = (false, eval e X.env) :: starEach [] X.env := by rfl) (hplain : (backTo cpos (starEach [] X.env)).any (·.1) = false := by rfl) :
    AE X W (.Call (.Attribute a "append" apos) [e] [] cpos) (eMeth oAppend f fs) := ae_meth PySem.F.slot_list_append PySem.F.type_list_append mt_appendA ho ha hbase hfew hline hs hplain
theorem ae_index {apos cpos : Pos} (ho : AE X W a f) (ha : AA X W [e] fs) (hbase : attributeBase a "index" X.env (eval a X.env) = eval a X.env := by rfl)
    (hfew : ((backTo cpos (starEach [e] X.env)).all (fun x => !x.1) && (backToKw cpos (keywordEach [] X.env)).all (fun x => x.1.isSome)
      && decide ([e].length + ([] : List Keyword).length + (if ([] : List Keyword).isEmpty then 0 else 1) < 30)) = true := by rfl)
    (hline : (apos.endLine == cpos.line) = true := by rfl) (hs : starEach [e] X.env = (false, eval e X.env) :: starEach [] X.env := by rfl) (hplain : (backTo cpos (starEach [] X.env)).any (·.1) = false := by rfl) :
    AE X W (.Call (.Attribute a "index" apos) [e] [] cpos) (eMeth oIndex f fs) := ae_meth PySem.F.slot_list_index PySem.F.type_list_index mt_indexA ho ha hbase hfew hline hs hplain
theorem ae_extend {apos cpos : Pos} (ho : AE X W a f) (ha : AA X W [e] fs) (hbase : attributeBase a "extend" X.env (eval a X.env) = eval a X.env := by rfl)
    (hfew : ((backTo cpos (starEach [e] X.env)).all (fun x => !x.1) && (backToKw cpos (keywordEach [] X.env)).all (fun x => x.1.isSome)
      && decide ([e].length + ([] : List Keyword).length + (if ([] : List Keyword).isEmpty then 0 else 1) < 30)) = true := by rfl)
    (hline : (apos.endLine == cpos.line) = true := by rfl) (hs : starEach [e] X.env = (false, eval e X.env) :: starEach [] X.env := by rfl) (hplain : (backTo cpos (starEach [] X.env)).any (·.1) = false := by rfl) :
    AE X W (.Call (.Attribute a "extend" apos) [e] [] cpos) (eMeth oExtend f fs) := ae_meth PySem.F.slot_list_extend PySem.F.type_list_extend mt_extendA ho ha hbase hfew hline hs hplain
/-! ### list(range(..)), tuple(range(..)) -/
abbrev ER := Sl → Store → EO (Int × Int)
def g1 (f : EF) : ER := fun τ M => (f τ M).bind fun a M1 => match a with
  | .int n => .ok (0, n) M1
  | _ => .bad
abbrev relR : Rel (Int × Int) (Int × Int) := fun _ _ a b => a = b
def AR (X : Cx) (W : WR) (e : Expr) (f : ER) : Prop := PRg X e (fun σ H R => tG (X.gx W.Tb) W relR f σ H fun p H1 => R p.1 p.2 H1)
theorem ar_1 {p pos : Pos} (hm : X.mg "range" = none) (ha : AE X W a f) (hg : Gl X "range" := by rfl) (na : starEach [a] X.env = (false, eval a X.env) :: starEach [] X.env := by rfl) : AR X W (.Call (.Name "range" p) [a] [] pos) (g1 f) := by
  intro pins s σ H Q I h
  refine prg_1 hg hm ha na pins s σ H Q I ((seqG Is h).imp fun x H1 h1 => ?_)
  obtain ⟨τ, M, ρ, c, rs, rm', i, r⟩ := h1
  cases c with
  | int n => cases i; exact ⟨n, rfl, RE.okv (a := (0, n)) (M := M) (rel := relR) (b := (0, n)) r (.refl _) (.refl _) rm' rfl⟩
  | _ => exact r.elim
end
end AB
/-! AB8: enumerate of a tuple -/
namespace ET
open PySem PySem.Spec PyProof.Rows L2
open AutoSeq1 (wpAny_loadPart')
theorem meets_enumerate_newT (l : Addr) (items : Array Value) (n : Nat) (dct : Option Addr) (sl : Array (Option Value)) :
    Meets (Builtin.«enumerate.__new__» ⟨[.type "enumerate", .ref l], []⟩) (fun _ R s => s.heap.get? l = some { cls := .type "tuple", dict := dct, data := .seq items n, slots := sl } ∧
      R (.ok (.ret (.ref (s.heap.push { cls := .type "tuple_iterator", data := .fields #[.ref l, .int 0 0] }).objs.size)))
        { s with heap := (s.heap.push { cls := .type "tuple_iterator", data := .fields #[.ref l, .int 0 0] }).push { cls := .type "enumerate", data := .fields #[.none, .bool false, .ref s.heap.objs.size, rawInt 0, .none, .none] } }) :=
  .of_wp fun prog w A R s h => by
    obtain ⟨hp, g, d, tk, os⟩ := s; obtain ⟨hl, h⟩ := h
    have hsub := sub_enumerate
    have hL : Heap.IsTuple (Shared.heap ⟨hp, g, d, tk, os⟩) l items := ⟨_, hl, rfl, n, rfl⟩
    wp_walk using wpAny_loadPart' hl
    refine wpAny_stack_any fun st => wpAny_pure ?_
    split
    · rename_i c _ _ _ _ _
      cases (c == Value.type "enumerate")
      · wp_walk using wpAny_loadPart' hl, wpAny_pyIter_tuple hL
        exact ⟨_, rfl, h⟩
      · wp_walk using wpAny_loadPart' hl, wpAny_pyIter_tuple hL
        exact ⟨_, rfl, h⟩
    · wp_walk using wpAny_loadPart' hl, wpAny_pyIter_tuple hL
      exact ⟨_, rfl, h⟩
section
variable {prog : Program} {w : World} {A : Around} {E : Value → Shared → Prop} {s : Shared}
theorem call_enumerate_tup {l : Addr} {items : Array Value} {Q : Value → Shared → Prop} (hL : s.heap.IsTuple l items)
    (h : ∀ h', IsEnum h' (s.heap.objs.size + 1) s.heap.objs.size 0 .none → h'.IsTupleIter s.heap.objs.size l 0 → h'.objs.size = s.heap.objs.size + 2 →
      (∀ b o, s.heap.get? b = some o → h'.get? b = some o) → Q (.ref (s.heap.objs.size + 1)) { s with heap := h' }) :
    wpAny (model prog w) A (call (.type "enumerate") [.ref l]) Q E s := by
  obtain ⟨⟨c, dct, dt, sl⟩, hl, hc, n, hd⟩ := hL
  replace hc : c = .type "tuple" := hc
  replace hd : dt = .seq items n := hd
  subst hc hd
  refine callType_new F.called_enumerate (by decide) (F.typeCall_enumerate_1 _) (F.newCall_enumerate_1 _) (fun obj => F.args_object_init_2 obj _) F.entry_enumerate_new
    (meets_enumerate_newT l items n dct sl) ⟨hl, ?_⟩
  have hz : (s.heap.push { cls := .type "tuple_iterator", data := .fields #[.ref l, .int 0 0] }).objs.size = s.heap.objs.size + 1 := Heap.size_push ..
  show _ ∧ _
  rw [hz]
  have he : IsEnum ((s.heap.push { cls := .type "tuple_iterator", data := .fields #[.ref l, .int 0 0] }).push
      { cls := .type "enumerate", data := .fields #[.none, .bool false, .ref s.heap.objs.size, rawInt 0, .none, .none] }) (s.heap.objs.size + 1) s.heap.objs.size 0 .none := by
    have := Heap.get?_push_size (s.heap.push { cls := .type "tuple_iterator", data := .fields #[.ref l, .int 0 0] })
      (o := { cls := .type "enumerate", data := .fields #[.none, .bool false, .ref s.heap.objs.size, rawInt 0, .none, .none] }) rfl
    rw [hz] at this; exact this
  refine ⟨⟨_, he, rfl⟩, h _ he ⟨_, Heap.get?_push_of_some _ (Heap.get?_push_size _ rfl), rfl, rfl⟩ (by rw [Heap.size_push, hz]) fun b o x => Heap.get?_push_of_some _ (Heap.get?_push_of_some _ x)⟩
end
theorem enum_end_tup {prog : Program} {w : World} {A : Around} {E : Value → Shared → Prop} {s : Shared} {e it l : Addr} {i : Nat} {items : Array Value} {old : Value} {Q : Option Value → Shared → Prop} (hh : A.handled = none)
    (he : IsEnum s.heap e it i old) (hit : s.heap.IsTupleIter it l i) (hl : s.heap.IsTuple l items) (hx : items[i]? = none)
    (hQ : ∀ h', Heap.ExtBut it s.heap h' → Q none { s with heap := h' }) : wpAny (model prog w) A (pyNext (.ref e)) Q E s := by
  have hT : s.TypeIs (.ref e) "enumerate" := ⟨_, he, rfl⟩
  unfold pyNext
  refine wpAny_bind (wpAny_attempt (wpAny_callSpecial?_slot (name := Str.ofString "__next__") hT F.slot_enumerate_next
    (wpAny_call_entry F.slot_enumerate_next hT F.entry_enumerate_next ?_ (F.args_enumerate_next_1 _))))
  show wpAny _ _ (field (.ref e) 2 >>= _) _ _ _
  refine wpAny_bind (wpAny_field he rfl (x := .ref it) rfl ?_)
  refine wpAny_bind (wpAny_nextOf_tuple_end (by first | exact hh | (show A.in1.handled = none; exact hh)) hit hl hx fun h' x he' hx' => ?_)
  obtain ⟨o, ho, hc⟩ := hx'
  refine wpAny_bind (wpAny_isInstance (T := "StopIteration") (b := true) ⟨o, ho, hc⟩ isSubtype_stop ?_)
  exact wpAny_pure (hQ _ he')
/-- each item of the tuple at a in a new pair -/
def ItE (K : PySem.W.Frag) (a : Addr) : It :=
  ⟨fun i H => ∃ (xs : List V) (x : V), SqT K H a xs ∧ xs[i]? = some x, fun i H v H' => ∃ T x, v = .ref T ∧ H T = none ∧ H' = upd H T (.tup [.int (i : Nat), x]) ∧ ∀ xs, SqT K H a xs → xs[i]? = some x, fun i H => ∃ xs : List V, SqT K H a xs ∧ xs.length ≤ i⟩
theorem turn_enumT {P : Program} {w : World} {K : PySem.W.Frag} {elts : List Expr} {kk : Nat} {tpos : Pos} (a e it : Addr) :
    Turn P w K (.Tuple elts kk tpos) (ItE K a) [e, it] e (fun i h => (∃ old, IsEnum h e it ((i : Nat) : Int) old) ∧ h.IsTupleIter it a i ∧ e ≠ it) where
  mem := by simp
  obj := fun i h st b hb => by
    obtain ⟨⟨old, he⟩, ⟨o, ho, hc, hd⟩, _⟩ := st
    have e' : b = e ∨ b = it := by simpa using hb
    rcases e' with z | z
    · rw [z]; exact ⟨_, he, fun v q => nomatch q⟩
    · rw [z]; exact ⟨o, ho, fun v q => by rw [hd] at q; cases q⟩
  keep := fun i h h' st k => let ⟨⟨old, he⟩, hi, hne⟩ := st; ⟨⟨old, k e (by simp) _ he⟩, hi.at fun o q => k it (by simp) o q, hne⟩
  item := by
    intro X hP hw hK hc i pins s σ H E I hf st hg
    subst hP hw hK
    obtain ⟨⟨old, he⟩, hit, hne⟩ := st
    obtain ⟨xs, x, hq, hx⟩ := hg
    obtain ⟨its, rv, p, hz⟩ := I.tuple hq
    obtain ⟨u, hu, ru⟩ := rv.get hx
    have hel : e < s.heap.objs.size := Heap.lt_size he
    have hil : it < s.heap.objs.size := by obtain ⟨_, q, _⟩ := hit; exact Heap.lt_size q
    obtain ⟨ob, hob, hcb, nb, hdb⟩ := id (show s.heap.IsTuple a its.toArray from p)
    have hae : a ≠ e := fun z => by
      subst z
      rw [he] at hob; cases hob; exact absurd (Value.type.inj hcb) (by decide)
    have hai : a ≠ it := fun z => by
      subst z
      obtain ⟨o2, q1, q2, _⟩ := hit
      rw [q1] at hob; cases hob; rw [q2] at hcb; exact absurd (Value.type.inj hcb) (by decide)
    have D := Draws.tuple (prog := X.prog) (w := X.w) (A := X.A.in1) (I.ok.hd hc) it a hai its.toArray
    have hlt : i < its.toArray.size := by
      have := (List.getElem?_eq_some_iff.mp hu).1
      simpa using this
    refine wpAny_pyNext_enum_itemD (i := i) D he ⟨hit, show s.heap.IsTuple a its.toArray from p⟩ hlt hne (by simp [hne, Ne.symm hae]) fun u' h' tk hu' ho hit' hT hsz hk => ?_
    have hu' : its.toArray[i]? = some u' := hu'
    have eu : u' = u := by
      have q : its.toArray[i]? = some u := by simpa using hu
      rw [q] at hu'; exact (Option.some.inj hu').symm
    subst eu
    refine ⟨_, rfl, wpAny_letOwnedTupleGo_enum (s := { s with heap := h', toks := tk + 1 }) ho fun h'' he' sb => ?_⟩
    have hT2 : h''.get? s.heap.objs.size = some { cls := .type "tuple", data := .seq #[.int i tk, u'] } := (sb.2 _ (Nat.ne_of_gt hel)).trans hT
    have new : ObjOk X.prog X.w (upd H s.heap.objs.size (.tup [.int (i : Nat), x])) h'' s.heap.objs.size (.tup [.int (i : Nat), x]) :=
      ⟨by show 2 ≤ sizeLine; decide, [.int i tk, u'], .cons ⟨_, rfl⟩ (.cons ru .nil), ⟨_, hT2, rfl, _, rfl⟩⟩
    have I1 : Inv X pins σ (upd H s.heap.objs.size (.tup [.int (i : Nat), x])) { s with heap := h'', toks := tk + 1 } :=
      I.turnedNew (ch := [e, it]) (fun b ob hb q => (sb.2 b (fun z => hb (by simp [z]))).trans (hk b ob (fun z => hb (by simp [z])) (fun z => hb (by simp [z])) q)) hf (Nat.le_refl _) new
    refine ⟨.ref s.heap.objs.size, _, I1, rfl, ⟨_, x, rfl, I.hok.fresh (Nat.le_refl _), rfl, fun ys hy => by rw [I.tuple_inj hy hq]; exact hx⟩, ⟨⟨u', ?_⟩, hit'.1.at fun o q => (sb.2 it (Ne.symm hne)).trans q, hne⟩, fun b hb => ?_⟩
    · have e1 : ((i + 1 : Nat) : Int) = (i : Int) + 1 := by omega
      rw [e1]; exact he'
    · have hb' : b < s.heap.objs.size := by
        have e' : b = e ∨ b = it := by simpa using hb
        rcases e' with z | z
        · rw [z]; exact hel
        · rw [z]; exact hil
      rw [upd_ne (Nat.ne_of_lt hb')]
      exact (hf b hb).1
  done := by
    intro X hP hw hK hc i pins s σ H E I hf st hg
    subst hP hw hK
    obtain ⟨⟨old, he⟩, hit, hne⟩ := st
    obtain ⟨xs, hq, hx⟩ := hg
    obtain ⟨its, rv, p, hz⟩ := I.tuple hq
    obtain ⟨f0, f1, f2, f3, f4, f5⟩ := hf it (by simp)
    obtain ⟨ob, hob, hcb, nb, hdb⟩ := id (show s.heap.IsTuple a its.toArray from p)
    have hai : a ≠ it := fun z => by
      subst z
      obtain ⟨o2, q1, q2, _⟩ := hit
      rw [q1] at hob; cases hob; rw [q2] at hcb; exact absurd (Value.type.inj hcb) (by decide)
    have D := Draws.tuple (prog := X.prog) (w := X.w) (A := X.A.in1) (I.ok.hd hc) it a hai its.toArray
    have hl := rv.length
    -- the iterator's own place lies at the end or beyond: both read as its end
    exact enum_end_tup (I.ok.hd hc) he hit (show s.heap.IsTuple a its.toArray from p) (by simp; omega) fun h' eb => ⟨rfl, I.turned (t' := s.toks) (fun b o hb q => eb b o hb q) f0 f1 f3 f4 f5⟩
  self := fun A i s Q E st h => let ⟨⟨_, he⟩, _⟩ := st; wpAny_pyIter_enum he h
end ET
namespace ET
open PySem PySem.Spec PyProof.Rows L2
def iEnumT (K : PySem.W.Frag) (ta : TA) : TI := fun σ H R => ta σ H fun vs H1 => ∃ a xs, vs = [.ref a] ∧ SqT K H1 a xs ∧ R (ItE K a) H1
theorem pi_enumT {X : Cx} {e : Expr} {ta : TA} {p pos tpos : Pos} {elts : List Expr} {kk : Nat} (hg : Gl X "enumerate") (hm : X.mg "enumerate" = none) (ha : PA X [e] ta) (hs : starEach [e] X.env = [(false, eval e X.env)] := by rfl) :
    PI X (.Tuple elts kk tpos) (.Call (.Name "enumerate" p) [e] [] pos) (iEnumT X.K ta) := by
  refine ⟨fun pins s σ H R I h => ?_⟩
  refine Call_ (ld_blt I hg hm boot_enumerate (PyProof.Rows.callWith_type1 (thn (ha.run pos pins s σ H _ I h) fun us s1 ⟨vs, H1, I1, r1, q1⟩ => ?_) hs rfl))
  obtain ⟨a, xs, ex, hq, q⟩ := q1
  subst ex
  cases r1 with
  | cons r rr =>
    cases rr
    cases r
    obtain ⟨its, rv, p', hz⟩ := I1.tuple hq
    refine call_enumerate_tup (show s1.heap.IsTuple a its.toArray from p') fun h' he hit hsz hk => wpAny_pyIter_enum he ?_
    have I2 : Inv X pins σ H1 { s1 with heap := h' } := I1.kept (t' := s1.toks) hk
    refine ⟨s1.heap.objs.size + 1, [s1.heap.objs.size + 1, s1.heap.objs.size], _, _, H1, rfl, I2, turn_enumT a (s1.heap.objs.size + 1) s1.heap.objs.size, ⟨⟨.none, he⟩, hit, Nat.succ_ne_self _⟩, fun b hb => ?_, q⟩
    have e' : b = s1.heap.objs.size + 1 ∨ b = s1.heap.objs.size := by simpa using hb
    have hle : s1.heap.objs.size ≤ b := by
      rcases e' with z | z
      · rw [z]; exact Nat.le_add_right _ _
      · rw [z]; exact Nat.le_refl _
    exact I1.fpOk hle (I1.hok.fresh hle)
end ET
namespace AB
open PySem PySem.Spec PyProof.Rows L2
def pairsFrom : Nat → List A → List A
  | _, [] => []
  | n, x :: xs => .tup [.int (n : Nat), x] :: pairsFrom (n + 1) xs
theorem pairsFrom_get : ∀ (xs : List A) (n i : Nat), (pairsFrom n xs)[i]? = xs[i]?.map fun x => .tup [.int ((n + i : Nat) : Int), x]
  | [], _, _ => by simp [pairsFrom]
  | x :: xs, n, 0 => by simp [pairsFrom]
  | x :: xs, n, i + 1 => by
    simp only [pairsFrom, List.getElem?_cons_succ]
    rw [pairsFrom_get xs (n + 1) i]
    have : n + 1 + i = n + (i + 1) := by omega
    rw [this]
def enumOf (as : List A) (M : Store) : EO Src := match as with
  | [.tup xs] => .ok (.snap (pairsFrom 0 xs)) M
  | [.lst l] => match listAt M l with
    | some _ => .ok (.enl l) M
    | none => .bad
  | _ => .bad
def iEnumA (f : EFs) : EI := fun τ M => (f τ M).bind enumOf
section
variable {X : Cx} {W : WR} {pos : Pos}
theorem srcJ_enl {w : Amb} {ρ : List Addr} {H : Hp} {l : Nat} {a : Addr} (ha : ρ[l]? = some a) : SrcJ w ρ H (.enl l) (Ite w.K a) := by
  intro ρ2 H2 M2 i x g m
  cases el : listAt M2 l with
  | none => simp only [Src.at, el]; trivial
  | some xs =>
    obtain ⟨vs, q, is⟩ := m.list (x.get ha) el
    cases e : xs[i]? with
    | none =>
      simp only [Src.at, el, Option.map_some, e, Option.map_none]
      exact ⟨vs, q, by rw [← is.length]; exact List.getElem?_eq_none_iff.mp e⟩
    | some t =>
      simp only [Src.at, el, Option.map_some, e]
      obtain ⟨v, hv, iv⟩ := is.get e
      refine ⟨⟨vs, v, q, hv⟩, fun w H3 ⟨T, y, e1, hT, e2, hy⟩ => ?_⟩
      have := hy vs q
      rw [hv] at this
      obtain rfl := Option.some.inj this
      subst e1 e2
      exact ⟨.new hT, m.new hT, .tup upd_same (.cons (.int _) (.cons (iv.mono (.refl _) (.new hT)) .nil))⟩
theorem srcJ_ent {K : PySem.W.Frag} {ρ : List Addr} {H : Hp} {xs : List A} {vs : List V} {a : Addr} (ha : H a = some (.tup vs)) (is : IsAll ρ H xs vs) : SrcJ w ρ H (.snap (pairsFrom 0 xs)) (ET.ItE K a) := by
  intro ρ2 H2 M2 i x g m
  have h2 : SqT K H2 a vs := .inl (.inl (g _ _ (.tup _) ha))
  cases e : xs[i]? with
  | none =>
    simp only [Src.at, pairsFrom_get, e, Option.map_none]
    exact ⟨vs, h2, by rw [← is.length]; exact List.getElem?_eq_none_iff.mp e⟩
  | some t =>
    simp only [Src.at, pairsFrom_get, e, Option.map_some]
    obtain ⟨v, hv, iv⟩ := is.get e
    refine ⟨⟨vs, v, h2, hv⟩, fun w H3 ⟨T, y, e1, hT, e2, hy⟩ => ?_⟩
    have := hy vs h2
    rw [hv] at this
    obtain rfl := Option.some.inj this
    subst e1 e2
    refine ⟨.new hT, m.new hT, .tup upd_same (.cons ?_ (.cons ((iv.mono x g).mono (.refl _) (.new hT)) .nil))⟩
    have : (0 + i : Nat) = i := by omega
    rw [this]
    exact .int _
theorem ai_enum {e : Expr} {fs : EFs} {p tpos : Pos} {elts : List Expr} {kk : Nat} (hm : X.mg "enumerate" = none) (ha : AA X W [e] fs) (hg : Gl X "enumerate" := by rfl) (hs : starEach [e] X.env = [(false, eval e X.env)] := by rfl) :
    AI X W (.Tuple elts kk tpos) (.Call (.Name "enumerate" p) [e] [] pos) (iEnumA fs) := ((pi_enum hg hm ha hs).or (ET.pi_enumT hg hm ha hs)).pre fun σ H R h => by
  obtain ⟨τ, M, ρ, rs, rm, r⟩ := h
  unfold iEnumA at r
  cases ef : fs τ M with
  | ok as M1 =>
    rw [ef] at r
    have r : RE (X.gx W.Tb) W σ ρ H (relJ (X.am W.Tb)) (enumOf as M1) R := r
    unfold enumOf at r
    split at r
    · refine .inr ⟨τ, M, ρ, rs, rm, ?_⟩
      rw [ef]
      intro vs H1 ρ1 x g m i
      cases i with
      | cons i1 i =>
        cases i
        cases i1 with
        | tup ht it => exact ⟨_, _, rfl, .inl (.inl ht), r.okv x g m (srcJ_ent ht it)⟩
    · rename_i l
      refine .inl ⟨τ, M, ρ, rs, rm, ?_⟩
      rw [ef]
      intro vs H1 ρ1 x g m i
      cases i with
      | cons i1 i =>
        cases i
        cases i1 with
        | lst hl =>
          split at r
          · rename_i xs el
            obtain ⟨ws, q, _⟩ := m.list hl el
            exact ⟨_, _, rfl, q, r.okv x g m (srcJ_enl hl)⟩
          · exact r.elim
    · exact r.elim
  | ex en M1 => rw [ef] at r; exact .inl ⟨τ, M, ρ, rs, rm, by rw [ef]; exact r⟩
  | bad => rw [ef] at r; exact r.elim
end
end AB
/-! AB9: dicts of nested keys; lengths of sets; three names at once -/
namespace AB
open PySem PySem.Spec PyProof.Rows L2
mutual
def nkey? : A → Option NestedKey
  | .non => some .none
  | .int i => some (.num i)
  | .str x => some (.text x)
  | .tup xs => (nkeys? xs).map .tup
  | _ => none
def nkeys? : List A → Option (List NestedKey)
  | [] => some []
  | x :: xs => match nkey? x, nkeys? xs with
    | some k, some ks => some (k :: ks)
    | _, _ => none
end
mutual
theorem nkey_of : ∀ (a : A) (k : NestedKey), nkey? a = some k → ofN k = a
  | .non, k, e => by simp only [nkey?] at e; cases e; rfl
  | .int i, k, e => by simp only [nkey?] at e; cases e; rfl
  | .str i, k, e => by simp only [nkey?] at e; cases e; rfl
  | .tup xs, k, e => by
    simp only [nkey?] at e
    cases e1 : nkeys? xs with
    | none => rw [e1] at e; cases e
    | some ks =>
      rw [e1] at e; cases e
      simp only [ofN]
      rw [nkeys_of xs ks e1]
  | .bl _, k, e => by simp only [nkey?] at e; cases e
  | .lst _, k, e => by simp only [nkey?] at e; cases e
  | .dct _, k, e => by simp only [nkey?] at e; cases e
  | .ty _, k, e => by simp only [nkey?] at e; cases e
theorem nkeys_of : ∀ (as : List A) (ks : List NestedKey), nkeys? as = some ks → ofN.ofNs ks = as
  | [], ks, e => by simp only [nkeys?] at e; cases e; rfl
  | x :: xs, ks, e => by
    simp only [nkeys?] at e
    cases e1 : nkey? x with
    | none => rw [e1] at e; cases e
    | some k =>
      cases e2 : nkeys? xs with
      | none => rw [e1, e2] at e; cases e
      | some ks' =>
        rw [e1, e2] at e; cases e
        simp only [ofN.ofNs]
        rw [nkey_of x k e1, nkeys_of xs ks' e2]
end
section
variable {P : Program} {w : World} {ρ : List Addr} {H : Hp} {h : Heap}
mutual
theorem nested_of (ok : HOk P w H h) : ∀ (k : NestedKey) (v : V) (u : Value), Is ρ H (ofN k) v → RelV v u → NestedIs h k u
  | .none, _, _, i, r => by simp only [ofN] at i; cases i; cases r; exact .none
  | .num j, _, _, i, r => by simp only [ofN] at i; cases i; obtain ⟨t, rfl⟩ := r; exact .int _ _
  | .text j, _, _, i, r => by simp only [ofN] at i; cases i; obtain ⟨t, rfl⟩ := r; exact .text _ _
  | .tup ks, _, _, i, r => by
    simp only [ofN] at i
    cases i with
    | tup hp is =>
      cases r
      obtain ⟨_, its, rv, o, h1, h2, n, h3⟩ := ok _ _ hp
      exact .tup h1 h2 h3 (nesteds_of ok ks _ _ is (by simpa using rv))
theorem nesteds_of (ok : HOk P w H h) : ∀ (ks : List NestedKey) (vs : List V) (us : List Value), IsAll ρ H (ofN.ofNs ks) vs → Vals vs us → NestedAll h ks us
  | [], _, _, i, r => by simp only [ofN.ofNs] at i; cases i; cases r; exact .nil
  | k :: ks, _, _, i, r => by
    simp only [ofN.ofNs] at i
    cases i with
    | cons i1 i2 =>
      cases r with
      | cons r1 r2 => exact .cons (nested_of ok k _ _ i1 r1) (nesteds_of ok ks _ _ i2 r2)
end
/-- the rows of such a dict -/
def rowsN : List NestedKey → List Addr → List Value → List (NestedKey × Addr × Value)
  | k :: ks, b :: bs, u :: us => (k, b, u) :: rowsN ks bs us
  | _, _, _ => []
theorem rowsN_keys : ∀ {ks : List NestedKey} {bs : List Addr} {us : List Value}, ks.length = bs.length → ks.length = us.length → (rowsN ks bs us).map (·.1) = ks
  | [], _, _, _, _ => by simp [rowsN]
  | k :: ks, [], _, h, _ => by simp at h
  | k :: ks, b :: bs, [], _, h => by simp at h
  | k :: ks, b :: bs, u :: us, h1, h2 => by simp only [rowsN, List.map_cons]; rw [rowsN_keys (by simpa using h1) (by simpa using h2)]
theorem rowsN_len {ks : List NestedKey} {bs : List Addr} {us : List Value} (h1 : ks.length = bs.length) (h2 : ks.length = us.length) : (rowsN ks bs us).length = ks.length := by
  have := congrArg List.length (rowsN_keys h1 h2)
  simpa using this
theorem rowsN_entries {prog : Program} : ∀ {ks : List NestedKey} {bs : List Addr} {us : List Value}, (((ks.zip bs).zip us).map fun p => ({ hash := p.1.1.hash w, key := .ref p.1.2, val := p.2 } : DictEntry)) = (rowsN ks bs us).map (entryOfKey (nestedKind prog w))
  | [], _, _ => by simp [rowsN]
  | k :: ks, [], _ => by simp [rowsN]
  | k :: ks, b :: bs, [] => by simp [rowsN]
  | k :: ks, b :: bs, u :: us => by
    simp only [rowsN, List.zip_cons_cons, List.map_cons]
    rw [rowsN_entries (prog := prog) (ks := ks) (bs := bs) (us := us)]
    rfl
theorem rowsN_append : ∀ {ks : List NestedKey} {bs : List Addr} {us : List Value} {k : NestedKey} {b : Addr} {u : Value}, ks.length = bs.length → ks.length = us.length → rowsN (ks ++ [k]) (bs ++ [b]) (us ++ [u]) = rowsN ks bs us ++ [(k, b, u)]
  | [], [], [], _, _, _, _, _ => by simp [rowsN]
  | [], _ :: _, _, _, _, _, h, _ => by simp at h
  | [], [], _ :: _, _, _, _, _, h => by simp at h
  | k :: ks, [], _, _, _, _, h, _ => by simp at h
  | k :: ks, b :: bs, [], _, _, _, _, h => by simp at h
  | k :: ks, b :: bs, u :: us, _, _, _, h1, h2 => by simp only [List.cons_append, rowsN]; rw [rowsN_append (by simpa using h1) (by simpa using h2)]
theorem rowsN_is (ok : HOk P w H h) : ∀ {ks : List NestedKey} {bs : List Addr} {us : List Value}, IsAll ρ H (ks.map ofN) (bs.map V.ref) → (∀ k ∈ ks, k.depth ≤ 8) → ∀ x ∈ rowsN ks bs us, (nestedKind P w).is h x.1 x.2.1
  | [], _, _, _, _, x, hx => by simp [rowsN] at hx
  | k :: ks, [], _, _, _, x, hx => by simp [rowsN] at hx
  | k :: ks, b :: bs, [], _, _, x, hx => by simp [rowsN] at hx
  | k :: ks, b :: bs, u :: us, i, d, x, hx => by
    simp only [rowsN, List.mem_cons] at hx
    cases i with
    | cons i1 i2 =>
      rcases hx with rfl | hx
      · exact ⟨nested_of ok k _ _ i1 rfl, d k List.mem_cons_self⟩
      · exact rowsN_is ok i2 (fun k' hk => d k' (List.mem_cons_of_mem _ hk)) x hx
theorem rowsN_at {k : NestedKey} : ∀ {kvs : List (NestedKey × A)} {bs : List Addr} {vs : List V} {us : List Value}, kvs.length = bs.length → IsAll ρ H (kvs.map (·.2)) vs → Vals vs us →
    (valA kvs k = none ∧ atKey (rowsN (kvs.map (·.1)) bs us) k = none) ∨ ∃ a v b u, valA kvs k = some a ∧ atKey (rowsN (kvs.map (·.1)) bs us) k = some (b, u) ∧ Is ρ H a v ∧ RelV v u
  | [], _, _, _, _, _, _ => .inl ⟨rfl, by simp [rowsN, atKey]⟩
  | (j, a) :: kvs, [], _, _, h, _, _ => by simp at h
  | (j, a) :: kvs, b :: bs, v :: vs, us0, h, .cons i is, rv => by
    obtain ⟨u, us, rfl, r, rs⟩ : ∃ u us, us0 = u :: us ∧ RelV v u ∧ Vals vs us := by
      cases rv with
      | cons r rs => exact ⟨_, _, rfl, r, rs⟩
    by_cases e : j = k
    · subst e
      exact .inr ⟨a, v, b, u, by simp [valA], by simp [rowsN, atKey], i, r⟩
    · have ih := rowsN_at (k := k) (by simpa using h) is rs
      have e1 : valA ((j, a) :: kvs) k = valA kvs k := by simp [valA, List.find?_cons, e]
      rw [e1]
      rcases ih with ⟨h1, h2⟩ | ⟨a', v', b', u', h1, h2, h3⟩
      · exact .inl ⟨h1, by simpa [rowsN, atKey, List.find?_cons, e] using h2⟩
      · exact .inr ⟨a', v', b', u', h1, by simpa [rowsN, atKey, List.find?_cons, e] using h2, h3⟩
end
section
variable {X : Cx} {W : WR} {pos : Pos} {a b e : Expr} {es : List Expr} {f g : EF} {fs : EFs}
/-- such a dict in the state -/
theorem nest_dict {pins : List (Addr × Obj)} {σ : L2.St} {H : Hp} {s : Shared} {ρ : List Addr} {M : Store} (I : L2.Inv X pins σ H s) (m : RM (X.am W.Tb) ρ H M) {d : Nat} {p : Addr} {kvs : List (NestedKey × A)} (hp : ρ[d]? = some p) (hc : M[d]? = some (.dN kvs)) :
    ∃ bs vs us, H p = some (nestO X.w p ((kvs.map (·.1)).zip bs) vs) ∧ IsAll ρ H (kvs.map fun kv => ofN kv.1) (bs.map V.ref) ∧ IsAll ρ H (kvs.map (·.2)) vs ∧ (∀ kv ∈ kvs, kv.1.depth ≤ 8) ∧ Vals vs us ∧
      kvs.length = bs.length ∧ kvs.length = us.length ∧ kvs.length ≤ sizeLine ∧ (p == sysModules) = false ∧ (kvs.map (·.1)).Nodup ∧ s.heap.DictOfH (nestedKind X.prog X.w) p (rowsN (kvs.map (·.1)) bs us) := by
  obtain ⟨bs, vs, h, ik, iv, dp⟩ := m.at_ _ _ _ hp hc
  obtain ⟨⟨hz, hd, hl, hn, us, rv, o, es, ep, ho, hx, hdt, he⟩, _, _⟩ := I.hok _ _ h
  have l1 : kvs.length = bs.length := by have := ik.length; simpa using this
  have l2 : kvs.length = vs.length := by have := iv.length; simpa using this
  have l3 : kvs.length = us.length := l2.trans rv.length
  have hk : ((kvs.map (·.1)).zip bs).map (·.1) = kvs.map (·.1) := map_zip_fst (by simpa using l1)
  refine ⟨bs, vs, us, h, ik, iv, dp, rv, l1, l3, ?_, hd, by rw [← hk]; exact hn, ?_⟩
  · have := hz; simp only [List.length_zip, List.length_map] at this; omega
  · refine ⟨o, es, ep, ho, hx, hdt, he.trans rowsN_entries, ?_, ?_⟩
    · refine rowsN_is (ρ := ρ) (H := H) I.hok (by rw [List.map_map]; exact ik) fun k hk => ?_
      obtain ⟨kv, h1, rfl⟩ := List.mem_map.mp hk
      exact dp kv h1
    · rw [rowsN_keys (by simpa using l1) (by simpa using l3), ← hk]; exact hn
def eNewN : EF := fun _ M => .ok (.dct M.length) (M ++ [.dN []])
theorem ae_newN : AE X W (.Dict [] [] pos) eNewN := ⟨fun pins s σ H Q I h => by
  obtain ⟨τ, M, ρ, rs, rm', r⟩ := h
  have hn := I.hok.fresh (Nat.le_refl s.heap.objs.size)
  have new : ObjOk X.prog X.w (upd H s.heap.objs.size (nestO X.w s.heap.objs.size [] [])) (s.heap.push { cls := .type "dict", data := .dict #[] }) s.heap.objs.size (nestO X.w s.heap.objs.size [] []) := by
    refine ⟨⟨Nat.zero_le _, beq_eq_false_iff_ne.mpr (Ne.symm (Nat.ne_of_lt I.big)), rfl, List.nodup_nil, [], .nil, _, #[], 0, Heap.get?_push_size _ rfl, ⟨rfl, rfl, rfl⟩, rfl, rfl⟩, ⟨_, Heap.get?_push_size _ rfl⟩, ?_⟩
    rintro h1 h2 ⟨q1, q2, q3, q4, us, q5, o, es, ep, q6, q7⟩ k
    exact ⟨q1, q2, q3, q4, us, q5, o, es, ep, k o q6, q7⟩
  exact wpAny_Dict_empty ⟨.ref s.heap.objs.size, _, I.laid (a := s.heap.objs.size) (t' := s.toks) (fun _ _ q => Heap.get?_push_of_some _ q) (Nat.le_refl _) new, rfl,
    r.okv (.snoc _ _) (.new hn) (rm'.push hn ⟨[], [], upd_same, .nil, .nil, fun _ z => by cases z⟩) (.dct (by rw [← rm'.len]; simp))⟩⟩
def oSetd : OM := fun x as M => match x, as with
  | .dct d, [k, y] => match M[d]? with
    | some (.dN kvs) => match nkey? k with
      | some (.tup js) => if (NestedKey.tup js).depth ≤ 8 ∧ kvs.length < sizeLine then match valA kvs (.tup js) with
          | some z => some (z, M)
          | none => some (y, M.set d (.dN (kvs ++ [(.tup js, y)])))
        else none
      | _ => none
    | _ => none
  | _, _ => none
theorem mt_setd (hu : X.A.units + 9 < cLine) : MtR X "dict.setdefault" (rm (X.am W.Tb) oSetd) := by
  intro pins s σ H x xs v us Q I rx rxs h
  obtain ⟨a, as, M, ρ, ia, is, m, ro⟩ := h
  unfold oSetd at ro
  split at ro
  · rename_i d k y
    split at ro
    · rename_i kvs ec
      split at ro
      · rename_i js ek
        split at ro
        · rename_i hz
          cases ia with
          | dct hp =>
            cases rx
            cases is with
            | @cons _ kv _ _ i1 is =>
              cases is with
              | @cons _ yv _ _ i2 is =>
                cases is
                cases rxs with
                | cons r1 rxs =>
                  cases rxs with
                  | cons r2 rxs =>
                    cases rxs
                    rename_i pa u1 u2
                    have ik : Is ρ H (ofN (.tup js)) kv := by rw [nkey_of _ _ ek]; exact i1
                    obtain ⟨kb, rfl⟩ : ∃ kb, kv = .ref kb := by simp only [ofN] at ik; cases ik with | tup h1 h2 => exact ⟨_, rfl⟩
                    cases r1
                    obtain ⟨bs, vs, us', hh, iks, ivs, dp, rv, l1, l3, hsz, hsm, hnd, D⟩ := nest_dict I m hp ec
                    have hin : Around.units X.A.in1 + 8 < cLine := by show X.A.units + 1 + 8 < cLine; omega
                    have keyIs : (nestedKind X.prog X.w).is s.heap (.tup js) kb := ⟨nested_of I.hok _ _ _ ik rfl, hz.1⟩
                    have rl : (rowsN (kvs.map (·.1)) bs us').length = kvs.length := by rw [rowsN_len (by simpa using l1) (by simpa using l3)]; simp
                    refine call_setdefault_heap (hsz := by rw [rl]; exact hsz) hin keyIs hsm D (fun p hpk => ?_) (fun hno h' D' sb => ?_)
                    · rcases rowsN_at (k := .tup js) l1 ivs rv with ⟨_, e2⟩ | ⟨z, zv, b', u', e1, e2, iz, rz⟩
                      · rw [e2] at hpk; cases hpk
                      · rw [e2] at hpk; cases hpk
                        rw [e1] at ro
                        exact ⟨zv, H, I.tok _, rz, ro.val m iz⟩
                    · rcases rowsN_at (k := .tup js) l1 ivs rv with ⟨e1, e2⟩ | ⟨z, zv, b', u', e1, e2, _⟩
                      · rw [e1] at ro
                        have hk1 : (kvs.map (·.1)).length = bs.length := by simpa using l1
                        have hv1 : (kvs.map (·.1)).length = us'.length := by simpa using l3
                        rw [storedH_new hno, ← rowsN_append hk1 hv1] at D'
                        obtain ⟨o, es, ep, ho, hx, hdt, he, _, hn2⟩ := D'
                        have zk : (kvs.map (·.1) ++ [NestedKey.tup js]).zip (bs ++ [kb]) = ((kvs ++ [(NestedKey.tup js, y)]).map (·.1)).zip (bs ++ [kb]) := by rw [List.map_append]; rfl
                        have lk : (kvs.map (·.1) ++ [NestedKey.tup js]).length = (bs ++ [kb]).length := by simp [l1]
                        have fstk : ((kvs.map (·.1) ++ [NestedKey.tup js]).zip (bs ++ [kb])).map (·.1) = kvs.map (·.1) ++ [NestedKey.tup js] := map_zip_fst lk
                        have new : ObjOk X.prog X.w (upd H pa (nestO X.w pa ((kvs.map (·.1) ++ [NestedKey.tup js]).zip (bs ++ [kb])) (vs ++ [yv]))) h' pa (nestO X.w pa ((kvs.map (·.1) ++ [NestedKey.tup js]).zip (bs ++ [kb])) (vs ++ [yv])) := by
                          refine ⟨⟨?_, hsm, ?_, ?_, us' ++ [u2], rv.append (.cons r2 .nil), o, es, ep, ho, hx, hdt, he.trans rowsN_entries.symm⟩, ⟨o, ho⟩, ?_⟩
                          · simp only [List.length_zip, List.length_append, List.length_map, List.length_singleton]; omega
                          · have := rv.length
                            simp only [List.length_zip, List.length_append, List.length_map, List.length_singleton]; omega
                          · rw [fstk]
                            rw [rowsN_keys lk (by simp [l3])] at hn2
                            exact hn2
                          · rintro h1 h2 ⟨q1, q2, q3, q4, us, q5, o, es, ep, q6, q7⟩ k
                            exact ⟨q1, q2, q3, q4, us, q5, o, es, ep, k o q6, q7⟩
                        have I2 := I.write (e := pa) (t' := s.toks + (nestedKind X.prog X.w).draws (.tup js)) (by rw [hh]; trivial) (.inl rfl) (fun b u hb hu' => (sb.2 b hb).trans hu') ⟨o, ho⟩ new
                        have g := m.growSet (o := nestO X.w pa ((kvs.map (·.1) ++ [NestedKey.tup js]).zip (bs ++ [kb])) (vs ++ [yv])) hp ec
                        refine ⟨yv, _, I2, r2, ro _ _ ρ (.refl _) g (m.set hp ec ⟨bs ++ [kb], vs ++ [yv], by rw [upd_same, zk], ?_, ?_, ?_⟩) (i2.mono (.refl _) g)⟩
                        · rw [List.map_append, List.map_append]
                          exact (iks.mono (.refl _) g).append (.cons (ik.mono (.refl _) g) .nil)
                        · rw [List.map_append]
                          exact (ivs.mono (.refl _) g).append (.cons (i2.mono (.refl _) g) .nil)
                        · intro kv hkv
                          rcases List.mem_append.mp hkv with q | q
                          · exact dp kv q
                          · simp at q; subst q; exact hz.1
                      · rw [e2] at hno; cases hno
        · exact ro.elim
      · exact ro.elim
    · exact ro.elim
  · exact ro.elim
def isN (M : Store) : A → Bool
  | .dct d => match M[d]? with
    | some (.dN _) => true
    | _ => false
  | _ => false
def eMethN (o : OM) (f : EF) (fs : EFs) : EF := fun τ M => (f τ M).bind fun a M1 => if isN M1 a = true then (fs τ M1).bind fun as M2 => toE (o a as M2) else .bad
theorem ae_methN {o : OM} {name : Str} {id : String} {apos cpos : Pos} (slot : Slot "dict" name id) (hty : typeOf (.builtin id) = pure (.type "method_descriptor")) (hm : MtR X id (rm (X.am W.Tb) o)) (ho : AE X W a f) (ha : AA X W (e :: es) fs)
    (hbase : attributeBase a name X.env (eval a X.env) = eval a X.env := by rfl)
    (hfew : ((backTo cpos (starEach (e :: es) X.env)).all (fun x => !x.1) && (backToKw cpos (keywordEach [] X.env)).all (fun x => x.1.isSome)
      && decide ((e :: es).length + ([] : List Keyword).length + (if ([] : List Keyword).isEmpty then 0 else 1) < 30)) = true := by rfl)
    (hline : (apos.endLine == cpos.line) = true := by rfl) (hs : starEach (e :: es) X.env = (false, eval e X.env) :: starEach es X.env := by rfl) (hplain : (backTo cpos (starEach es X.env)).any (·.1) = false := by rfl) :
    AE X W (.Call (.Attribute a name apos) (e :: es) [] cpos) (eMethN o f fs) := by
  refine ⟨fun pins s σ H Q I h => ?_⟩
  have h2 := seqG (G := (X.gx W.Tb)) (W := W) Is h
  refine wpAny_Call_method_late hbase hfew hline rfl (thn (ho.run pins s σ H _ I h2) fun v s1 ⟨x, H1, I1, r1, q1⟩ => ?_)
  obtain ⟨τ, M, ρ, c, rs, rm', i, r⟩ := q1
  have r : RE (X.gx W.Tb) W σ ρ H1 Is (if isN M c = true then (fs τ M).bind fun as M2 => toE (o c as M2) else .bad) Q := r
  split at r
  · rename_i hN
    have ty : s1.TypeIs v "dict" ∧ ∀ p, v = .ref p → ∃ ob, s1.heap.get? p = some ob ∧ ob.dict = none := by
      cases i with
      | dct hp =>
        simp only [isN] at hN
        split at hN
        · rename_i kvs ec
          cases r1
          obtain ⟨bs, vs, us, _, _, _, _, _, _, _, _, _, _, o', es, ep, h1, hx, _⟩ := nest_dict I1 rm' hp ec
          exact ⟨⟨o', h1, hx.1⟩, fun p ep => by cases ep; exact ⟨o', h1, hx.2.1⟩⟩
        · cases hN
      | _ => simp only [isN] at hN; cases hN
    refine ⟨"dict", id, PySem.F.plainAttrs_dict, slot, hty, ty.1, ty.2, ?_⟩
    have hA := ha.run cpos pins s1 σ H1 (fun xs H2 => (rm (X.am W.Tb) o) x xs H2 Q) I1 ⟨τ, M, ρ, rs, rm', by
      cases e2 : fs τ M with
      | ok as M2 =>
        rw [e2] at r
        intro vs H2 ρ2 x2 g m is
        have r := RE.mono r x2 g
        exact ⟨c, as, M2, ρ2, i.mono x2 g, is, m, RO.of r⟩
      | ex en M2 => rw [e2] at r; exact r
      | bad => rw [e2] at r; exact r⟩
    rw [hs] at hA ⊢
    refine Calls.callWith_builtin (by show (false || (backTo cpos (starEach es X.env)).any (·.1)) = false; rw [hplain] <;> rfl) (Calls.evalArgs_plain ?_)
    exact thn hA fun us s2 ⟨vs, H2, I2, r2, q2⟩ => hm pins s2 σ H2 x vs v us Q I2 r1 r2 q2
  · exact r.elim
theorem ae_setd {e2 : Expr} {apos cpos : Pos} (hu : X.A.units + 9 < cLine) (ho : AE X W a f) (ha : AA X W [e, e2] fs) (hbase : attributeBase a "setdefault" X.env (eval a X.env) = eval a X.env := by rfl)
    (hfew : ((backTo cpos (starEach [e, e2] X.env)).all (fun x => !x.1) && (backToKw cpos (keywordEach [] X.env)).all (fun x => x.1.isSome)
      && decide ([e, e2].length + ([] : List Keyword).length + (if ([] : List Keyword).isEmpty then 0 else 1) < 30)) = true := by rfl)
    (hline : (apos.endLine == cpos.line) = true := by rfl) (hs : starEach [e, e2] X.env = (false, eval e X.env) :: starEach [e2] X.env := by rfl) (hplain : (backTo cpos (starEach [e2] X.env)).any (·.1) = false := by rfl) :
    AE X W (.Call (.Attribute a "setdefault" apos) [e, e2] [] cpos) (eMethN oSetd f fs) := ae_methN PySem.F.slot_dict_setdefault PySem.F.type_dict_setdefault (mt_setd hu) ho ha hbase hfew hline hs hplain
/-- len, of such dicts too -/
def oLenN : On := fun as M => match as with
  | [.dct d] => match M[d]? with
    | some (.dN kvs) => some (.int (kvs.length : Nat), M)
    | _ => oLen as M
  | _ => oLen as M
theorem cr_lenN : CallR X (.builtin "len") (rn (X.am W.Tb) oLenN) := by
  intro pins s σ H xs us Q I r h
  obtain ⟨as, M, ρ, is, m, ro⟩ := h
  unfold oLenN at ro
  split at ro
  · rename_i d
    split at ro
    · rename_i kvs ec
      cases is with
      | cons i1 is =>
        cases is
        cases i1 with
        | dct hp =>
          obtain ⟨u, rfl, rx⟩ := vals1 r
          obtain rfl : u = .ref _ := rx
          obtain ⟨bs, vs, us', hh, iks, ivs, dp, rv, l1, l3, hsz, hsm, hnd, D⟩ := nest_dict I m hp ec
          have rl : (rowsN (kvs.map (·.1)) bs us').length = kvs.length := by rw [rowsN_len (by simpa using l1) (by simpa using l3)]; simp
          refine call_len_dictH hsm D (by rw [rl]; rw [sizeLine_eq] at hsz; omega) ?_
          rw [rl]
          exact ⟨.int (kvs.length : Nat), H, I.tok _, ⟨_, rfl⟩, ro.val m (.int _)⟩
    · exact cr_len pins s σ H xs us Q I r ⟨_, M, ρ, is, m, ro⟩
  · exact cr_len pins s σ H xs us Q I r ⟨_, M, ρ, is, m, ro⟩
end
end AB
/-! AB10: sorted -/
namespace SX
open PySem PySem.Spec PyProof.Rows
/-- the order of tuples of ints -/
def ltL : List Int → List Int → Bool
  | [], [] => false
  | [], _ :: _ => true
  | _ :: _, [] => false
  | x :: xs, y :: ys => if x = y then ltL xs ys else decide (x < y)
theorem ltL_asym : ∀ {xs ys : List Int}, ltL xs ys = true → ltL ys xs = false
  | [], [], h => by simp [ltL] at h
  | [], _ :: _, _ => rfl
  | _ :: _, [], h => by simp [ltL] at h
  | x :: xs, y :: ys, h => by
    unfold ltL at h ⊢
    by_cases e : x = y
    · rw [if_pos e] at h; rw [if_pos e.symm]; exact ltL_asym h
    · rw [if_neg e] at h; rw [if_neg (Ne.symm e)]
      have := of_decide_eq_true h
      exact decide_eq_false (by omega)
theorem ltL_ntr : ∀ {xs ys zs : List Int}, ltL xs ys = false → ltL ys zs = false → ltL xs zs = false
  | [], [], [], _, _ => rfl
  | [], [], _ :: _, _, h => by simp [ltL] at h
  | [], _ :: _, _, h, _ => by simp [ltL] at h
  | _ :: _, _, [], _, _ => by simp [ltL]
  | _ :: _, [], _ :: _, _, h => by simp [ltL] at h
  | x :: xs, y :: ys, z :: zs, h1, h2 => by
    unfold ltL at h1 h2 ⊢
    by_cases e1 : x = y
    · rw [if_pos e1] at h1
      by_cases e2 : y = z
      · rw [if_pos e2] at h2; rw [if_pos (e1.trans e2)]; exact ltL_ntr h1 h2
      · rw [if_neg e2] at h2; rw [if_neg (fun q => e2 (e1.symm.trans q))]
        have := of_decide_eq_false h2
        exact decide_eq_false (by omega)
    · rw [if_neg e1] at h1
      have a := of_decide_eq_false h1
      by_cases e2 : y = z
      · rw [if_pos e2] at h2; rw [if_neg (fun q => e1 (q.trans e2.symm))]
        exact decide_eq_false (by omega)
      · rw [if_neg e2] at h2
        have b := of_decide_eq_false h2
        by_cases e3 : x = z
        · omega
        · rw [if_neg e3]; exact decide_eq_false (by omega)
theorem ltL_anti : ∀ {xs ys : List Int}, ltL xs ys = false → ltL ys xs = false → xs = ys
  | [], [], _, _ => rfl
  | [], _ :: _, h, _ => by simp [ltL] at h
  | _ :: _, [], _, h => by simp [ltL] at h
  | x :: xs, y :: ys, h1, h2 => by
    unfold ltL at h1 h2
    by_cases e : x = y
    · rw [if_pos e] at h1; rw [if_pos e.symm] at h2
      rw [e, ltL_anti h1 h2]
    · rw [if_neg e] at h1; rw [if_neg (Ne.symm e)] at h2
      have a := of_decide_eq_false h1
      have b := of_decide_eq_false h2
      omega
theorem swo_L (k : Value → List Int) : SrtO.Swo fun v u => ltL (k v) (k u) := ⟨fun _ _ h => ltL_asym h, fun _ _ _ h1 h2 => ltL_ntr h2 h1⟩
theorem ltL_yes {x y : Int} {xs ys : List Int} (e : x = y) : ltL (x :: xs) (y :: ys) = ltL xs ys := by
  conv => lhs; unfold ltL
  rw [if_pos e]
theorem ltL_no {x y : Int} {xs ys : List Int} (e : ¬ x = y) : ltL (x :: xs) (y :: ys) = decide (x < y) := by
  conv => lhs; unfold ltL
  rw [if_neg e]
section
variable {prog : Program} {w : World} {A : Around} {E : Value → Shared → Prop} {s : Shared}
/-- a tuple of ints -/
def IsTI (h : Heap) (v : Value) (ns : List Int) : Prop := ∃ a o xs n, v = .ref a ∧ h.get? a = some o ∧ o.cls = .type "tuple" ∧ o.data = .seq xs n ∧ IntsAre xs.toList ns
theorem IsTI.keeps {h h' : Heap} {v : Value} {ns : List Int} (x : IsTI h v ns) (k : ∀ b o, h.get? b = some o → o.cls = .type "tuple" → h'.get? b = some o) : IsTI h' v ns := by
  obtain ⟨a, o, xs, n, e, ho, hc, hd, i⟩ := x
  exact ⟨a, o, xs, n, e, k a o ho hc, hc, hd, i⟩
theorem lex_ints (b : Bool) : ∀ {xs ys : List Value} {ns ms : List Int} (i : Nat) (fin : Bool), IntsAre xs ns → IntsAre ys ms → (fin = decide (xs.length < ys.length)) →
    PySem.W.KatLex prog w A b fin (fun r s' => s' = s ∧ r = ltL ns ms) (xs.zip ys) i s
  | _, _, _, _, _, _, .nil, .nil, e => by
    subst e; exact PySem.W.kat_nil ⟨rfl, rfl⟩
  | _, _, _, _, _, _, .nil, .cons _ _ _, e => by
    subst e; exact PySem.W.kat_nil ⟨rfl, rfl⟩
  | _, _, _, _, _, _, .cons _ _ _, .nil, e => by
    subst e; exact PySem.W.kat_nil ⟨rfl, rfl⟩
  | _, _, _, _, i, fin, .cons x t r1, .cons y u r2, e => by
    refine PySem.W.kat_cons (SeqAt.EqAt.int_int x t y u prog w _ _ ?_)
    refine PySem.W.kat_go (fun e1 => ?_) (fun e1 => ?_)
    · have ex : x = y := by simpa using e1
      refine PySem.W.kat_yes ?_
      rw [ltL_yes ex]
      exact lex_ints b (i + 1) fin r1 r2 (by rw [e]; simp)
    · have ex : ¬ x = y := by simpa using e1
      rw [ltL_no ex]
      refine PySem.W.kat_no ?_
      cases hb : (b && i == 0) with
      | true => exact oneLt_int ⟨rfl, rfl⟩
      | false => exact PySem.W.kat_one _ _ (PyProof.Rows.lt_int (show s = s ∧ decide (x < y) = decide (x < y) from ⟨rfl, rfl⟩))
theorem ti_cmp {vs : List Value} {k : Value → List Int} (hp : ∀ v ∈ vs, IsTI s.heap v (k v)) : SrtO.Cmp prog w A s (tuples' true) (fun p => p.1 ∈ vs) (SrtO.lt2 fun v u => ltL (k v) (k u)) := by
  intro p q hm hm'
  show wpAny (model prog w) A (keyLt' (tuples' true) p.1 q.1) (fun r s' => s' = s ∧ r = ltL (k p.1) (k q.1)) (fun _ _ => False) s
  obtain ⟨a, o, xs, n, e, ho, hc, hd, i1⟩ := hp _ hm
  obtain ⟨a', o', xs', n', e', ho', hc', hd', i2⟩ := hp _ hm'
  generalize k p.1 = ns at i1 ⊢
  generalize k q.1 = ms at i2 ⊢
  rw [e, e']
  exact PySem.W.kat_lt ho hd ho' hd' (lex_ints true 0 _ i1 i2 (by simp))
theorem ti_firsts {k : Value → List Int} : ∀ {vs : List Value} {h : Heap}, (∀ v ∈ vs, IsTI h v (k v) ∧ k v ≠ []) → ∃ fs, PySem.W.KatTups h vs fs ∧ fs.length = vs.length ∧ ∀ f ∈ fs, ∃ x t, f = Value.int x t
  | [], h, _ => ⟨[], .nil, rfl, fun _ z => by cases z⟩
  | v :: vs, h, hp => by
    obtain ⟨fs, h1, h2, h3⟩ := ti_firsts (vs := vs) fun u hu => hp u (List.mem_cons_of_mem _ hu)
    obtain ⟨⟨a, o, xs, n, e, ho, hc, hd, i⟩, hne⟩ := hp v List.mem_cons_self
    subst e
    generalize k (.ref a) = ns at i hne
    cases hxs : xs.toList with
    | nil => rw [hxs] at i; cases i; exact absurd rfl hne
    | cons f r =>
      rw [hxs] at i
      cases i with
      | cons x t i =>
        refine ⟨Value.int x t :: fs, .cons ho hc hd (by rw [← Array.getElem?_toList, hxs]; rfl) h1, by simp [h2], fun g hg => ?_⟩
        rcases List.mem_cons.mp hg with rfl | hg
        · exact ⟨x, t, rfl⟩
        · exact h3 g hg
theorem ti_sortable {a : Addr} {vs : List Value} {k : Value → List Int} (h0 : 0 < vs.length) (hp : ∀ v ∈ vs, IsTI s.heap v (k v) ∧ k v ≠ []) (ha : ∀ o, s.heap.get? a = some o → o.cls ≠ .type "tuple") : SrtO.SortableO prog w A s a vs fun v u => ltL (k v) (k u) := by
  intro h' keep
  have hp' : ∀ v ∈ vs, IsTI h' v (k v) ∧ k v ≠ [] := fun v hm => ⟨(hp v hm).1.keeps fun b o e c => keep b o (fun z => by subst z; exact ha o e c) e, (hp v hm).2⟩
  obtain ⟨fs, h1, h2, h3⟩ := ti_firsts hp'
  refine ⟨tuples' true, fun Q E hq => ?_, ti_cmp fun v hm => (hp' v hm).1⟩
  refine PySem.W.kat_kind (T := .type "int") h1 (by omega) (fun f hm => ?_) (by rfl) ?_
  · obtain ⟨x, t, rfl⟩ := h3 f hm
    exact PySem.W.Looks.now
  · have e : (Value.type "int" != Value.type "tuple") = true := by first | decide +kernel | rfl | decide
    rw [e]
    exact hq
end
/-- put into a rising list -/
def ins (x : List Int) : List (List Int) → List (List Int)
  | [] => [x]
  | y :: ys => if ltL y x = true then y :: ins x ys else x :: y :: ys
def sortL : List (List Int) → List (List Int)
  | [] => []
  | x :: xs => ins x (sortL xs)
theorem ins_perm (x : List Int) : ∀ ys, (ins x ys).Perm (x :: ys)
  | [] => .refl _
  | y :: ys => by
    unfold ins
    split
    · exact ((ins_perm x ys).cons y).trans (.swap x y ys)
    · exact .refl _
theorem sortL_perm : ∀ xs, (sortL xs).Perm xs
  | [] => .refl _
  | x :: xs => (ins_perm x _).trans ((sortL_perm xs).cons x)
def Up (l : List (List Int)) : Prop := l.Pairwise fun a b => ltL b a = false
theorem ins_up (x : List Int) : ∀ {ys}, Up ys → Up (ins x ys)
  | [], _ => List.pairwise_singleton _ _
  | y :: ys, h => by
    unfold ins
    obtain ⟨h1, h2⟩ := List.pairwise_cons.mp h
    split
    · rename_i e
      refine List.pairwise_cons.mpr ⟨fun z hz => ?_, ins_up x h2⟩
      rcases List.mem_cons.mp ((ins_perm x ys).mem_iff.mp hz) with rfl | hz
      · exact ltL_asym e
      · exact h1 z hz
    · rename_i e
      have e : ltL y x = false := by simpa using e
      refine List.pairwise_cons.mpr ⟨fun z hz => ?_, h⟩
      rcases List.mem_cons.mp hz with rfl | hz
      · exact e
      · exact ltL_ntr (h1 z hz) e
theorem sortL_up : ∀ xs, Up (sortL xs)
  | [] => .nil
  | x :: xs => ins_up x (sortL_up xs)
theorem up_unique : ∀ {xs ys : List (List Int)}, Up xs → Up ys → xs.Perm ys → xs = ys
  | [], ys, _, _, p => (List.Perm.nil_eq p)
  | x :: xs, [], _, _, p => by have := p.length_eq; simp at this
  | x :: xs, y :: ys, h1, h2, p => by
    obtain ⟨a1, a2⟩ := List.pairwise_cons.mp h1
    obtain ⟨b1, b2⟩ := List.pairwise_cons.mp h2
    have e : x = y := by
      have mx : x ∈ y :: ys := p.mem_iff.mp List.mem_cons_self
      have my : y ∈ x :: xs := p.mem_iff.mpr List.mem_cons_self
      rcases List.mem_cons.mp mx with e | mx
      · exact e
      · rcases List.mem_cons.mp my with e | my
        · exact e.symm
        · exact ltL_anti (b1 x mx) (a1 y my) |>.symm ▸ rfl
    subst e
    rw [up_unique a2 b2 (List.Perm.cons_inv p)]
end SX
namespace AB
open PySem PySem.Spec PyProof.Rows L2
def ints? : List A → Option (List Int)
  | [] => some []
  | .int i :: r => (ints? r).map (i :: ·)
  | _ :: _ => none
theorem ints_of : ∀ {as : List A} {is : List Int}, ints? as = some is → as = is.map A.int
  | [], _, e => by cases e; rfl
  | a :: as, is, e => by
    cases a with
    | int i =>
      simp only [ints?] at e
      cases e1 : ints? as with
      | none => rw [e1] at e; cases e
      | some r => rw [e1] at e; cases e; rw [ints_of e1]; rfl
    | _ => simp only [ints?] at e; cases e
def tups? : List A → Option (List (List Int))
  | [] => some []
  | .tup xs :: r => match ints? xs, tups? r with
    | some (i :: is), some q => some ((i :: is) :: q)
    | _, _ => none
  | _ :: _ => none
def tupI (ns : List Int) : A := .tup (ns.map A.int)
theorem tups_of : ∀ {as : List A} {q : List (List Int)}, tups? as = some q → as = q.map tupI ∧ ∀ x ∈ q, x ≠ []
  | [], _, e => by cases e; exact ⟨rfl, fun _ z => by cases z⟩
  | a :: as, q, e => by
    cases a with
    | tup xs =>
      simp only [tups?] at e
      split at e
      · rename_i i is q' e1 e2
        cases e
        obtain ⟨h1, h2⟩ := tups_of e2
        refine ⟨by rw [h1, ints_of e1]; rfl, fun x hx => ?_⟩
        rcases List.mem_cons.mp hx with rfl | hx
        · simp
        · exact h2 x hx
      · cases e
    | _ => simp only [tups?] at e; cases e
/-- sorted: whole numbers, or tuples of them -/
def oSorted : On := fun as M => match as with
  | [.lst l] => match listAt M l with
    | some xs => match tups? xs with
      | some q => some (.lst M.length, M ++ [.lst ((SX.sortL q).map tupI)])
      | none => none
    | none => none
  | _ => none
/-- the ints that a tracked tuple holds -/
def kOf (H : Hp) : Value → List Int
  | .ref a => match H a with
    | some (.tup vs) => vs.filterMap fun v => match v with
      | .int i => some i
      | _ => none
    | _ => []
  | _ => []
theorem kOf_tup {H : Hp} {a : Addr} {ns : List Int} (h : H a = some (.tup (ns.map V.int))) : kOf H (.ref a) = ns := by
  unfold kOf
  simp only [h]
  clear h
  induction ns with
  | nil => rfl
  | cons n ns ih => simp [ih]
theorem tupI_is {ρ : List Addr} {H : Hp} {ns : List Int} {v : V} (i : Is ρ H (tupI ns) v) : ∃ a, v = .ref a ∧ H a = some (.tup (ns.map V.int)) := by
  cases i with
  | tup h is => rw [IsAll.ints is] at h; exact ⟨_, rfl, h⟩
theorem is_tupI {ρ : List Addr} {H : Hp} {ns : List Int} {a : Addr} (h : H a = some (.tup (ns.map V.int))) : Is ρ H (tupI ns) (.ref a) := by
  refine .tup h ?_
  clear h
  induction ns with
  | nil => exact .nil
  | cons n ns ih => exact .cons (.int n) ih
section
variable {X : Cx}
theorem cr_sortedTI : CallR X (.builtin "sorted") (rn (X.am Tb) oSorted) := by
  intro pins s σ H xs us Q I r h
  obtain ⟨as, M, ρ, is, m, ro⟩ := h
  unfold oSorted at ro
  split at ro
  · rename_i l
    cases is with
    | cons i1 is =>
      cases is
      cases i1 with
      | lst hl =>
        split at ro
        · rename_i ys el
          split at ro
          · rename_i q eq
            obtain ⟨rfl, hne⟩ := tups_of eq
            obtain ⟨vs, hs, iv⟩ := m.list hl el
            obtain ⟨its, rv, hL, hz⟩ := I.list hs
            rw [Vals.ref1 r]
            -- each item is a reference to a tuple of ints
            have items : ∀ (q : List (List Int)) (vs : List V) (its : List Value), IsAll ρ H (q.map tupI) vs → Vals vs its → (∀ x ∈ q, x ≠ []) → (∀ u ∈ its, SX.IsTI s.heap u (kOf H u) ∧ kOf H u ≠ []) ∧ its.map (kOf H) = q ∧ ∀ u ∈ its, ∃ a, u = .ref a ∧ H a = some (.tup ((kOf H u).map V.int)) := by
              intro q
              induction q with
              | nil => intro vs its i r _; cases i; cases r; exact ⟨fun _ z => (by cases z), rfl, fun _ z => (by cases z)⟩
              | cons n q ih =>
                intro vs its i r hne
                cases i with
                | cons i1 i2 =>
                  cases r with
                  | cons r1 r2 =>
                    obtain ⟨a1, a2, a3⟩ := ih _ _ i2 r2 fun x hx => hne x (List.mem_cons_of_mem _ hx)
                    obtain ⟨a, rfl, ha⟩ := tupI_is i1
                    cases r1
                    have ek := kOf_tup ha
                    obtain ⟨_, tv, trv, o, h1, h2, nn, h3⟩ := I.hok _ _ ha
                    have ti : SX.IsTI s.heap (.ref a) (kOf H (.ref a)) := by
                      rw [ek]
                      exact ⟨a, o, tv.toArray, nn, rfl, h1, h2, h3, by simpa using intsAre_of trv⟩
                    refine ⟨fun u hu => ?_, by simp [ek, a2], fun u hu => ?_⟩
                    · rcases List.mem_cons.mp hu with rfl | hu
                      · exact ⟨ti, by rw [ek]; exact hne n List.mem_cons_self⟩
                      · exact a1 u hu
                    · rcases List.mem_cons.mp hu with rfl | hu
                      · exact ⟨a, rfl, by rw [ek]; exact ha⟩
                      · exact a3 u hu
            obtain ⟨hp, hk, hr⟩ := items q vs its iv rv hne
            refine SrtO.sorted_ord (SX.swo_L (kOf H)) hL.isList (by rw [← rv.length]; exact hz) (fun h2 h₁ a' ha kk => ?_) fun out h1 h2 => ?_
            · refine SX.ti_sortable (s := { s with heap := h₁ }) (by omega) (fun v hm => ⟨(hp v hm).1.keeps fun b o e _ => (kk b o e).2, (hp v hm).2⟩) fun o e => ?_
              have e' : some o = some (seqObj "list" its.toArray 0) := e.symm.trans ha
              cases e'
              intro c
              exact absurd (Value.type.inj c) (by decide)
            · obtain ⟨ep, he'⟩ := PyProof.Rows.sortedAll_at s.heap its out.toArray
              -- what comes out: the same references in order
              have mem : ∀ u ∈ out, ∃ a, u = .ref a ∧ H a = some (.tup ((kOf H u).map V.int)) := fun u hu => hr u (h2.perm.mem_iff.mp hu)
              have outs : ∀ (l : List Value), (∀ u ∈ l, ∃ a, u = .ref a ∧ H a = some (.tup ((kOf H u).map V.int))) → ∃ vs : List V, Vals vs l ∧ IsAll ρ H ((l.map (kOf H)).map tupI) vs := by
                intro l
                induction l with
                | nil => intro _; exact ⟨[], .nil, .nil⟩
                | cons u l ih =>
                  intro hm
                  obtain ⟨vs, v1, v2⟩ := ih fun x hx => hm x (List.mem_cons_of_mem _ hx)
                  obtain ⟨a, rfl, ha⟩ := hm u List.mem_cons_self
                  exact ⟨.ref a :: vs, .cons rfl v1, .cons (is_tupI ha) v2⟩
              obtain ⟨ws, w1, w2⟩ := outs out mem
              have esort : out.map (kOf H) = SX.sortL q := by
                refine SX.up_unique ?_ (SX.sortL_up q) ?_
                · exact List.pairwise_map.mpr h1
                · have := h2.perm.map (kOf H)
                  rw [hk] at this
                  exact this.trans (SX.sortL_perm q).symm
              rw [esort] at w2
              have hlen : ws.length ≤ sizeLine := by
                rw [w1.length, h2.perm.length_eq, ← rv.length]; exact hz
              have hnew : H (s.heap.objs.size + 1) = none := I.hok.fresh (Nat.le_succ _)
              exact ⟨.ref _, upd H (s.heap.objs.size + 1) (.lst ws), I.laid (t' := s.toks) (fun _ _ => PyProof.Rows.sortedAll_old) (Nat.le_succ _) ⟨hlen, out, ep, w1, he'⟩, rfl, ro.newL m w2 hnew⟩
          · exact ro.elim
        · exact ro.elim
  · exact ro.elim
end
end AB
/-! AB11: lengths of sets; several targets; displays of one pair -/
namespace AB
open PySem PySem.Spec PyProof.Rows L2
section
variable {X : Cx} {W : WR} {pos : Pos} {a b c e : Expr} {f g : EF} {fs : EFs}
/-! ### len(set(xs)) -/
def dedup (is : List Int) : List Int := is.foldl step_dedup []
theorem firstMet_all (ns : List Int) : PyProof.Rows.firstMet (fun i => ns.getD i 0) ns.length = dedup ns := by
  unfold PyProof.Rows.firstMet dedup
  congr 1
  apply List.ext_getElem
  · simp
  · intro i h1 h2
    simp [List.getElem_map, List.getD_eq_getElem?_getD, List.getElem?_eq_getElem h2]
/-! ### a, b, c = x, y, z -/
def sPar3 (i j l : Nat) (f : EFs) : SF := fun τ M => (f τ M).bindS τ fun as M1 => match as with
  | [a, b, c] => .nx (((τ.set i (some a)).set j (some b)).set l (some c)) M1
  | _ => .bad
/-! ### d[k], x = y, z -/
/-! ### {k: v} -/
def dispK (l : Nat) (k v : A) (M3 : Store) : EO A := match M3[l]?, key? k with
  | some (.dK []), some j => .ok (.dct l) (M3.set l (.dK [(j, v)]))
  | _, _ => .bad
def eDisp1 (fk fv : EF) : EF := fun τ M => (fk τ (M ++ [.dK []])).bind fun k M2 => (fv τ M2).bind (dispK M.length k)
theorem ae_disp1 {k v : Expr} {fk fv : EF} (hk : AE X W k fk) (hv : AE X W v fv) : AE X W (.Dict [some k] [v] pos) (eDisp1 fk fv) :=
  (pe_disp (pps_cons hk hv pps_nil) (by rfl) (by rfl) (fun z => by cases z) (by show 1 ≤ 15; decide)).pre fun σ H Q h => by
  obtain ⟨τ, M, ρ, rs, rm, r⟩ := h
  intro p hp
  have g0 : Grow H (upd H p (.dK [])) := .new hp
  have m0 : RM (X.am W.Tb) (ρ ++ [p]) (upd H p (.dK [])) (M ++ [.dK []]) := rm.push hp ⟨[], upd_same, .nil⟩
  have r := RE.mono r (.snoc ρ p) g0
  have hl0 : (ρ ++ [p])[M.length]? = some p := by rw [← rm.len]; simp
  unfold eDisp1 at r
  refine ⟨τ, _, _, rs.mono (.snoc ρ p) g0, m0, ?_⟩
  cases e1 : fk τ (M ++ [.dK []]) with
  | ok ka M2 =>
    rw [e1] at r
    intro kv H2 ρ2 x2 g2 m2 ik
    have r := RE.mono r x2 g2
    refine ⟨τ, M2, ρ2, (rs.mono (.snoc ρ p) g0).mono x2 g2, m2, ?_⟩
    have r : RE (X.gx W.Tb) W σ ρ2 H2 Is ((fv τ M2).bind (dispK M.length ka)) Q := r
    cases e2 : fv τ M2 with
    | ok va M3 =>
      rw [e2] at r
      intro vv H3 ρ3 x3 g3 m3 iv
      have r := RE.mono r x3 g3
      have hb : ρ3[M.length]? = some p := x3.get (x2.get hl0)
      have r : RE (X.gx W.Tb) W σ ρ3 H3 Is (dispK M.length ka va M3) Q := r
      unfold dispK at r
      split at r
      · rename_i j ec ej
        obtain ⟨vs, q, iz⟩ := m3.at_ _ _ _ hb ec
        have hH : H3 p = some (.dK []) := by
          cases iz; exact q
        have g4 := m3.growSet (o := .dK [(j, vv)]) hb ec
        refine ⟨hH, [(j, vv)], by rw [key_ok (ik.mono x3 g3) ej]; rfl, by show 1 ≤ 15; decide, ?_⟩
        exact r.okv (.refl _) g4 (m3.set hb ec ⟨[vv], upd_same, .cons (iv.mono (.refl _) g4) .nil⟩) (.dct hb)
      · exact r.elim
    | ex en M3 => rw [e2] at r; exact r
    | bad => rw [e2] at r; exact r
  | ex en M2 => rw [e1] at r; exact r
  | bad => rw [e1] at r; exact r
/-- .. of a tuple's key -/
def dispT (l : Nat) (k v : A) (M3 : Store) : EO A := match M3[l]?, k with
  | some (.dT []), .tup ks => match ks.mapM key? with
    | some j => .ok (.dct l) (M3.set l (.dT [(j, v)]))
    | none => .bad
  | _, _ => .bad
def eDispT (fk fv : EF) : EF := fun τ M => (fk τ (M ++ [.dT []])).bind fun k M2 => (fv τ M2).bind (dispT M.length k)
theorem ae_dispT {k v : Expr} {fk fv : EF} (hu : X.A.units + 1 < cLine) (hk : AE X W k fk) (hv : AE X W v fv) : AE X W (.Dict [some k] [v] pos) (eDispT fk fv) := ⟨fun pins s σ H Q I h => by
  obtain ⟨τ, M, ρ, rs, rm, r⟩ := h
  have hp := I.hok.fresh (Nat.le_refl s.heap.objs.size)
  generalize ep : s.heap.objs.size = p at hp
  have I1 : L2.Inv X pins σ (upd H p (.dT [])) { s with heap := s.heap.push { cls := .type "dict", data := .dict #[] } } := by
    subst ep
    exact I.laid (t' := s.toks) (fun _ _ q => Heap.get?_push_of_some _ q) (Nat.le_refl _) (dt_empty s.heap I.big)
  have g0 : Grow H (upd H p (.dT [])) := .new hp
  have m0 : RM (X.am W.Tb) (ρ ++ [p]) (upd H p (.dT [])) (M ++ [.dT []]) := rm.push hp ⟨[], upd_same, .nil⟩
  have r := RE.mono r (.snoc ρ p) g0
  have hl0 : (ρ ++ [p])[M.length]? = some p := by rw [← rm.len]; simp
  unfold eDispT at r
  refine wpAny_Dict_any (by rfl) (by rfl) (fun z => by cases z) (by show 1 ≤ 15; decide) ?_
  have hP : PPs X pos [some k] [v] [(tG (X.gx W.Tb) W Is fk, tG (X.gx W.Tb) W Is fv)] := pps_cons hk hv pps_nil
  refine thn (hP.run pins _ σ _ (fun ps H3 => ∃ kv vv, ps = [(kv, vv)] ∧ ∃ ks ts H4, kv = .ref ks ∧ H3 ks = some (.tup (ts.map kV)) ∧ H3 p = some (.dT []) ∧ H4 = upd H3 p (.dT [(ts, vv)]) ∧ Q (.ref p) H4) I1 ?_) fun vs s2 ⟨ps, H3, I3, rel, kv, vv, eps, ks, ts, H4, ekv, hks, hpd, e4, q⟩ => ?_
  · refine ⟨τ, _, _, rs.mono (.snoc ρ p) g0, m0, ?_⟩
    cases e1 : fk τ (M ++ [.dT []]) with
    | ok ka M2 =>
      rw [e1] at r
      intro kv H2 ρ2 x2 g2 m2 ik
      have r := RE.mono r x2 g2
      refine ⟨τ, M2, ρ2, (rs.mono (.snoc ρ p) g0).mono x2 g2, m2, ?_⟩
      have r : RE (X.gx W.Tb) W σ ρ2 H2 Is ((fv τ M2).bind (dispT M.length ka)) Q := r
      cases e2 : fv τ M2 with
      | ok va M3 =>
        rw [e2] at r
        intro vv H3 ρ3 x3 g3 m3 iv
        have r := RE.mono r x3 g3
        have hb : ρ3[M.length]? = some p := x3.get (x2.get hl0)
        have r : RE (X.gx W.Tb) W σ ρ3 H3 Is (dispT M.length ka va M3) Q := r
        have ik := ik.mono x3 g3
        unfold dispT at r
        split at r
        · have ec : M3[M.length]? = some (.dT []) := by assumption
          split at r
          · rename_i j ej
            obtain ⟨vs, q, iz⟩ := m3.at_ _ _ _ hb ec
            have hH : H3 p = some (.dT []) := by cases iz; exact q
            cases ik with
            | tup ht it =>
              rw [keys_ok it ej] at ht
              have g4 := m3.growSet (o := .dT [(j, vv)]) hb ec
              exact ⟨_, vv, rfl, _, j, _, rfl, ht, hH, rfl, r.okv (.refl _) g4 (m3.set hb ec ⟨[vv], upd_same, .cons (iv.mono (.refl _) g4) .nil⟩) (.dct hb)⟩
          · exact r.elim
        · exact r.elim
      | ex en M3 => rw [e2] at r; exact r
      | bad => rw [e2] at r; exact r
    | ex en M2 => rw [e1] at r; exact r
    | bad => rw [e1] at r; exact r
  · subst eps ekv
    obtain ⟨u1, u2, rfl, r1, r2⟩ : ∃ u1 u2, vs = [(u1, u2)] ∧ RelV (.ref ks) u1 ∧ RelV vv u2 := by
      cases rel with
      | cons h t => cases t; exact ⟨_, _, rfl, h.1, h.2⟩
    cases r1
    obtain ⟨z, hd, xs, rel2, dd⟩ := dt_of I3.hok hpd
    cases rel2
    show wpAny (model X.prog X.w) X.A (storeAll s.heap.objs.size [(Value.ref ks, u2)]) _ _ _
    rw [ep]
    unfold storeAll
    rw [List.forIn_cons]
    refine wpAny_bind (wpAny_bind ?_)
    refine wpAny_dictSet_heap (hsz := Nat.zero_le _) (knd := tupleKind (mixKind X.prog X.w)) (by show X.A.units < cLine; omega) (key_of I3.hok hks) dd fun h' dd' hs => ?_
    refine wpAny_pure ?_
    dsimp only
    rw [List.forIn_nil]
    refine wpAny_pure ?_
    obtain ⟨ob, es, ee, hq, h2, h3, h4, _, h5⟩ := dd'
    refine ⟨.ref p, H4, ?_, rfl, q⟩
    rw [e4]
    have rel0 : KT H3 ([] : List (List Key × V)) [] := .nil
    have relP := rel0.put ts hks r2
    have e0 : putK ([] : List (List Key × V)) ts vv = [(ts, vv)] := rfl
    rw [e0] at relP
    refine d_write I3 (by rw [hpd]; exact True.intro) hs ⟨ob, hq⟩ ⟨by show 1 ≤ sizeLine; decide, hd, _, relP.keeps fun c ys ec => ?_, ob, es, ee, hq, h2, h3, h4, h5⟩
    rw [upd_ne (ne_of ec hpd (fun z => nomatch z))]
    exact ec⟩
end
end AB
/-! AB12: n += e; the law's end -/
namespace AB
open PySem PySem.Spec PyProof.Rows L2
section
variable {X : Cx} {W : WR} {pos : Pos} {e : Expr} {f : EF}
end
/-- the law's store: the script alone -/
def scr (ns : List Int) : Store := [.frz (ns.map .int)]
end AB
namespace AB
open PySem PySem.Spec PyProof.Rows L2
abbrev fuel : Nat := 1000000
theorem hu64 {A : Around} {k : Nat} (hr : Room k A) : A.units + 64 < cLine := by have := hr.un; omega
theorem hu65 {A : Around} {k : Nat} (hr : Room k A) : A.units + 65 < cLine := by have := hr.un; omega
theorem hu9 {A : Around} {k : Nat} (hr : Room k A) : A.units + 9 < cLine := by have := hr.un; omega
theorem hu1 {A : Around} {k : Nat} (hr : Room k A) : A.units + 1 < cLine := by have := hr.un; omega
/-- a def of the text that does F -/
structure FnX (P : Program) (w : World) (K : PySem.W.Frag) (mg : Str → Option Value) (Tb : Tbl) (base : Heap) (x : Str) (k n : Nat) (F : On') : Prop where
  ex : ∃ fa fd ps, FnOk P w K mg base (L2.CX P w) k fa fd ps (spA ⟨mg, ⟨w, K, mg, Tb⟩⟩ n F) ∧ mg x = some (.ref fa) ∧ PySem.W.keepIn K (.ref fa) = true ∧ Binds K fd ps []
section
variable {X : Cx} {W : WR} {pos : Pos}
theorem ae_callX {k n : Nat} {F : On'} {x : Str} {p : Pos} {e : Expr} {es : List Expr} {fs : EFs} (G : FnX X.prog X.w X.K X.mg W.Tb X.base x k n F) (hr : Room k X.A) (tk : Takes X W.w)
    (ha : AA X W (e :: es) fs) (hg : Gl X x := by rfl) (hdb : (x == ("__debug__" : Str)) = false := by decide) (he : starEach (e :: es) X.env = (false, eval e X.env) :: starEach es X.env := by rfl) (hpl : (backTo pos (starEach es X.env)).any (·.1) = false := by rfl) :
    AE X W (.Call (.Name x p) (e :: es) [] pos) (eCall n F fs) := by
  obtain ⟨fa, fd, ps, G, hm, hk, hb⟩ := G.ex
  exact ae_call G hr hm hk hb tk ha hg hdb he hpl
end
/-- .. whose last parameters have the defaults ds -/
structure FnXD (P : Program) (w : World) (K : PySem.W.Frag) (mg : Str → Option Value) (Tb : Tbl) (base : Heap) (x : Str) (k n : Nat) (ds : List A) (F : On') : Prop where
  ex : ∃ fa fd ps, FnOk P w K mg base (L2.CX P w) k fa fd ps (spA ⟨mg, ⟨w, K, mg, Tb⟩⟩ n F) ∧ mg x = some (.ref fa) ∧ PySem.W.keepIn K (.ref fa) = true ∧ Binds K fd ps [] ∧ ∃ us, Binds K fd ps us ∧ ∃ vs, Vals vs us ∧ ∀ ρ H, IsAll ρ H ds vs
def eCallD (n : Nat) (F : On') (ds : List A) (fs : EFs) : EF := fun τ M => (fs τ M).bind fun as M1 => if (as ++ ds).length = n then F (as ++ ds) M1 else .bad
section
variable {X : Cx} {W : WR} {pos : Pos}
theorem FnXD.x {P : Program} {w : World} {K : PySem.W.Frag} {mg : Str → Option Value} {Tb : Tbl} {base : Heap} {x : Str} {k n : Nat} {ds : List A} {F : On'} (G : FnXD P w K mg Tb base x k n ds F) : FnX P w K mg Tb base x k n F := by
  obtain ⟨fa, fd, ps, G, hm, hk, hb, _⟩ := G.ex
  exact ⟨fa, fd, ps, G, hm, hk, hb⟩
theorem ae_callXD {k n : Nat} {F : On'} {x : Str} {p : Pos} {e : Expr} {es : List Expr} {fs : EFs} {ds : List A} (G : FnXD X.prog X.w X.K X.mg W.Tb X.base x k n ds F) (hr : Room k X.A) (tk : Takes X W.w)
    (ha : AA X W (e :: es) fs) (hg : Gl X x := by rfl) (hdb : (x == ("__debug__" : Str)) = false := by decide) (he : starEach (e :: es) X.env = (false, eval e X.env) :: starEach es X.env := by rfl) (hpl : (backTo pos (starEach es X.env)).any (·.1) = false := by rfl) :
    AE X W (.Call (.Name x p) (e :: es) [] pos) (eCallD n F ds fs) := by
  obtain ⟨fa, fd, ps, G, hm, hk, _, us, hb, vs, hv, hi⟩ := G.ex
  refine (pe_callSD (E := WE W.w) G hr hg hm hk hb hv (fun σ => passAt tk σ) ha hdb he hpl).pre fun σ H Q h => ?_
  refine (seqG IsAll h).imp fun ws H1 h1 => ?_
  obtain ⟨τ, M, ρ, as, rs, rm, i, r⟩ := h1
  have r : RE (X.gx W.Tb) W σ ρ H1 Is (if (as ++ ds).length = n then F (as ++ ds) M else .bad) Q := r
  split at r
  · rename_i hn
    refine ⟨as ++ ds, M, ρ, i.append (hi _ _), rm, hn, ?_⟩
    cases e : F (as ++ ds) M with
    | ok a M1 => rw [e] at r; exact r
    | ex en M1 => rw [e] at r; exact r
    | bad => rw [e] at r; exact r
  · exact r.elim
end
end AB
/-! AB13: the law's end, for any promise -/
namespace AB
open PySem PySem.Spec PyProof.Rows L2
theorem law_endT {mg : Str → Option Value} {w : World} {K : PySem.W.Frag} {Tb : Tbl} {F : On'} (hF : ∀ ns : List Int, ns.length ≤ 63 → ∃ M, F [.lst 0] (scr ns) = .ok (.bl true) M) {Q : VK} {E : XK} (H : Hp) (a : Addr) (ns : List Int) (hl : ns.length ≤ 63) (hS : SqL K H a (ns.map V.int)) (hT : LamX.Tabs Tb H) (q : ∀ H', Q (.bl true) H') :
    spA ⟨mg, ⟨w, K, mg, Tb⟩⟩ 1 F [.ref a] H Q E := by
  obtain ⟨M, e⟩ := hF ns hl
  have zero : ∀ {i : Nat} {b : Addr}, ([a] : List Addr)[i]? = some b → i = 0 := fun {i b} h => by
    have := (List.getElem?_eq_some_iff.mp h).1
    simp at this; omega
  refine ⟨[.lst 0], scr ns, [a], .cons (.lst rfl) .nil, ⟨rfl, fun i j b c d h1 h2 h3 h4 h5 h6 => ?_, fun i b c h1 h2 => ?_, hT, fun i j b c xs h1 h2 h3 h4 h5 => ?_, fun i j b c d h1 h2 h3 h4 h5 h6 => ?_⟩, rfl, ?_⟩
  · rw [zero h1, zero h2]
  · have hi := zero h1
    subst hi
    simp [scr] at h1 h2
    subst h1 h2
    have all : ∀ ns : List Int, IsAll [a] H (ns.map A.int) (ns.map V.int) := by
      intro ns
      induction ns with
      | nil => exact .nil
      | cons n ns ih => exact .cons (.int n) ih
    refine ⟨ns.map V.int, ?_, all ns⟩
    rcases hS with (h | ⟨o, h⟩) | h
    · exact .inl (.inr h)
    · exact .inl (.inl ⟨o, h⟩)
    · exact .inr h
  · have hi := zero h1
    subst hi
    simp [scr] at h3
    subst h3
    cases h5
  · rw [zero h1, zero h2]
  · rw [e]
    intro v H' ρ' x g m i
    cases i
    exact q _
theorem cx_false {P : Program} : ∀ (w : World) (H : Hp) (s : Shared) (e : Value) (s' : Shared), L2.CX P w [] H s (fun _ _ _ => False) e s' → False := fun _ _ _ _ _ ⟨_, _, _, _, _, _, _, _, _, _, _, _, h⟩ => h
end AB
/-! AB14: what an abstract run wants (backward steps) -/
namespace AB
open PySem PySem.Spec PyProof.Rows L2
@[irreducible] def EO.W {α : Type} (o : EO α) (Q : α → Store → Prop) : Prop := match o with
  | .ok a M => Q a M
  | _ => False
@[irreducible] def SO.W (o : SO) (N : Sl → Store → Prop) (R : A → Store → Prop) : Prop := match o with
  | .nx τ M => N τ M
  | .rt a M => R a M
  | _ => False
section
variable {α β : Type} {τ : Sl} {M : Store} {Q : A → Store → Prop} {Qs : List A → Store → Prop} {Qb : Bool → Store → Prop} {N : Sl → Store → Prop} {R : A → Store → Prop}
theorem EO.W.imp {o : EO α} {P P' : α → Store → Prop} (h : o.W P) (f : ∀ a M, P a M → P' a M) : o.W P' := by
  with_unfolding_all
    cases o with
    | ok a M => exact f _ _ h
    | _ => exact h
theorem EO.W.out {o : EO α} {P : α → Store → Prop} (h : o.W P) : ∃ a M, o = .ok a M ∧ P a M := by
  with_unfolding_all
    cases o with
    | ok a M => exact ⟨_, _, rfl, h⟩
    | _ => exact h.elim
theorem w_bind {x : EO α} {g : α → Store → EO β} {P : β → Store → Prop} (h : x.W fun a M => (g a M).W P) : (x.bind g).W P := by
  with_unfolding_all
    cases x with
    | ok a M => exact h
    | _ => exact h
theorem w_bindS {x : EO α} {g : α → Store → SO} (h : x.W fun a M => (g a M).W N R) : (x.bindS τ g).W N R := by
  with_unfolding_all
    cases x with
    | ok a M => exact h
    | _ => exact h
theorem w_toE {o : Option (A × Store)} {a : A} {M' : Store} (e : o = some (a, M')) (h : Q a M') : (toE o).W Q := by with_unfolding_all (rw [e]; exact h)
theorem w_var {i : Nat} {a : A} (e : τ[i]? = some (some a)) (h : Q a M) : (eVar i τ M).W Q := by with_unfolding_all (unfold eVar; rw [e]; exact h)
theorem w_C {a : A} (h : Q a M) : (eC a τ M).W Q := by with_unfolding_all exact (h)
theorem w_nil (h : Qs [] M) : (eNil τ M).W Qs := by with_unfolding_all exact (h)
theorem w_cons {f : EF} {g : EFs} (h : (f τ M).W fun a M1 => (g τ M1).W fun as M2 => Qs (a :: as) M2) : (eCons f g τ M).W Qs := by with_unfolding_all exact (w_bind (h.imp fun _ _ h => w_bind (h.imp fun _ _ h => h)))
theorem w_op {o : O2} {f g : EF} (h : (f τ M).W fun a M1 => (g τ M1).W fun b M2 => (toE (o a b M2)).W Q) : (eOp o f g τ M).W Q := by with_unfolding_all exact (w_bind (h.imp fun _ _ h => w_bind h))
theorem w_fn {o : On} {f : EFs} (h : (f τ M).W fun a M1 => (toE (o a M1)).W Q) : (eFn o f τ M).W Q := by with_unfolding_all exact (w_bind h)
theorem w_B {f : EF} (h : (f τ M).W fun a M1 => ∃ k, a = .bl k ∧ Qb k M1) : (eB f τ M).W Qb := by with_unfolding_all exact (w_bind (h.imp fun _ _ ⟨k, e, h⟩ => by subst e; exact h))
theorem w_call {n : Nat} {F : On'} {fs : EFs} (h : (fs τ M).W fun as M1 => as.length = n ∧ (F as M1).W Q) : (eCall n F fs τ M).W Q := by with_unfolding_all exact (w_bind (h.imp fun _ _ h => by rw [if_pos h.1]; exact h.2))
/-! ### statements -/
theorem w_sNil (h : N τ M) : (sNil τ M).W N R := by with_unfolding_all exact (h)
theorem w_seq {s t : SF} (h : (s τ M).W (fun τ1 M1 => (t τ1 M1).W N R) R) : (sSeq s t τ M).W N R := by
  with_unfolding_all
    unfold sSeq
    cases e : s τ M with
    | nx τ1 M1 => rw [e] at h; exact h
    | rt a M1 => rw [e] at h; exact h
    | _ => rw [e] at h; exact h
theorem w_ret {f : EF} (h : (f τ M).W R) : (sRet f τ M).W N R := by with_unfolding_all exact (w_bindS h)
theorem w_if {c : EFb} {s t : SF} (h : (c τ M).W fun k M1 => if k = true then (s τ M1).W N R else (t τ M1).W N R) : (sIf c s t τ M).W N R := by with_unfolding_all exact (w_bindS (h.imp fun k M1 h => by
  cases k with
  | true => exact h
  | false => exact h))
theorem w_asg {t : Tgt} {f : EF} (h : (f τ M).W fun a M1 => ∃ τ1, t.set a τ = some τ1 ∧ N τ1 M1) : (sAsg t f τ M).W N R := by with_unfolding_all exact (w_bindS (h.imp fun a M1 ⟨τ1, e, h⟩ => by rw [e]; exact h))
theorem w_set {i : Nat} {f : EF} (h : (f τ M).W fun a M1 => N (τ.set i (some a)) M1) : (sAsg (.nm i) f τ M).W N R := by with_unfolding_all exact (w_asg (h.imp fun a M1 h => ⟨_, rfl, h⟩))
theorem w_setL {fo fi fv : EF} (h : (fv τ M).W fun v M1 => (fo τ M1).W fun x M2 => (fi τ M2).W fun i M3 => ∃ M4, oSetL M3 x i v = some M4 ∧ N τ M4) : (sSetL fo fi fv τ M).W N R := by with_unfolding_all exact (w_bindS (h.imp fun _ _ h => w_bindS (h.imp fun _ _ h => w_bindS (h.imp fun k M3 ⟨M4, e2, h4⟩ => by rw [e2]; exact h4))))
theorem w_def {n : Nat} {s : SF} {as : List A} (h : (s (startA n as) M).W (fun _ M1 => Q .non M1) Q) : (defA n s as M).W Q := by
  with_unfolding_all
    unfold defA
    cases e : s (startA n as) M with
    | nx τ1 M1 => rw [e] at h; exact h
    | rt a M1 => rw [e] at h; exact h
    | _ => rw [e] at h; exact h.elim
/-! ### loops -/
end
/-! ### stores -/
/-- M's cells stand in M', save at r -/
def Fr (r : Option Nat) (M M' : Store) : Prop := M.length ≤ M'.length ∧ ∀ i c, some i ≠ r → M[i]? = some c → M'[i]? = some c
abbrev Pre : Store → Store → Prop := Fr none
section
variable {r : Option Nat} {M M' M'' : Store} {c : Cell} {l : Nat}
theorem Fr.refl : Fr r M M := ⟨Nat.le_refl _, fun _ _ _ h => h⟩
theorem Fr.trans (a : Fr r M M') (b : Fr r M' M'') : Fr r M M'' := ⟨Nat.le_trans a.1 b.1, fun i c n h => b.2 i c n (a.2 i c n h)⟩
theorem Fr.set (a : Fr r M M') (h : M.length ≤ l) : Fr r M (M'.set l c) := ⟨by rw [List.length_set]; exact a.1, fun i d n e => by
  have : i < M.length := (List.getElem?_eq_some_iff.mp e).1
  rw [List.getElem?_set_ne (by omega)]
  exact a.2 i d n e⟩
theorem Fr.setr (a : Fr (some l) M M') : Fr (some l) M (M'.set l c) := ⟨by rw [List.length_set]; exact a.1, fun i d n e => by
  rw [List.getElem?_set_ne (fun z => n (by rw [z]))]
  exact a.2 i d n e⟩
theorem Pre.at (a : Pre M M') {i : Nat} {d : Cell} (h : M[i]? = some d) : M'[i]? = some d := a.2 i d (by simp) h
theorem Fr.at (a : Fr r M M') {i : Nat} {d : Cell} (h : M[i]? = some d) (n : some i ≠ r) : M'[i]? = some d := a.2 i d n h
theorem at_set {d : Cell} (h : M[l]? = some d) : (M.set l c)[l]? = some c := List.getElem?_set_self (List.getElem?_eq_some_iff.mp h).1
theorem at_ne {i : Nat} {d : Cell} (n : i ≠ l) (h : M[i]? = some d) : (M.set l c)[i]? = some d := by rw [List.getElem?_set_ne (fun z => n z.symm)]; exact h
theorem listAt_of {xs : List A} (h : M[l]? = some (.lst xs)) : listAt M l = some xs := by unfold listAt; rw [h]; rfl
theorem listAt_frz {xs : List A} (h : M[l]? = some (.frz xs)) : listAt M l = some xs := by unfold listAt; rw [h]; rfl
end
/-! ### ops -/
section
variable {M : Store} {xs ys : List A} {x y : A} {l : Nat}
theorem atI_nat {α : Type} {xs : List α} {i : Nat} {x : α} (h : xs[i]? = some x) : atI xs (i : Int) = some x := by
  unfold atI ixN
  have : i < xs.length := (List.getElem?_eq_some_iff.mp h).1
  rw [if_pos (by omega), if_pos (by omega)]
  simpa using h
theorem ix_lst {i : Nat} (hl : listAt M l = some xs) (h : xs[i]? = some x) : oIx (.lst l) (.int i) M = some (x, M) := by
  show (listAt M l).bind (fun xs => (atI xs (i : Int)).map (·, M)) = _
  rw [hl]
  show (atI xs (i : Int)).map (·, M) = _
  rw [atI_nat h]
  rfl
theorem len_lst (h : listAt M l = some xs) : oLenN [.lst l] M = some (.int (xs.length : Nat), M) := by
  show (listAt M l).map _ = _
  rw [h]
  rfl
end
end AB
local macro_rules | `(tactic| walk_at "ws") => `(tactic| first
  | with_reducible refine AB.w_seq ?_ | with_reducible refine AB.w_sNil ?_ | with_reducible refine AB.w_set ?_ | with_reducible refine AB.w_cons ?_ | with_reducible refine AB.w_nil ?_ | with_reducible refine AB.w_op ?_ | with_reducible refine AB.w_fn ?_ | with_reducible refine AB.w_un ?_
  | ((with_reducible refine AB.w_var (a := ?aa) ?ee ?hh); (case ee => rfl)) | with_reducible refine AB.w_C ?_ | with_reducible refine AB.w_ret ?_ | with_reducible refine AB.w_if ?_ | with_reducible refine AB.w_expr ?_
  | with_reducible refine AB.w_eAnd ?_ | with_reducible refine AB.w_eOr ?_ | with_reducible refine AB.w_eNot ?_ | with_reducible refine AB.w_eIf ?_ | with_reducible refine AB.w_B ?_ | with_reducible refine AB.w_T ?_ | with_reducible refine AB.w_not ?_ | with_reducible refine AB.w_bor ?_ | with_reducible refine AB.w_band ?_ | with_reducible refine AB.w_yes ?_
  | with_reducible refine AB.w_meth ?_ | with_reducible refine AB.w_methN ?_ | with_reducible refine AB.w_chain ?_ | with_reducible refine AB.w_call ?_ | with_reducible refine AB.w_callD ?_ | with_reducible refine AB.w_tup ?_ | with_reducible refine AB.w_lst ?_ | with_reducible refine AB.w_newK ?_ | with_reducible refine AB.w_newT ?_ | with_reducible refine AB.w_newN ?_
  | with_reducible refine AB.w_setL ?_ | with_reducible refine AB.w_dput ?_ | with_reducible refine AB.w_par3 ?_ | with_reducible refine AB.w_par ?_ | with_reducible refine AB.w_mix ?_ | with_reducible refine AB.w_g1 ?_ | with_reducible refine AB.w_lrg ?_ | with_reducible refine AB.w_trg ?_ | with_reducible refine AB.w_retN ?_
  | with_reducible refine AB.w_asg ?_)
/-! AB15: raise of an own exception that bears no field -/
namespace AB
open PySem PySem.Spec PyProof.Rows L2
section
variable {X : Cx} {W : WR} {pos : Pos} {e : Expr}
def sRaise0 (x : Str) : SF := fun τ M => .ex ⟨x, none⟩ τ M
theorem as_raise0 {x : Str} {C : Addr} (hc : X.calm = true) (tk : Takes X W.w) (hm : PMk X e (fun _ H Q => Q (.ref C) none H)) (gC : X.mg x = some (.ref C)) : AS X W (.Raise (some e) none pos) (sRaise0 x) :=
  (ps_raise hc tk hm).pre fun D σ H h => by
    obtain ⟨τ, M, ρ, rs, rm, r⟩ := h
    exact r (.ref C) none σ H ρ (.refl _) (.refl _) rm rs ⟨C, gC, rfl, rfl⟩
end
end AB
/-! PM: itertools.permutations of range(n), as what a for walks over -/
namespace PM
open PySem PySem.Spec PyProof.Rows L2
open Sem (wp)
theorem mro_pm : mroOf (.type "itertools.permutations") = pure [.type "itertools.permutations", .type "object"] := by rw [mroOf_type]; kernel_rfl
theorem lookup_pm_new : typeLookup (.type "itertools.permutations") "__new__" = pure (some (.builtin "itertools.permutations.__new__")) := by rw [typeLookup_type, builtinLookup_eq_fast]; kernel_rfl
theorem slot_pm_init : Slot "itertools.permutations" "__init__" "object.__init__" :=
  .of (owner := "object") (n := "__init__") (by rw [typeLookup_type, builtinLookup_eq_fast]; kernel_rfl) (by decide +kernel) (by decide +kernel) (by decide +kernel)
    (by first | exact .inl (by decide +kernel) | exact .inr (by decide +kernel)) (by rw [isSubtype_type]; kernel_rfl)
theorem sub_pm : isSubtype (.type "itertools.permutations") (.type "itertools.permutations") = pure true := by rw [isSubtype_type]; kernel_rfl
theorem called_pm : TypeCalled "itertools.permutations" "itertools.permutations.__new__" "object.__init__" :=
  ⟨by decide +kernel, by decide +kernel, ⟨_, _, mro_pm⟩, madeBy_type mro_pm lookup_pm_new (by decide +kernel), by decide +kernel, sub_pm, slot_pm_init⟩
theorem entry_pm_new : entryFor table "itertools.permutations.__new__" = some Builtin.«itertools.permutations.__new__» := entryFor_of_tree (by kernel_rfl)
theorem slot_pm_iter : Slot "itertools.permutations" "__iter__" "itertools.permutations.__iter__" :=
  .of (owner := "itertools.permutations") (n := "__iter__") (by rw [typeLookup_type, builtinLookup_eq_fast]; kernel_rfl) (by decide +kernel) (by decide +kernel) (by decide +kernel)
    (by first | exact .inl (by decide +kernel) | exact .inr (by decide +kernel)) sub_pm
theorem slot_pm_next : Slot "itertools.permutations" "__next__" "itertools.permutations.__next__" :=
  .of (owner := "itertools.permutations") (n := "__next__") (by rw [typeLookup_type, builtinLookup_eq_fast]; kernel_rfl) (by decide +kernel) (by decide +kernel) (by decide +kernel)
    (by first | exact .inl (by decide +kernel) | exact .inr (by decide +kernel)) sub_pm
theorem entry_pm_iter : entryFor table "itertools.permutations.__iter__" = some Builtin.«dict_keyiterator.__iter__» :=
  entryFor_alias (id' := "dict_keyiterator.__iter__") (by kernel_rfl) (by first | rfl | decide +kernel | (unfold String.splitOn; simp +decide [String.splitOnAux])) (by decide +kernel) (by kernel_rfl)
theorem entry_pm_next : entryFor table "itertools.permutations.__next__" = some Builtin.«itertools.permutations.__next__» := entryFor_of_tree (by kernel_rfl)
theorem owner_pm : Manifest.owners.lookup (String.ofList ("itertools.permutations".toList.reverse).reverse) = some Manifest.sig_itertools_permutations := by kernel_rfl
theorem args_pm_iter (a : Value) : argsOk "itertools.permutations.__iter__" ⟨[a], []⟩ := by
  unfold argsOk; rw [signature?_of (id := "itertools.permutations.__iter__") (n := ['_', '_', 'r', 'e', 't', 'i', '_', '_']) (o := "itertools.permutations".toList.reverse) (by kernel_rfl) owner_pm]; kernel_rfl
theorem args_pm_next (a : Value) : argsOk "itertools.permutations.__next__" ⟨[a], []⟩ := by
  unfold argsOk; rw [signature?_of (id := "itertools.permutations.__next__") (n := ['_', '_', 't', 'x', 'e', 'n', '_', '_']) (o := "itertools.permutations".toList.reverse) (by kernel_rfl) owner_pm]; kernel_rfl
theorem noDict_pm : typeHasDict (.type "itertools.permutations") = false := by decide +kernel
/-- how many orders come -/
def fct : Nat → Nat
  | 1 => 1
  | 2 => 2
  | 3 => 6
  | _ => 0
/-- the places behind i steps -/
def ix : Nat → Nat → List Nat
  | 1, 0 => [0]
  | 2, 0 => [0, 1]
  | 2, 1 => [1, 0]
  | 3, 0 => [0, 1, 2]
  | 3, 1 => [0, 2, 1]
  | 3, 2 => [1, 0, 2]
  | 3, 3 => [1, 2, 0]
  | 3, 4 => [2, 0, 1]
  | 3, 5 => [2, 1, 0]
  | _, _ => []
def cy : Nat → Nat → List Nat
  | 1, 0 => [1]
  | 2, 0 => [2, 1]
  | 2, 1 => [1, 1]
  | 3, 0 => [3, 2, 1]
  | 3, 1 => [3, 1, 1]
  | 3, 2 => [2, 2, 1]
  | 3, 3 => [2, 1, 1]
  | 3, 4 => [1, 2, 1]
  | 3, 5 => [1, 1, 1]
  | _, _ => []
/-- the numbers that stand in the record -/
@[irreducible] def nums (n i : Nat) : List Value := ((ix n i).map fun j : Nat => rawInt (j : Int)) ++ ((cy n i).map fun j : Nat => rawInt (j : Int))
/-- the record, i orders having come -/
def rec (n i : Nat) (pool : Addr) (last : Value) : Array Value := ([.ref pool, rawInt (if i = 0 then 0 else 1), rawInt (n : Int), last] ++ nums n (i - 1)).toArray
/-- the pool: 0 to n - 1 -/
@[irreducible] def poolV (ts : List Tok) : List Value := (ts.zipIdx).map fun p => .int (p.2 : Int) p.1
def At (h : Heap) (it pool : Addr) (n i : Nat) : Prop := ∃ (last : Value) (ts : List Tok), ts.length = n ∧ pool ≠ it ∧ h.get? it = some { cls := .type "itertools.permutations", dict := none, data := .fields (rec n i pool last), slots := #[] } ∧
  h.get? pool = some { cls := .type "tuple", dict := none, data := .seq (poolV ts).toArray, slots := #[] }
section
variable {prog : Program} {w : World} {A : Around} {E : Value → Shared → Prop} {s : Shared}
end
end PM
namespace PM
open PySem PySem.Spec PyProof.Rows L2
open Sem (wp)
section
variable {prog : Program} {w : World} {A : Around} {E : Value → Shared → Prop} {s : Shared}
/-- the order that comes next, as it is laid -/
def row (n i : Nat) (ts : List Tok) : List Value := (ix n i).map fun j => (poolV ts).toArray.getD j .none
theorem poolV_len (ts : List Tok) : (poolV ts).length = ts.length := by unfold poolV; simp
abbrev pmO (r : Array Value) : Obj := { cls := .type "itertools.permutations", dict := none, data := .fields r, slots := #[] }
theorem fin_row2 {it : Addr} {r : Array Value} {us us' : List Value} {last : Value} {Q : Option Value → Shared → Prop} (he : us = us') (hit : s.heap.get? it = some (pmO r)) (h3 : r[3]? = some last) (hu : us'.length ≤ 3)
    (hQ : ∀ h' t, t = s.heap.objs.size → h'.get? it = some (pmO (r.setIfInBounds 3 (.ref t))) → (∀ b o, b ≠ it → s.heap.get? b = some o → h'.get? b = some o) → h'.get? t = some { cls := .type "tuple", data := .seq us'.toArray } → Q (some (.ref t)) { s with heap := h' }) :
    wpAny (model prog w) A.in1 (newTuple us) (fun t s' => wpAny (model prog w) A.in1 (do
      let before ← field (.ref it) 3
      setField (.ref it) 3 t
      letGo [before] [t]
      ret t) (fun fin s' => ∃ v, fin = Fin.done (.ret v) ∧ Q (some v) s') E s') E s := by
  subst he
  obtain ⟨hp0, g, d, tk, os⟩ := s
  have h3s : 3 < r.size := (Array.getElem?_eq_some_iff.mp h3).1
  have nit : it ≠ hp0.objs.size := Nat.ne_of_lt (Heap.lt_size (show hp0.get? it = some (pmO r) from hit))
  unfold newTuple
  refine wpAny_newObj_type ?_ (by show us.toArray.size ≤ sizeLine; rw [List.size_toArray, sizeLine_eq]; omega)
  have hit1 := Heap.get?_push_of_some { cls := .type "tuple", data := .seq us.toArray } (show hp0.get? it = some (pmO r) from hit)
  refine wpAny_bind (wpAny_field hit1 rfl h3 ?_)
  refine wpAny_bind (wpAny_setField hit1 rfl h3s ?_)
  refine wpAny_bind (wpAny_letGo ?_)
  refine wpAny_pure ⟨_, rfl, hQ _ _ rfl (Heap.get?_update_self _ hit1 rfl) (fun b o hb ho => (Heap.get?_update_ne _ _ _ _ hb).trans (Heap.get?_push_of_some _ ho)) ?_⟩
  exact (Heap.get?_update_ne _ _ _ _ nit.symm).trans (Heap.get?_push_size _ rfl)
/-- what an order's coming brings -/
def Came (s : Shared) (it pool : Addr) (n i : Nat) (Q : Option Value → Shared → Prop) : Prop :=
  ∀ h' ts t, t = s.heap.objs.size → ts.length = n → At h' it pool n (i + 1) → (∀ b o, b ≠ it → s.heap.get? b = some o → h'.get? b = some o) → h'.get? t = some { cls := .type "tuple", data := .seq (row n i ts).toArray } → Q (some (.ref t)) { s with heap := h' }
end
end PM
namespace PM
open PySem PySem.Spec PyProof.Rows L2
open Sem (wp)
/-- the order, as values -/
def rowV (n i : Nat) : List V := (ix n i).map fun j : Nat => V.int (j : Int)
end PM
namespace PM
open PySem PySem.Spec PyProof.Rows L2
open Sem (wp)
theorem plain_pm_new : plainId "itertools.permutations.__new__" = true := by decide +kernel
theorem str_pm : ("itertools." ++ "permutations" : String) = "itertools.permutations" := by decide +kernel
theorem pool_of : ∀ {n : Nat} {acc : Array Value}, ItemsOf (fun i v => ∃ t, v = .int (0 + (i : Nat) * 1) t) acc n → ∃ ts : List Tok, ts.length = n ∧ acc.toList = poolV ts := by
  intro n acc hi
  refine ⟨acc.toList.map fun v => match v with | .int _ t => t | _ => 0, by rw [List.length_map, Array.length_toList]; exact hi.1, ?_⟩
  refine List.ext_getElem? fun i => ?_
  unfold poolV
  rw [List.getElem?_map, List.getElem?_zipIdx, List.getElem?_map]
  cases e : acc.toList[i]? with
  | none => rfl
  | some v =>
    obtain ⟨t, rfl⟩ := hi.2 i v (by rw [← e, Array.getElem?_toList])
    simp
section
variable {prog : Program} {w : World} {A : Around} {E : Value → Shared → Prop} {R : Result → Shared → Prop} {s : Shared} {r : Addr} {b : Int} {t u v : Tok} {n : Nat}
end
end PM
/-! AB16: what stands written at the module's top: tuples of texts, a table of such -/
namespace AB
open PySem PySem.Spec PyProof.Rows L2
/-- at a: a written tuple of texts -/
def KTup (K : PySem.W.Frag) (a : Addr) (ts : List Str) : Prop := ∃ (o : Obj) (its : Array Value) (n : Nat), K.lookup a = some o ∧ o.cls = .type "tuple" ∧ o.data = .seq its n ∧ its.size ≤ sizeLine ∧ Vals (ts.map V.str) its.toList
theorem KTup.sq {K : PySem.W.Frag} {a : Addr} {ts : List Str} (k : KTup K a ts) (H : Hp) : SqT K H a (ts.map V.str) := .inr k
/-- at d: a written table from texts to such -/
def KTab (K : PySem.W.Frag) (w : World) (d : Addr) (tbl : List (Str × List Str)) : Prop := (∃ es n, KDict K w d es n) ∧ ∀ z ts, tbl.lookup z = some ts → ∃ p, PySem.W.nsIn K d z = some (some (.ref p)) ∧ KTup K p ts
abbrev relK (K : PySem.W.Frag) : Rel (List Str) V := fun _ _ ts v => ∃ a, v = .ref a ∧ KTup K a ts
abbrev EK := Sl → Store → EO (List Str)
def AK (X : Cx) (W : WR) (e : Expr) (f : EK) : Prop := PE X e (tG (X.gx W.Tb) W (relK X.K) f)
section
variable {X : Cx} {W : WR} {pos : Pos} {a b : Expr} {f g : EF} {fk : EK}
def kC (ts : List Str) : EK := fun _ M => .ok ts M
theorem ak_nm {x : Str} {u : Addr} {ts : List Str} (hm : X.mg x = some (.ref u)) (k : KTup X.K u ts) (hg : Gl X x := by rfl) (hd : (x == ("__debug__" : Str)) = false := by decide) : AK X W (.Name x pos) (kC ts) := by
  refine (pe_glob hg hm (x := x) (v := V.ref u) rfl hd).pre fun σ H Q h => ?_
  obtain ⟨τ, M, ρ, rs, rm, r⟩ := h
  exact r.okv (.refl _) (.refl _) rm ⟨u, rfl, k⟩
def kAt (tbl : List (Str × List Str)) (k : A) (M : Store) : EO (List Str) := match k with
  | .str z => match tbl.lookup z with
    | some ts => .ok ts M
    | none => .bad
  | _ => .bad
def kIx (tbl : List (Str × List Str)) (g : EF) : EK := fun τ M => (g τ M).bind (kAt tbl)
theorem ix_kd {d : Addr} {es : Array DictEntry} {n : Nat} (D : KDict X.K X.w d es n) : IxR X (fun x y H Q => ∃ (z : Str) (u0 : Value) (v0 : V), x = .ref d ∧ y = .str z ∧ PySem.W.nsIn X.K d z = some (some u0) ∧ RelV v0 u0 ∧ Q v0 H) := by
  intro value slice pins s σ H x y v u Q I rx ry h hs
  obtain ⟨z, u0, v0, rfl, rfl, e, r, q⟩ := h
  cases rx
  exact tail_any (kd_type D I) PySem.F.slot_dict_getitem.lookup (op_item_kd D pins s σ H (.ref d) (.str z) (.ref d) u Q I rfl ry ⟨z, u0, v0, rfl, rfl, e, r, q⟩) hs
theorem ak_ix {x : Str} {d : Addr} {p : Pos} {tbl : List (Str × List Str)} (hm : X.mg x = some (.ref d)) (k : KTab X.K X.w d tbl) (hb : AE X W b g) (hg : Gl X x := by rfl) (hd : (x == ("__debug__" : Str)) = false := by decide) (hs : PlainIx b := by intro _ _; rfl) : AK X W (.Subscript (.Name x p) b pos) (kIx tbl g) := by
  obtain ⟨⟨es, n, D⟩, kt⟩ := k
  refine (pe_ix (ix_kd D) (pe_glob hg hm (x := x) (v := V.ref d) rfl hd) hb hs).pre fun σ H Q h => ?_
  refine (seqG Is h).imp fun y H1 h1 => ?_
  obtain ⟨τ, M, ρ, c, rs, rm, i, r⟩ := h1
  unfold kAt at r
  dsimp only at r
  split at r
  · rename_i z
    cases i
    split at r
    · rename_i ts e
      obtain ⟨p, e1, e2⟩ := kt z ts e
      exact ⟨z, .ref p, .ref p, rfl, rfl, e1, rfl, r.okv (.refl _) (.refl _) rm ⟨p, rfl, e2⟩⟩
    · exact r.elim
  · exact r.elim
/-- x in a written tuple -/
def inK (neg : Bool) (c : A) (ts : List Str) (M : Store) : EO A := match flat? c with
  | some v => .ok (.bl (if neg then !inV v (ts.map V.str) else inV v (ts.map V.str))) M
  | none => .bad
def eInK (neg : Bool) (f : EF) (g : EK) : EF := fun τ M => (f τ M).bind fun a M1 => (g τ M1).bind fun ts M2 => inK neg a ts M2
theorem inK_tK {neg : Bool} {σ : L2.St} {H : Hp} {Q : VK} (h : tG (X.gx W.Tb) W Is (eInK neg f fk) σ H Q) : tG (X.gx W.Tb) W Is f σ H fun x H1 => tG (X.gx W.Tb) W (relK X.K) fk σ H1 fun y H2 => rIn X.K neg x y H2 Q := by
  refine (seqG Is h).imp fun x H1 h1 => ?_
  refine (seqK Is Is.ext (relK X.K) h1).imp fun y H2 h2 => ?_
  obtain ⟨τ, M, ρ, c, ts, rs, rm, i, ⟨u, ey, k⟩, r⟩ := h2
  subst ey
  unfold inK at r
  split at r
  · rename_i v e
    obtain ⟨rfl, fl⟩ := flat_ok i e
    exact ⟨u, _, rfl, .inr (k.sq _), fl, by simp [flatV], r.okv (.refl _) (.refl _) rm (.bl _)⟩
  · exact r.elim
theorem at_inK (ha : AE X W a f) (hb : AK X W b fk) (hm : behindInMarks .In b = false := by with_unfolding_all rfl) : AT X W (.Compare a [.In] [b] pos) (eB (eInK false f fk)) := (pt_cmpR op_in_seq ha hb hm).pre fun _ _ _ h => inK_tK (bool_tK h)
theorem at_ninK (ha : AE X W a f) (hb : AK X W b fk) (hm : behindInMarks .NotIn b = false := by with_unfolding_all rfl) : AT X W (.Compare a [.NotIn] [b] pos) (eB (eInK true f fk)) := (pt_cmpR op_notIn_seq ha hb hm).pre fun _ _ _ h => inK_tK (bool_tK h)
/-- for x in a written tuple -/
def iK (fk : EK) : EI := fun τ M => (fk τ M).bind fun ts M1 => .ok (.snap (ts.map A.str)) M1
theorem srcJ_k {w : Amb} {ρ : List Addr} {H : Hp} {ts : List Str} {u : Addr} (k : KTup w.K u ts) : SrcJ w ρ H (.snap (ts.map A.str)) (Itt w.K u) := by
  intro ρ2 H2 M2 i x g m
  have h2 := k.sq H2
  cases e : ts[i]? with
  | none =>
    simp only [Src.at, List.getElem?_map, e, Option.map_none]
    exact ⟨_, h2, by rw [List.length_map]; exact List.getElem?_eq_none_iff.mp e⟩
  | some t =>
    simp only [Src.at, List.getElem?_map, e, Option.map_some]
    refine ⟨⟨_, .str t, h2, by rw [List.getElem?_map, e]; rfl⟩, fun v H3 ⟨eH, hw⟩ => ?_⟩
    subst eH
    have := hw _ h2
    rw [List.getElem?_map, e] at this
    obtain rfl := Option.some.inj this
    exact ⟨.refl _, m, .str _⟩
theorem ai_K {tg : Expr} (h : AK X W a fk) : AI X W tg a (iK fk) := (pi_tup h).pre fun σ H R h => by
  refine (seqG (relK X.K) h).imp fun x H1 h1 => ?_
  obtain ⟨τ, M, ρ, ts, rs, rm, ⟨u, ex, k⟩, r⟩ := h1
  exact ⟨u, ex, ⟨_, k.sq _⟩, RE.okv (a := Src.snap (ts.map A.str)) (M := M) (rel := relJ (X.am W.Tb)) r (.refl _) (.refl _) rm (srcJ_k k)⟩
end
end AB
/-! AB17: sorted of messages: tuples of a word and, perhaps, a number or a tuple of numbers -/
namespace SM
open PySem PySem.Spec PyProof.Rows SX
inductive Rst where
  | one | num (i : Int) | tup (ns : List Int)
  deriving DecidableEq
abbrev Msg := Str × Rst
def encN (l : List Nat) (r : List Int) : List Int := match l with
  | [] => 0 :: r
  | c :: cs => ((c : Int) + 1) :: encN cs r
def Rst.key : Rst → List Int
  | .one => []
  | .num i => [0, i]
  | .tup ns => 1 :: ns
def key (m : Msg) : List Int := encN m.1.cps.toList m.2.key
def fits : Rst → Rst → Bool
  | .num _, .tup _ => false
  | .tup _, .num _ => false
  | _, _ => true
/-- the two can be compared -/
def compat (m m' : Msg) : Bool := !(m.1 == m'.1) || fits m.2 m'.2
theorem enc_lt : ∀ (xs ys : List Nat) (r r' : List Int), ltL (encN xs r) (encN ys r') = if xs = ys then ltL r r' else decide (xs < ys)
  | [], [], r, r' => by simp only [encN]; rw [ltL_yes rfl]; simp
  | [], y :: ys, r, r' => by
    simp only [encN]
    rw [ltL_no (by omega), if_neg (by simp)]
    rw [decide_eq_true (by omega : (0 : Int) < (y : Int) + 1)]
    exact (decide_eq_true (by simp)).symm
  | x :: xs, [], r, r' => by
    simp only [encN]
    rw [ltL_no (by omega), if_neg (by simp), decide_eq_false (by omega)]
    exact (decide_eq_false (by simp)).symm
  | x :: xs, y :: ys, r, r' => by
    simp only [encN]
    by_cases e : x = y
    · subst e
      rw [ltL_yes rfl, enc_lt xs ys]
      by_cases e2 : xs = ys
      · subst e2; simp
      · rw [if_neg e2, if_neg (by simpa using e2)]
        exact decide_eq_decide.mpr (by simp [List.cons_lt_cons_iff])
    · rw [ltL_no (by omega), if_neg (by simp [e])]
      exact decide_eq_decide.mpr (by simp [List.cons_lt_cons_iff, e])
theorem enc_inj : ∀ {xs ys : List Nat} {r r' : List Int}, encN xs r = encN ys r' → xs = ys ∧ r = r'
  | [], [], r, r', h => by simp only [encN] at h; cases h; exact ⟨rfl, rfl⟩
  | [], y :: ys, r, r', h => by simp only [encN, List.cons.injEq] at h; omega
  | x :: xs, [], r, r', h => by simp only [encN, List.cons.injEq] at h; omega
  | x :: xs, y :: ys, r, r', h => by
    simp only [encN, List.cons.injEq] at h
    obtain ⟨e1, e2⟩ := enc_inj h.2
    exact ⟨by rw [e1]; congr 1; omega, e2⟩
theorem key_inj {m m' : Msg} (h : key m = key m') : m = m' := by
  obtain ⟨w, r⟩ := m
  obtain ⟨w', r'⟩ := m'
  obtain ⟨e1, e2⟩ := enc_inj h
  have e1 : w = w' := PySem.W.str_of_cps e1
  subst e1
  have e2 : r.key = r'.key := e2
  cases r <;> cases r' <;> simp_all [Rst.key]
def ins (x : Msg) : List Msg → List Msg
  | [] => [x]
  | y :: ys => if ltL (key y) (key x) = true then y :: ins x ys else x :: y :: ys
def sortM : List Msg → List Msg
  | [] => []
  | x :: xs => ins x (sortM xs)
theorem ins_key (x : Msg) : ∀ ys, (ins x ys).map key = SX.ins (key x) (ys.map key)
  | [] => rfl
  | y :: ys => by
    simp only [ins, List.map_cons, SX.ins]
    split
    · rw [List.map_cons, ins_key x ys]
    · rfl
theorem sort_key : ∀ xs, (sortM xs).map key = SX.sortL (xs.map key)
  | [] => rfl
  | x :: xs => by
    simp only [sortM, List.map_cons, SX.sortL]
    rw [ins_key, sort_key xs]
theorem map_inj {α β : Type} {f : α → β} (hf : ∀ a b, f a = f b → a = b) : ∀ {xs ys : List α}, xs.map f = ys.map f → xs = ys
  | [], [], _ => rfl
  | [], _ :: _, h => by simp at h
  | _ :: _, [], h => by simp at h
  | x :: xs, y :: ys, h => by
    simp only [List.map_cons, List.cons.injEq] at h
    rw [hf _ _ h.1, map_inj hf h.2]
section
variable {prog : Program} {w : World} {A : Around} {E : Value → Shared → Prop} {s : Shared}
/-- a message's second part -/
inductive IsR (h : Heap) : List Value → Rst → Prop
  | one : IsR h [] .one
  | num (i : Int) (t : Tok) : IsR h [.int i t] (.num i)
  | tup {b : Addr} {xs : Array Value} {ns : List Int} : IsTup h b xs → IntsAre xs.toList ns → IsR h [.ref b] (.tup ns)
def IsM (h : Heap) (v : Value) (m : Msg) : Prop := ∃ a o xs n t r, v = .ref a ∧ h.get? a = some o ∧ o.cls = .type "tuple" ∧ o.data = .seq xs n ∧ xs.toList = .str m.1 t :: r ∧ IsR h r m.2
theorem IsR.keeps {h h' : Heap} {r : List Value} {m : Rst} (x : IsR h r m) (k : ∀ b o, h.get? b = some o → o.cls = .type "tuple" → h'.get? b = some o) : IsR h' r m := by
  cases x with
  | one => exact .one
  | num i t => exact .num i t
  | tup h1 h2 =>
    obtain ⟨o, e, c, d⟩ := h1
    exact .tup ⟨o, k _ _ e c, c, d⟩ h2
theorem IsM.keeps {h h' : Heap} {v : Value} {m : Msg} (x : IsM h v m) (k : ∀ b o, h.get? b = some o → o.cls = .type "tuple" → h'.get? b = some o) : IsM h' v m := by
  obtain ⟨a, o, xs, n, t, r, e, ho, hc, hd, hx, i⟩ := x
  exact ⟨a, o, xs, n, t, r, e, k a o ho hc, hc, hd, hx, i.keeps k⟩
theorem lexLt_ltL : ∀ xs ys : List Int, HT.lexLt xs ys = ltL xs ys
  | [], [] => rfl
  | [], _ :: _ => rfl
  | _ :: _, [] => rfl
  | x :: xs, y :: ys => by
    unfold HT.lexLt ltL
    rw [lexLt_ltL xs ys]
theorem reads_ints {h : Heap} : ∀ {vs : List Value} {ns : List Int}, IntsAre vs ns → ReadsAll h vs (ns.map PyData.int) []
  | _, _, .nil => .nil
  | _, _, .cons x t r => .cons (as := []) (bs := []) (.int x t) (reads_ints r)
theorem alike_ints : ∀ ns ms : List Int, PySem.W.alikeAll (ns.map PyData.int) (ms.map PyData.int) = true
  | [], _ => by simp [PySem.W.alikeAll]
  | _ :: _, [] => by simp [PySem.W.alikeAll]
  | n :: ns, m :: ms => by simp [PySem.W.alikeAll, PySem.W.alike, alike_ints ns ms]
theorem eqv_ints : ∀ ns ms : List Int, PyData.eqvAll (ns.map PyData.int) (ms.map PyData.int) = decide (ns = ms)
  | [], [] => by simp [PyData.eqvAll]
  | [], _ :: _ => by simp [PyData.eqvAll]
  | _ :: _, [] => by simp [PyData.eqvAll]
  | n :: ns, m :: ms => by
    rw [List.map_cons, List.map_cons, PySem.W.eqv_all_cons, eqv_ints ns ms]
    exact Bool.eq_iff_iff.mpr (by simp [PyData.eqv])
theorem depth_ints : ∀ ns : List Int, PyData.depthAll (ns.map PyData.int) = 0
  | [] => rfl
  | n :: ns => by rw [List.map_cons, PyData.depthAll, depth_ints ns]; rfl
theorem lex_rst (hu : A.units + 4 < cLine) {r r' : List Value} {m m' : Rst} (h1 : IsR s.heap r m) (h2 : IsR s.heap r' m') (hf : fits m m' = true) (fin : Bool) (hfin : fin = decide (r.length + 1 < r'.length + 1)) :
    PySem.W.KatLex prog w A true fin (fun c s' => s' = s ∧ c = ltL m.key m'.key) (r.zip r') 1 s := by
  subst hfin
  cases h1 with
  | one =>
    cases h2 with
    | one => exact PySem.W.kat_nil ⟨rfl, rfl⟩
    | num j u => exact PySem.W.kat_nil ⟨rfl, rfl⟩
    | tup a b => exact PySem.W.kat_nil ⟨rfl, rfl⟩
  | num i t =>
    cases h2 with
    | one => exact PySem.W.kat_nil ⟨rfl, rfl⟩
    | tup a b => simp [fits] at hf
    | num j u =>
      refine PySem.W.kat_cons (SeqAt.EqAt.int_int i t j u prog w _ _ ?_)
      refine PySem.W.kat_go (fun e1 => ?_) (fun e1 => ?_)
      · have ex : i = j := by simpa using e1
        refine PySem.W.kat_yes (PySem.W.kat_nil ⟨rfl, ?_⟩)
        show _ = ltL [0, i] [0, j]
        rw [ltL_yes rfl, ltL_yes ex]; rfl
      · have ex : ¬ i = j := by simpa using e1
        refine PySem.W.kat_no (PySem.W.kat_one _ _ (PyProof.Rows.lt_int (show s = s ∧ decide (i < j) = ltL [0, i] [0, j] from ⟨rfl, ?_⟩)))
        rw [ltL_yes rfl, ltL_no ex]
  | tup a b =>
    cases h2 with
    | one => exact PySem.W.kat_nil ⟨rfl, rfl⟩
    | num j u => simp [fits] at hf
    | tup a' b' =>
      rename_i p xs ns p' ys ms
      obtain ⟨o, e, c, nn, d⟩ := id a
      obtain ⟨o', e', c', nn', d'⟩ := id a'
      have ra : Reads s.heap (.ref p) (.tuple (ns.map PyData.int)) [] := .tuple e c d (reads_ints b)
      have rb : Reads s.heap (.ref p') (.tuple (ms.map PyData.int)) [] := .tuple e' c' d' (reads_ints b')
      have q := PySem.W.eqAt_alike _ _ A s _ _ _ _ ra rb (by simp [PySem.W.alike, alike_ints]) (by
        have : min (PyData.depth (.tuple (ns.map PyData.int))) (PyData.depth (.tuple (ms.map PyData.int))) ≤ 1 := by
          rw [PyData.depth, depth_ints]; exact Nat.min_le_left _ _
        omega)
      have ev : PyData.eqv (.tuple (ns.map PyData.int)) (.tuple (ms.map PyData.int)) = decide (ns = ms) := by rw [← eqv_ints]; rfl
      rw [ev] at q
      refine PySem.W.kat_cons (q prog w _ _ ?_)
      refine PySem.W.kat_go (fun e1 => ?_) (fun e1 => ?_)
      · have ex : ns = ms := of_decide_eq_true e1
        refine PySem.W.kat_yes (PySem.W.kat_nil ⟨rfl, ?_⟩)
        show _ = ltL (1 :: ns) (1 :: ms)
        rw [ltL_yes rfl, ex]
        cases hz : ltL ms ms with
        | false => exact decide_eq_false (by simp)
        | true => exact absurd (ltL_asym hz) (by rw [hz]; decide)
      · refine PySem.W.kat_no (PySem.W.kat_one _ _ (HT.lt_tupInts a a' b b' (by omega) (show s = s ∧ HT.lexLt ns ms = ltL (1 :: ns) (1 :: ms) from ⟨rfl, ?_⟩)))
        rw [ltL_yes rfl, lexLt_ltL]
theorem lex_msg (hu : A.units + 4 < cLine) {v v' : Value} {m m' : Msg} (h1 : IsM s.heap v m) (h2 : IsM s.heap v' m') (hf : compat m m' = true) :
    wpAny (model prog w) A (keyLt' (tuples' true) v v') (fun c s' => s' = s ∧ c = ltL (key m) (key m')) E s := by
  obtain ⟨a, o, xs, n, t, r, rfl, ho, hc, hd, hx, i1⟩ := h1
  obtain ⟨a', o', xs', n', t', r', rfl, ho', hc', hd', hx', i2⟩ := h2
  refine PySem.W.kat_lt ho hd ho' hd' ?_
  have e1 : xs.size = r.length + 1 := by rw [← Array.length_toList, hx]; rfl
  have e2 : xs'.size = r'.length + 1 := by rw [← Array.length_toList, hx']; rfl
  rw [hx, hx', e1, e2, List.zip_cons_cons]
  refine PySem.W.kat_cons (SeqAt.EqAt.str_str m.1 t m'.1 t' prog w _ _ ?_)
  refine PySem.W.kat_go (fun e1 => ?_) (fun e1 => ?_)
  · have ex : m.1 = m'.1 := by simpa using e1
    refine PySem.W.kat_yes ?_
    have hf2 : fits m.2 m'.2 = true := by
      unfold compat at hf
      rw [ex] at hf
      simpa using hf
    have ek : ltL (key m) (key m') = ltL m.2.key m'.2.key := by
      unfold key
      rw [enc_lt, ex, if_pos rfl]
    rw [ek]
    exact lex_rst hu i1 i2 hf2 _ rfl
  · have ex : ¬ m.1 = m'.1 := by simpa using e1
    have ek : ltL (key m) (key m') = decide (m.1.cps.toList < m'.1.cps.toList) := by
      unfold key
      rw [enc_lt, if_neg fun z => ex (PySem.W.str_of_cps z)]
    rw [ek]
    exact PySem.W.kat_no (PyProof.Rows.oneLt_str (show s = s ∧ _ = _ from ⟨rfl, rfl⟩))
theorem swo_M (k : Value → List Int) : SrtO.Swo fun v u => ltL (k v) (k u) := SX.swo_L k
theorem msg_firsts {k : Value → Msg} : ∀ {vs : List Value} {h : Heap}, (∀ v ∈ vs, IsM h v (k v)) → ∃ fs, PySem.W.KatTups h vs fs ∧ fs.length = vs.length ∧ ∀ f ∈ fs, ∃ x t, f = Value.str x t
  | [], h, _ => ⟨[], .nil, rfl, fun _ z => by cases z⟩
  | v :: vs, h, hp => by
    obtain ⟨fs, h1, h2, h3⟩ := msg_firsts (vs := vs) fun u hu => hp u (List.mem_cons_of_mem _ hu)
    obtain ⟨a, o, xs, n, t, r, e, ho, hc, hd, hx, i⟩ := hp v List.mem_cons_self
    subst e
    refine ⟨Value.str (k (.ref a)).1 t :: fs, .cons ho hc hd (by rw [← Array.getElem?_toList, hx]; rfl) h1, by simp [h2], fun g hg => ?_⟩
    rcases List.mem_cons.mp hg with rfl | hg
    · exact ⟨_, t, rfl⟩
    · exact h3 g hg
theorem msg_sortable (hu : A.units + 4 < cLine) {a : Addr} {vs : List Value} {k : Value → Msg} (h0 : 0 < vs.length) (hp : ∀ v ∈ vs, IsM s.heap v (k v)) (hf : ∀ v ∈ vs, ∀ u ∈ vs, compat (k v) (k u) = true) (ha : ∀ o, s.heap.get? a = some o → o.cls ≠ .type "tuple") : SrtO.SortableO prog w A s a vs fun v u => ltL (key (k v)) (key (k u)) := by
  intro h' keep
  have hp' : ∀ v ∈ vs, IsM h' v (k v) := fun v hm => (hp v hm).keeps fun b o e c => keep b o (fun z => by subst z; exact ha o e c) e
  obtain ⟨fs, h1, h2, h3⟩ := msg_firsts hp'
  refine ⟨tuples' true, fun Q E hq => ?_, fun p q hm hm' => ?_⟩
  · refine PySem.W.kat_kind (T := .type "str") h1 (by omega) (fun f hm => ?_) (by rfl) ?_
    · obtain ⟨x, t, rfl⟩ := h3 f hm
      exact PySem.W.Looks.now
    · have e : (Value.type "str" != Value.type "tuple") = true := by first | decide +kernel | rfl | decide
      rw [e]
      exact hq
  · exact lex_msg (s := { s with heap := h' }) hu (hp' _ hm) (hp' _ hm') (hf _ hm _ hm')
end
end SM
namespace AB
open PySem PySem.Spec PyProof.Rows L2 SM
def rstA : Rst → List A
  | .one => []
  | .num i => [.int i]
  | .tup ns => [.tup (ns.map A.int)]
def msgA (m : Msg) : A := .tup (.str m.1 :: rstA m.2)
def rst? : List A → Option Rst
  | [] => some .one
  | [.int i] => some (.num i)
  | [.tup xs] => (ints? xs).map .tup
  | _ => none
def msgs? : List A → Option (List Msg)
  | [] => some []
  | .tup (.str w :: r) :: q => match rst? r, msgs? q with
    | some m, some l => some ((w, m) :: l)
    | _, _ => none
  | _ :: _ => none
theorem rst_of {r : List A} {m : Rst} (e : rst? r = some m) : r = rstA m := by
  unfold rst? at e
  split at e
  · cases e; rfl
  · cases e; rfl
  · rename_i xs
    cases e1 : ints? xs with
    | none => rw [e1] at e; cases e
    | some is => rw [e1] at e; cases e; rw [ints_of e1]; rfl
  · cases e
theorem msgs_of : ∀ {as : List A} {q : List Msg}, msgs? as = some q → as = q.map msgA
  | [], q, e => by cases e; rfl
  | a :: as, q, e => by
    unfold msgs? at e
    split at e
    · rename_i h; cases h
    · rename_i w r q' h
      cases h
      split at e
      · rename_i m l e1 e2
        cases e
        rw [List.map_cons, ← msgs_of e2, msgA, rst_of e1]
      · cases e
    · cases e
/-- sorted: whole numbers' tuples, messages, at most one thing -/
def oSortM : On := fun as M => match as with
  | [.lst l] => match listAt M l with
    | some xs => match tups? xs with
      | some q => some (.lst M.length, M ++ [.lst ((SX.sortL q).map tupI)])
      | none => match msgs? xs with
        | some q => if q.all (fun m => q.all fun m' => compat m m') = true then some (.lst M.length, M ++ [.lst ((sortM q).map msgA)]) else none
        | none => none
    | none => none
  | _ => none
/-- the message that a tracked tuple holds -/
def mOf (H : Hp) : Value → Msg
  | .ref a => match H a with
    | some (.tup [.str w]) => (w, .one)
    | some (.tup [.str w, .int i]) => (w, .num i)
    | some (.tup [.str w, .ref b]) => match H b with
      | some (.tup vs) => (w, .tup (vs.filterMap fun v => match v with
        | .int i => some i
        | _ => none))
      | _ => (w, .one)
    | _ => (⟨#[]⟩, .one)
  | _ => (⟨#[]⟩, .one)
theorem ints_filter (ns : List Int) : (ns.map V.int).filterMap (fun v => match v with
        | .int i => some i
        | _ => none) = ns := by
  induction ns with
  | nil => rfl
  | cons n ns ih => simp [ih]
theorem msgA_is {ρ : List Addr} {H : Hp} {m : Msg} {v : V} (i : Is ρ H (msgA m) v) : ∃ a, v = .ref a ∧ mOf H (.ref a) = m ∧ ∃ r, H a = some (.tup (.str m.1 :: r)) ∧ (∀ hp P w, HOk P w H hp → ∀ u, Vals r u → IsR hp u m.2) := by
  obtain ⟨w, r⟩ := m
  unfold msgA at i
  cases i with
  | tup h is =>
    rename_i a vs
    refine ⟨a, rfl, ?_⟩
    cases is with
    | cons i1 is =>
      cases i1
      cases r with
      | one =>
        cases is
        exact ⟨by simp [mOf, h], [], h, fun hp P w' ok u r => by cases r; exact .one⟩
      | num j =>
        cases is with
        | cons i2 is =>
          cases is; cases i2
          refine ⟨by simp [mOf, h], _, h, fun hp P w' ok u r => ?_⟩
          cases r with
          | cons r1 r2 => cases r2; obtain ⟨t, rfl⟩ := r1; exact .num j t
      | tup ns =>
        cases is with
        | cons i2 is =>
          cases is
          cases i2 with
          | tup hb ib =>
            rw [IsAll.ints ib] at hb
            refine ⟨by simp only [mOf, h, hb, ints_filter], _, h, fun hp P w' ok u r => ?_⟩
            cases r with
            | cons r1 r2 =>
              cases r2; cases r1
              obtain ⟨_, tv, trv, it⟩ := ok _ _ hb
              exact .tup it (by simpa using intsAre_of trv)
section
variable {X : Cx}
theorem cr_sortM (hu : X.A.units + 64 < cLine) : CallR X (.builtin "sorted") (rn (X.am Tb) oSortM) := by
  intro pins s σ H xs us Q I r h
  obtain ⟨as, M, ρ, is, m, ro⟩ := h
  unfold oSortM at ro
  split at ro
  · rename_i l
    split at ro
    · rename_i ys el
      split at ro
      · rename_i q eq
        refine cr_sortedTI pins s σ H xs us Q I r ⟨_, M, ρ, is, m, ?_⟩
        unfold oSorted
        simp only [el, eq]
        exact ro
      · split at ro
        · rename_i q eq
          split at ro
          · rename_i hcomp
            cases is with
            | cons i1 is =>
              cases is
              cases i1 with
              | lst hl =>
                have e0 := msgs_of eq
                subst e0
                obtain ⟨vs, hs, iv⟩ := m.list hl el
                obtain ⟨its, rv, hL, hz⟩ := I.list hs
                rw [Vals.ref1 r]
                have items : ∀ (q : List Msg) (vs : List V) (its : List Value), IsAll ρ H (q.map msgA) vs → Vals vs its → its.map (mOf H) = q ∧ ∀ u ∈ its, IsM s.heap u (mOf H u) ∧ ∃ v, RelV v u ∧ Is ρ H (msgA (mOf H u)) v := by
                  intro q
                  induction q with
                  | nil => intro vs its i r; cases i; cases r; exact ⟨rfl, fun _ z => (by cases z)⟩
                  | cons n q ih =>
                    intro vs its i r
                    cases i with
                    | cons i1 i2 =>
                      cases r with
                      | cons r1 r2 =>
                        obtain ⟨a2, a3⟩ := ih _ _ i2 r2
                        obtain ⟨a, rfl, em, r0, ha, hr⟩ := msgA_is i1
                        cases r1
                        refine ⟨by rw [List.map_cons, em, a2], fun u hu => ?_⟩
                        rcases List.mem_cons.mp hu with rfl | hu
                        · refine ⟨?_, V.ref a, (show RelV (V.ref a) (Value.ref a) from rfl), by rw [em]; exact i1⟩
                          rw [em]
                          obtain ⟨_, tv, trv, o, h1, h2, nn, h3⟩ := I.hok _ _ ha
                          cases trv with
                          | cons t1 t2 =>
                            obtain ⟨t, rfl⟩ := t1
                            exact ⟨a, o, _, nn, t, _, rfl, h1, h2, h3, rfl, hr _ _ _ I.hok _ t2⟩
                        · exact a3 u hu
                obtain ⟨hk, hp⟩ := items q vs its iv rv
                have hall : ∀ v ∈ its, ∀ u ∈ its, compat (mOf H v) (mOf H u) = true := by
                  intro v hv u hu
                  have h1 := List.all_eq_true.mp hcomp (mOf H v) (by rw [← hk]; exact List.mem_map_of_mem hv)
                  exact List.all_eq_true.mp h1 (mOf H u) (by rw [← hk]; exact List.mem_map_of_mem hu)
                refine SrtO.sorted_ord (SM.swo_M fun v => key (mOf H v)) hL.isList (by rw [← rv.length]; exact hz) (fun h2 h₁ a' ha kk => ?_) fun out h1 h2 => ?_
                · refine SM.msg_sortable (s := { s with heap := h₁ }) (by show X.A.units + 1 + 1 + 4 < cLine; omega) (by omega) (fun v hm => (hp v hm).1.keeps fun b o e _ => (kk b o e).2) hall fun o e => ?_
                  have e' : some o = some (seqObj "list" its.toArray 0) := e.symm.trans ha
                  cases e'
                  intro c
                  exact absurd (Value.type.inj c) (by decide)
                · obtain ⟨ep, he'⟩ := PyProof.Rows.sortedAll_at s.heap its out.toArray
                  have outs : ∀ (l : List Value), (∀ u ∈ l, u ∈ its) → ∃ vs : List V, Vals vs l ∧ IsAll ρ H ((l.map (mOf H)).map msgA) vs := by
                    intro l
                    induction l with
                    | nil => intro _; exact ⟨[], .nil, .nil⟩
                    | cons u l ih =>
                      intro hm
                      obtain ⟨vs, v1, v2⟩ := ih fun x hx => hm x (List.mem_cons_of_mem _ hx)
                      obtain ⟨_, v, rv', iv'⟩ := hp u (hm u List.mem_cons_self)
                      exact ⟨v :: vs, .cons rv' v1, .cons iv' v2⟩
                  obtain ⟨ws, w1, w2⟩ := outs out fun u hu => h2.perm.mem_iff.mp hu
                  have esort : out.map (mOf H) = sortM q := by
                    refine map_inj (fun _ _ => key_inj) ?_
                    rw [sort_key]
                    refine SX.up_unique ?_ (SX.sortL_up _) ?_
                    · rw [List.map_map]; exact List.pairwise_map.mpr h1
                    · have := (h2.perm.map (mOf H)).map key
                      rw [hk] at this
                      exact this.trans (SX.sortL_perm _).symm
                  rw [esort] at w2
                  have hlen : ws.length ≤ sizeLine := by
                    rw [w1.length, h2.perm.length_eq, ← rv.length]; exact hz
                  have hnew : H (s.heap.objs.size + 1) = none := I.hok.fresh (Nat.le_succ _)
                  exact ⟨.ref _, upd H (s.heap.objs.size + 1) (.lst ws), I.laid (t' := s.toks) (fun _ _ => PyProof.Rows.sortedAll_old) (Nat.le_succ _) ⟨hlen, out, ep, w1, he'⟩, rfl, ro.newL m w2 hnew⟩
          · exact ro.elim
        · exact ro.elim
    · exact ro.elim
  · exact ro.elim
end
end AB
/-! AB18: displays of several keys; the place of data in a list; orders -/
namespace AB
open PySem PySem.Spec PyProof.Rows L2
section
variable {X : Cx} {W : WR} {pos : Pos} {e : Expr} {f : EF} {fs : EFs}
/-! ### {k: v, ..} -/
/-! ### l.index(x), data -/
/-! ### for .. in permutations(range(n)) -/
end
end AB
/-! AB19: dicts whose keys are tuples of anything: d[k], {k: v for ..} -/
namespace AB
open PySem PySem.Spec PyProof.Rows L2
section
variable {X : Cx} {W : WR} {pos : Pos} {a b : Expr} {f g : EF} {pins : List (Addr × Obj)} {σ : L2.St} {H : Hp} {s : Shared} {ρ : List Addr} {M M' : Store} {E : Value → Shared → Prop}
/-! ### d[k] -/
def oNget : O2 := fun x k M => match x with
  | .dct d => match M[d]?, nkey? k with
    | some (.dN kvs), some (.tup js) => if (NestedKey.tup js).depth ≤ 8 then (valA kvs (.tup js)).map fun v => (v, M) else none
    | _, _ => none
  | _ => none
theorem n_get {d : Nat} {p : Addr} {kvs : List (NestedKey × A)} {js : List NestedKey} {kb : Addr} {v : A} {Q : Value → Shared → Prop} (hu : X.A.units + 9 < cLine) (I : L2.Inv X pins σ H s) (m : RM (X.am W.Tb) ρ H M) (hp : ρ[d]? = some p) (hc : M[d]? = some (.dN kvs))
    (ik : Is ρ H (ofN (.tup js)) (.ref kb)) (hd : (NestedKey.tup js).depth ≤ 8) (hv : valA kvs (.tup js) = some v) (q : ∀ u s' y, L2.Inv X pins σ H s' → Is ρ H v y → RelV y u → Q u s') :
    s.TypeIs (.ref p) "dict" ∧ wpAny (model X.prog X.w) X.A (getItem (.ref p) (.ref kb)) Q E s := by
  obtain ⟨bs, vs, us', hh, iks, ivs, dp, rv, l1, l3, hsz, hsm, hnd, D⟩ := nest_dict I m hp hc
  have keyIs : (nestedKind X.prog X.w).is s.heap (.tup js) kb := ⟨nested_of I.hok _ _ _ ik rfl, hd⟩
  rcases rowsN_at (k := .tup js) l1 ivs rv with ⟨e1, _⟩ | ⟨z, zv, b', u', e1, e2, iz, rz⟩
  · rw [hv] at e1; cases e1
  · rw [hv] at e1; cases e1
    refine ⟨D.typeIs, wpAny_getItem_heap (by show X.A.units + 1 + 8 < cLine; omega) keyIs D e2 (q _ _ _ (I.tok _) iz rz)⟩
theorem ae_nget (hu : X.A.units + 9 < cLine) (ha : AE X W a f) (hb : AE X W b g) (hs : NoSl b := by intro _ _; rfl) : AE X W (.Subscript a b pos) (eOp oNget f g) := ⟨fun pins s σ H Q I h => by
  have h := op_tK h
  refine subD_of PySem.F.slot_dict_getitem.lookup hs (thn (ha.run pins s σ H _ I h) fun u s1 ⟨x, H1, I1, rx, q1⟩ => thn (hb.run pins s1 σ H1 _ I1 q1) fun iv s2 ⟨y, H2, I2, ry, c, k, M, ρ, ic, ik, m, ro⟩ => ?_)
  unfold oNget at ro
  cases c with
  | dct d =>
    dsimp only at ro
    split at ro
    · rename_i kvs js ec ek
      split at ro
      · rename_i hd
        cases ev : valA kvs (.tup js) with
        | none => rw [ev] at ro; exact ro.elim
        | some v =>
          rw [ev] at ro
          cases ic with
          | dct hp =>
            cases rx
            have ik : Is ρ H2 (ofN (.tup js)) y := by rw [nkey_of _ _ ek]; exact ik
            obtain ⟨kb, rfl⟩ : ∃ kb, y = .ref kb := by simp only [ofN] at ik; cases ik with | tup h1 h2 => exact ⟨_, rfl⟩
            cases ry
            exact n_get hu I2 m hp ec ik hd ev fun u s' y I' iy ry => ⟨y, H2, I', ry, RO.val (ρ := ρ) (M := M) ro m iy⟩
      · exact ro.elim
    · exact ro.elim
  | _ => exact ro.elim⟩
/-! ### d[k] = v, a new key -/
/-! ### {k: v for .. in ..} -/
theorem sw_trueD {kx vx : Expr} {gs : List Comprehension} {scope : Scope} {pos py : Pos} {y : Str} {l : Nat} {env : Env} (hk : env.scope.kind = .function) (hy : env.scope.names.lookup y = some .local) (hl : (py.line == pos.line) = true)
    (ha : (scope.names.any fun (n, k) => n == y && (k == .local || k == .cell)) = false) : swapsWith (.DictComp kx vx gs scope pos) (some (.Name y py)) l env = pure true := by
  have k1 : env.kindOf y = some .local := hy
  have k2 : env.blockKind = .function := by unfold Env.blockKind; rw [hk]; rfl
  unfold swapsWith
  simp only [k2, k1, ha, Expr.pos, hl]
  rfl
end
end AB
/-! AB20: enumerate(t, start=k), t a tuple -/
namespace EK
open PySem PySem.Spec PyProof.Rows L2
end EK
namespace AB
open PySem PySem.Spec PyProof.Rows L2
section
variable {X : Cx} {W : WR} {pos : Pos} {e v : Expr} {f g : EF}
end
end AB
/-! AB21: len(set(..)) of a list or a tuple of ints -/
namespace AB
open PySem PySem.Spec PyProof.Rows L2
def dd : List Int → List Int
  | [] => []
  | x :: xs => if x ∈ xs then dd xs else x :: dd xs
theorem mem_dd {y : Int} : ∀ {xs : List Int}, y ∈ dd xs ↔ y ∈ xs
  | [] => Iff.rfl
  | x :: xs => by
    unfold dd
    by_cases h : x ∈ xs
    · rw [if_pos h, mem_dd, List.mem_cons]
      exact ⟨.inr, fun z => z.elim (fun e => by rw [e]; exact h) id⟩
    · rw [if_neg h, List.mem_cons, List.mem_cons, mem_dd]
theorem nodup_dd : ∀ xs : List Int, (dd xs).Nodup
  | [] => List.nodup_nil
  | x :: xs => by
    unfold dd
    by_cases h : x ∈ xs
    · rw [if_pos h]; exact nodup_dd xs
    · rw [if_neg h]; exact List.nodup_cons.mpr ⟨fun z => h (mem_dd.mp z), nodup_dd xs⟩
theorem len_le_of_sub : ∀ {xs ys : List Int}, xs.Nodup → (∀ y ∈ xs, y ∈ ys) → xs.length ≤ ys.length
  | [], _, _, _ => Nat.zero_le _
  | x :: xs, ys, h, s => by
    obtain ⟨h1, h2⟩ := List.nodup_cons.mp h
    have hx : x ∈ ys := s x List.mem_cons_self
    have := len_le_of_sub (ys := ys.erase x) h2 fun y hy => (List.mem_erase_of_ne (show y ≠ x from fun e => h1 (by rw [← e]; exact hy))).mpr (s y (List.mem_cons_of_mem _ hy))
    rw [List.length_erase_of_mem hx] at this
    have := List.length_pos_of_mem hx
    simp only [List.length_cons]; omega
theorem len_dd {xs ys : List Int} (h : ys.Nodup) (m : ∀ y, y ∈ xs ↔ y ∈ ys) : (dd xs).length = ys.length :=
  Nat.le_antisymm (len_le_of_sub (nodup_dd xs) fun y hy => (m y).mp (mem_dd.mp hy)) (len_le_of_sub h fun y hy => mem_dd.mpr ((m y).mpr hy))
section
variable {X : Cx} {W : WR} {pos : Pos} {a : Expr} {f : EF}
def oLenSetX : O1 := fun x M => match x with
  | .lst l => match listAt M l with
    | some xs => match ints? xs with
      | some is => if is.length ≤ 4000 then some (.int ((dedup is).length : Nat), M) else none
      | none => none
    | none => none
  | .tup xs => match ints? xs with
    | some is => if is.length ≤ 4000 then some (.int ((dd is).length : Nat), M) else none
    | none => none
  | _ => none
theorem ae_lenSetX {p p2 q : Pos} (hm : X.mg "len" = none) (hm2 : X.mg "set" = none) (ha : AE X W a f) (hc : X.calm = true := by rfl) (hg : Gl X "len" := by rfl) (hg2 : Gl X "set" := by rfl)
    (na : starEach [a] X.env = (false, eval a X.env) :: starEach [] X.env := by rfl) : AE X W (.Call (.Name "len" p) [.Call (.Name "set" p2) [a] [] q] [] pos) (eUn oLenSetX f) := by
  refine ⟨fun pins s σ H Q I h => ?_⟩
  have h2 := seqG (G := (X.gx W.Tb)) (W := W) Is h
  refine Call_ (ld_blt I hg hm boot_len ?_)
  refine PyProof.Rows.callWith_builtin1 (PyProof.Rows.args_cons ?_ rfl) rfl rfl
  refine Call_ (ld_blt I hg2 hm2 boot_set ?_)
  refine PyProof.Rows.callWith_type1 (PyProof.Rows.args_cons (thn (ha.run pins s σ H _ I h2) fun v s1 ⟨x, H1, I1, r1, q1⟩ => PyProof.Rows.args_nil ?_) na) na rfl
  obtain ⟨τ, M, ρ, y, rs, rm', i, r⟩ := q1
  have ro : RO (X.am W.Tb) ρ H1 (oLenSetX y M) Q := RO.of r
  unfold oLenSetX at ro
  cases i with
  | lst hl =>
    dsimp only at ro
    split at ro
    · rename_i xs el
      split at ro
      · rename_i is ei
        split at ro
        · rename_i hz4
          obtain ⟨vs, hq, iv⟩ := rm'.list hl el
          rw [ints_of ei] at iv
          rw [iv.ints] at hq
          cases r1
          obtain ⟨its, r, pl, hz⟩ := I1.list hq
          have hlen : its.toArray.size = is.length := by rw [List.size_toArray, ← r.length, List.length_map]
          refine call_set_list (ns := is) (I1.ok.hd hc) pl.isList (by simpa using intsAre_of r) (by rw [hlen]; unfold scanBound; omega) fun h' tk hS hk => ?_
          refine PyProof.Rows.args_nil ?_
          rw [hlen, firstMet_all] at hS
          obtain ⟨o, es, ep, t, ho, hex, hd, _, _, _, hf, hn⟩ := hS
          have I2 : L2.Inv X pins σ H1 { s1 with heap := h', toks := tk } := I1.kept fun b o e => hk b o (Heap.lt_size e) e
          have hdl : (dedup is).length ≤ is.length := by rw [← firstMet_all]; exact PyProof.Rows.firstMet_length_le _ _
          exact call_len_set ho hex hd hf (by rw [hn] <;> omega) ⟨.int (dedup is).length, H1, I2.tok _, ⟨_, by rw [hn]⟩, ro.val rm' (.int _)⟩
        · exact ro.elim
      · exact ro.elim
    · exact ro.elim
  | tup ht it =>
    rename_i ad ts0 vs0
    dsimp only at ro
    split at ro
    · rename_i is ei
      split at ro
      · rename_i hz4
        rw [ints_of ei] at it
        have ht : H1 ad = some (.tup (is.map V.int)) := by rw [it.ints] at ht; exact ht
        cases r1
        obtain ⟨its, r, pl, hz⟩ := I1.tuple (show SqT X.K H1 ad (is.map V.int) from .inl (.inl ht))
        refine L2.call_set_tupI is (I1.ok.hd hc) (show s1.heap.IsTuple _ its.toArray from pl) (by simpa using intsAre_of r) (by unfold scanBound; omega) fun h' tk c R hc' hk => ?_
        refine PyProof.Rows.args_nil ?_
        obtain ⟨o, es, ep, t, ho, hex, hd, hge, hnd, hmem, _, hf, hn, _⟩ := R
        have I2 : L2.Inv X pins σ H1 { s1 with heap := h', toks := tk } := I1.kept fun b o e => hk b o e
        have hl : (dd is).length = es.size := by
          rw [len_dd hnd fun y => ?_]
          · simp
          · rw [← hmem y]; simp
        refine call_len_set ho hex hd hf (by rw [hn]; omega) ⟨.int (dd is).length, H1, I2.tok _, ⟨_, by rw [hl]⟩, ro.val rm' (.int _)⟩
      · exact ro.elim
    · exact ro.elim
  | _ => exact ro.elim
end
end AB
/-! AB22: backward steps for AB16 to AB21 -/
namespace AB
open PySem PySem.Spec PyProof.Rows L2
section
variable {α β : Type} {τ : Sl} {M : Store} {Q : A → Store → Prop} {Qs : List A → Store → Prop} {Qb : Bool → Store → Prop} {N : Sl → Store → Prop} {R : A → Store → Prop} {P : Src → Store → Prop} {Pk : List Str → Store → Prop}
end
end AB
local macro_rules | `(tactic| walk_at "wt") => `(tactic| first
  | walk_at "ws" | with_reducible refine AB.w_kC ?_ | with_reducible refine AB.w_kIx ?_ | with_reducible refine AB.w_inK ?_ | with_reducible refine AB.w_inT ?_ | with_reducible refine AB.w_iK ?_ | with_reducible refine AB.w_iPerm ?_ | with_reducible refine AB.w_enumK ?_ | with_reducible refine AB.w_pNil ?_ | with_reducible refine AB.w_pCons ?_ | with_reducible refine AB.w_dispN ?_ | with_reducible refine AB.w_get2 ?_)
/-! AB23: xs[::-1] of a list -/
namespace AB
open PySem PySem.Spec PyProof.Rows L2
section
variable {X : Cx} {W : WR} {pos : Pos} {a : Expr} {f : EF}
end
end AB
/-! AB24: {k for .. in ..}, ints; its len -/
namespace AB
open PySem PySem.Spec PyProof.Rows L2
section
variable {X : Cx} {W : WR} {pos : Pos} {pins : List (Addr × Obj)} {σ : L2.St} {H : Hp} {s : Shared} {ρ : List Addr} {M M' : Store} {E : Value → Shared → Prop}
end
end AB
/-! AB25: t[::-1] of a list or a tuple -/
namespace AB
open PySem PySem.Spec PyProof.Rows L2
section
variable {prog : Program} {w : World} {Ar : Around} {E : Value → Shared → Prop} {s : Shared}
end
/-! ### x[::-1] -/
section
variable {X : Cx} {W : WR} {pos : Pos} {a : Expr} {f : EF}
end
end AB
/-! AB26: backward steps for set comprehensions -/
namespace AB
open PySem PySem.Spec PyProof.Rows L2
section
variable {τ : Sl} {M : Store} {Q : A → Store → Prop}
end
end AB
/-! AB27: lambdas handed to a def and called there -/
namespace AB
open PySem PySem.Spec PyProof.Rows L2
/-! ### a lambda's names: its parameters, captured ones, globals -/
structure LamP (sc scope : Scope) (ps : List Str) : Prop where
  kind : scope.kind = .function
  co : scope.isCoroutine = false
  gen : scope.isGenerator = false
  cell : ∀ y ∈ scope.names, y.2 ≠ .cell
  own : ∀ y ∈ scope.names, y.2 = .local → y.1 ∈ ps
  par : ∀ x ∈ ps, scope.names.lookup x = some .local
  nd : ps.Nodup
  free : ∀ y ∈ scope.names, y.2 = .free → sc.names.lookup y.1 = some .cell ∨ sc.names.lookup y.1 = some .free
def lamPB (sc scope : Scope) (ps : List Str) : Bool :=
  decide (scope.kind = .function) && !scope.isCoroutine && !scope.isGenerator && (scope.names.all fun y => !decide (y.2 = .cell) && (!decide (y.2 = .local) || decide (y.1 ∈ ps)) && (!decide (y.2 = .free) || decide (sc.names.lookup y.1 = some .cell) || decide (sc.names.lookup y.1 = some .free))) &&
    (ps.all fun x => decide (scope.names.lookup x = some .local)) && decide ps.Nodup
theorem lamP_by {sc scope : Scope} {ps : List Str} (h : lamPB sc scope ps = true) : LamP sc scope ps := by
  unfold lamPB at h
  simp only [Bool.and_eq_true, Bool.or_eq_true, Bool.not_eq_true', decide_eq_true_eq, decide_eq_false_iff_not, List.all_eq_true] at h
  obtain ⟨⟨⟨⟨⟨h1, h2⟩, h3⟩, h4⟩, h5⟩, h6⟩ := h
  refine ⟨h1, h2, h3, fun y hy => (h4 y hy).1.1, fun y hy e => ?_, h5, h6, fun y hy e => ?_⟩
  · rcases (h4 y hy).1.2 with z | z
    · exact absurd e z
    · exact z
  · rcases (h4 y hy).2 with (z | z) | z
    · exact absurd e z
    · exact .inl z
    · exact .inr z
theorem LamP.has {X : Cx} {scope : Scope} {ps : List Str} (L : LamP X.env.scope scope ps) (ok : X.Ok) : ∀ y ∈ scope.names, y.2 = .free → ∃ c, X.env.cells.lookup y.1 = some c := fun y hy e => by
  rcases L.free y hy e with k | k
  · exact ok.has _ (.inl k)
  · exact ok.has _ (.inr k)
/-- the context of the lambda's body -/
abbrev lamCxP (X : Cx) (A : Around) (outer : List Env) (s : Shared) (H : Hp) (E : XK) (scope : Scope) (f c' : Addr) (ps : List Str) : Cx := { LamX.lamCx X A outer s H E scope f c' with N := X.N ++ ps }
/-- the lambda's object as it stands -/
def LamAt (X : Cx) (s : Shared) (H : Hp) (params : Arguments) (body : Expr) (scope : Scope) (f c' : Addr) (pm ctv : Value) : Prop :=
  s.heap.get? f = some (PySem.W.kla_obj "<lambda>" (X.env.qual ++ "<lambda>") params body scope (cloFrom X.env.cells scope.names []) pm c' ctv) ∧ H f = none ∧ f ∉ frs X.stack ∧ H c' = some (LamX.CodeO c' (X.env.qual ++ "<lambda>"))
section
variable {X : Cx} {pins : List (Addr × Obj)} {σ : L2.St} {H HZ : Hp} {s s1 : Shared}
theorem mem_reverse_lookup {ps : List Str} {us : List Value} (nd : ps.Nodup) (hl : us.length = ps.length) {i : Nat} {x : Str} {u : Value} (h1 : ps[i]? = some x) (h2 : us[i]? = some u) : (ps.zip us).reverse.lookup x = some u := by
  have hnd : ((ps.zip us).reverse.map (·.1)).Nodup := by
    rw [List.map_reverse, List.map_fst_zip (by omega)]
    exact (List.reverse_perm _).nodup_iff.mpr nd
  have hm : (x, u) ∈ (ps.zip us).reverse := by
    rw [List.mem_reverse]
    refine List.mem_of_getElem? (i := i) ?_
    rw [List.getElem?_zip_eq_some]
    exact ⟨h1, h2⟩
  generalize (ps.zip us).reverse = l at hnd hm
  induction l with
  | nil => cases hm
  | cons p l ih =>
    obtain ⟨y, z⟩ := p
    rw [List.map_cons, List.nodup_cons] at hnd
    rcases List.mem_cons.mp hm with e | e
    · cases e
      simp [List.lookup]
    · have ne : (x == y) = false := by
        rw [beq_eq_false_iff_ne]
        intro z'
        subst z'
        exact hnd.1 (List.mem_map.mpr ⟨_, e, rfl⟩)
      simp only [List.lookup, ne]
      exact ih hnd.2 e
/-- a captured name's cell is the maker's -/
theorem caught_of {cells : List (Str × Addr)} {names : List (Str × NameKind)} (all : ∀ y ∈ names, y.2 = .free → ∃ b, cells.lookup y.1 = some b) {z : Str} {b : Addr} (h : (cloFrom cells names []).lookup z = some b) : cells.lookup z = some b := by
  rcases cloFrom_mem (PySem.mem_of_lookup h) with none | ⟨isFree, eb⟩
  · exact absurd none List.not_mem_nil
  · obtain ⟨b', hb'⟩ := all _ isFree rfl
    have same : b = b' := by rw [eb, show cells.lookup z = some b' from hb']; rfl
    rw [same]
    exact hb'
/-- each captured name has one -/
theorem caught_has {cells : List (Str × Addr)} {names : List (Str × NameKind)} {z : Str} (h : names.lookup z = some .free) : ∃ b, (cloFrom cells names []).lookup z = some b :=
  mem_lookup (cloFrom_has (cells := cells) (acc := []) (PySem.mem_of_lookup h))
/-- the lambda's frame: its parameters, and what it captured as the maker left it -/
theorem lam_startP {A : Around} {outer : List Env} {E : XK} {scope : Scope} {f c' : Addr} {h₁ : Heap} {tk : Nat} {ps : List Str} {us : List Value} {vs : List V} (I : Inv X pins σ H s) (L : LamP X.env.scope scope ps) (e0 : Env0 X.prog X.w X.K X.mg X.base A outer s1 HZ) (hd : A.handled = none)
    (un : Un (frs X.stack) [] H HZ s.heap s1.heap) (hdis : ∀ x ∈ ps, x ∉ X.N) (hl : us.length = ps.length) (hv : Vals vs us) (hns : h₁.Ns s1.heap.objs.size fun y => (ps.zip us).reverse.lookup y) (kp : ∀ b o, s1.heap.get? b = some o → h₁.get? b = some o) :
    Inv (lamCxP X A outer s1 HZ E scope f c' ps) [] (σ ++ vs.map some) HZ { s1 with heap := h₁, toks := tk } := by
  have back : ∀ {z b}, (cloFrom X.env.cells scope.names []).lookup z = some b → X.env.cells.lookup z = some b := fun h => caught_of (L.has I.ok) h
  have still : ∀ {b : Addr} {v : Option Value}, H b = none → s.heap.IsCell b v → h₁.IsCell b v := fun {b v} untold ⟨ob, hob, hdat⟩ => by
    obtain ⟨slots, q⟩ := un.any hob untold (by simp)
    exact ⟨_, kp _ _ q, hdat⟩
  have nex : ∀ b : Addr, b ∉ (lamCxP X A outer s1 HZ E scope f c' ps).ex := fun b z => absurd (show b ∈ ([] : List Addr) from z) (by simp)
  have ok : (lamCxP X A outer s1 HZ E scope f c' ps).Ok :=
    { mod := e0.mod
      kind := L.kind
      glob := rfl
      blt := rfl
      above := Nat.le_refl _
      inj := fun y z b t1 t2 => I.ok.inj y z b (back t1) (back t2)
      has := fun y hy => by
        rcases (show scope.names.lookup y = some .cell ∨ scope.names.lookup y = some .free from hy) with t | t
        · exact absurd rfl (L.cell _ (PySem.mem_of_lookup t))
        · exact caught_has t
      cab := fun y b z _ => absurd (show false = true from z) (by simp)
      hd := fun _ => hd
      frames := Around.frames_deeper e0.frames
      stk := .inr ⟨rfl, rfl⟩
      exf := fun b z => absurd z (nex b)
      bs := e0.bs
      bsz := e0.bsz
      noex := fun b _ _ => nex b
      exfs := fun b z => absurd z (nex b)
      funs := e0.funs
      frf := e0.frf }
  have many : vs.length = ps.length := by rw [hv.length, hl]
  -- what a name that is seen holds
  have names : ∀ (i : Nat) (y : Str) (v : V), (X.N ++ ps)[i]? = some y → (σ ++ vs.map some)[i]? = some (some v) → Vis scope y →
      ∃ u, RelV v u ∧ Look (lamCxP X A outer s1 HZ E scope f c' ps).env h₁ (fun y => (ps.zip us).reverse.lookup y) y u := by
    intro i y v t1 t2 seen
    by_cases hi : i < X.N.length
    · -- one of the maker's
      rw [List.getElem?_append_left hi] at t1
      rw [List.getElem?_append_left (by rw [I.len]; exact hi)] at t2
      rcases seen with t | t | t
      · exact absurd (List.mem_of_getElem? t1) (hdis _ (L.own _ (PySem.mem_of_lookup t) rfl))
      · exact absurd rfl (L.cell _ (PySem.mem_of_lookup t))
      · have from_ := L.free _ (PySem.mem_of_lookup t) rfl
        obtain ⟨mm, _, told⟩ := I.loc
        obtain ⟨u, ru, how⟩ := told i y v t1 t2 (from_.elim (fun q => .inr (.inl q)) fun q => .inr (.inr q))
        obtain ⟨b, hb⟩ := caught_has (cells := X.env.cells) t
        have hb' := back hb
        refine ⟨u, ru, .inr ⟨.inr t, b, hb, ?_⟩⟩
        rcases how with ⟨loc, _⟩ | ⟨_, b2, hb2, isC⟩
        · have loc : X.env.scope.names.lookup y = some .local := loc
          rcases from_ with q | q
          · rw [show X.env.scope.names.lookup y = _ from q] at loc; cases loc
          · rw [show X.env.scope.names.lookup y = _ from q] at loc; cases loc
        · rw [hb'] at hb2
          cases hb2
          exact still (I.freeC y _ hb') isC
    · -- a parameter
      rw [List.getElem?_append_right (by omega)] at t1
      rw [List.getElem?_append_right (by rw [I.len]; omega), I.len, List.getElem?_map] at t2
      obtain ⟨v', hv', ev⟩ := Option.map_eq_some_iff.mp t2
      cases ev
      obtain ⟨u, hu, ru⟩ := hv.get hv'
      exact ⟨u, ru, .inl ⟨L.par _ (List.mem_of_getElem? t1), mem_reverse_lookup L.nd hl t1 hu⟩⟩
  exact
    { ok := ok
      os := rfl
      bare := e0.bare
      base := Un.kept kp
      loc := ⟨_, hns, names⟩
      cell := fun y b t => by
        obtain ⟨v, isC⟩ := I.cell y b (back t)
        exact ⟨v, still (I.freeC y b (back t)) isC⟩
      free := e0.hok.fresh (Nat.le_refl _)
      freeC := fun y b t => by
        obtain ⟨v, ob, hob, _⟩ := I.cell y b (back t)
        exact un.free b ob hob (I.freeC y b (back t)) (by simp)
      pin := fun q hq => absurd (show q ∈ ([] : List (Addr × Obj)) from hq) (by simp)
      hok := e0.hok.kept kp
      len := by
        show (σ ++ vs.map some).length = (X.N ++ ps).length
        rw [List.length_append, List.length_append, List.length_map, I.len, many] }
end
/-! ### what is called -/
/-- act(..): slot i holds the object of number l -/
def eAct (i l n : Nat) (act : On') (fs : EFs) : EF := fun τ M => match τ[i]? with
  | some (some (.obj j)) => if j = l then (fs τ M).bind fun as M1 => if as.length = n then act as M1 else .bad else .bad
  | _ => .bad
/-- in Z a call of what stands at number l does act -/
def ActOk (Z : Cx) (Tb : Tbl) (r : List Addr) (h : Hp) (l n : Nat) (act : On') : Prop :=
  ∀ (W : WR) (pn : List (Addr × Obj)) (xe : Value → Shared → Prop) (a : Str) (i : Nat) (p1 p2 : Pos) (es : List Expr) (fs : EFs), W.Tb = Tb → W.r = r → W.h = h → Takes (Z.tr pn xe) W.w → AA (Z.tr pn xe) W es fs → Z.N[i]? = some a → Vis Z.env.scope a →
    (a == ("__debug__" : Str)) = false → (a == ("__classdict__" : Str)) = false →
    ((es = [] ∧ fs = eNil) ∨ ∃ e es', es = e :: es' ∧ starEach (e :: es') Z.env = (false, eval e Z.env) :: starEach es' Z.env ∧ (backTo p2 (starEach es' Z.env)).any (·.1) = false) → AE (Z.tr pn xe) W (.Call (.Name a p1) es [] p2) (eAct i l n act fs)
/-- a lambda's call, its slots those of its maker and its arguments -/
def lamA (τ : Sl) (f : EF) : On' := fun as M => f (τ ++ as.map some) M
section
variable {X : Cx} {pins : List (Addr × Obj)} {σ : L2.St} {H HZ : Hp} {s s1 : Shared}
theorem RS0.app {ρ : List Addr} {H : Hp} {τ : Sl} {σ : L2.St} (r : RS0 ρ H τ σ) {as : List A} {vs : List V} (i : IsAll ρ H as vs) : RS0 ρ H (τ ++ as.map some) (σ ++ vs.map some) := by
  induction r with
  | nil =>
    induction as generalizing vs with
    | nil => cases i; exact .nil
    | cons a as ih =>
      cases i with
      | cons i is => exact .yes i (ih is)
  | no _ ih => exact .no ih
  | yes j _ ih => exact .yes j ih
theorem RE.conv {α β : Type} {G : Gx} {W W' : WR} {σ σ' : L2.St} {ρ : List Addr} {H : Hp} {rel : Rel α β} {o : EO α} {Q : β → Hp → Prop} (h : ∀ cls d H', W cls d σ H' → W' cls d σ' H') (r : RE G W σ ρ H rel o Q) : RE G W' σ' ρ H rel o Q := by
  cases o with
  | ok a M => exact r
  | ex e M => exact fun c d H2 ρ2 x2 g2 m i => h _ _ _ (r c d H2 ρ2 x2 g2 m i)
  | bad => exact r
/-- nothing of the frame's beginning is asked -/
abbrev wE (E : XK) (Tb : Tbl) : WR := ⟨fun cls d _ H => E cls d H, Tb, [], fun _ => none⟩
theorem RS.base {E : XK} {Tb : Tbl} {ρ : List Addr} {H : Hp} {τ : Sl} {σ : L2.St} (r : RS0 ρ H τ σ) : RS (wE E Tb) ρ H τ σ := ⟨⟨ρ, rfl⟩, fun _ _ _ z => (nomatch z), r⟩
theorem act_ok {Eg : XK} {Ng : List Str} {qg : Str} {sg : Scope} {g f c' : Addr} {cdg pm ctv : Value} {params : Arguments} {body : Expr} {scope : Scope} {k l : Nat} {ps : List Str} {Tb : Tbl} {r ρm : List Addr} {τ : Sl} {flam : EF}
    (I : Inv X pins σ H s) (L : LamP X.env.scope scope ps) (hla : LamAt X s H params body scope f c' pm ctv) (hdis : ∀ x ∈ ps, x ∉ X.N) (hx : Ext ρm r) (hl : r[l]? = some f) (hs : RS0 ρm H τ σ)
    (hbind : ∀ us : List Value, us.length = ps.length → bindArgs (PySem.W.kla_fn "<lambda>" (X.env.qual ++ "<lambda>") params body scope (cloFrom X.env.cells scope.names []) pm (.ref c') ctv) ⟨us, []⟩ = pure (ps.zip us))
    (hr : Room (k + 1) (X.A.deeper (envOfC qg sg s.heap.objs.size g cdg)))
    (hbody : ∀ (A : Around) (outer : List Env) (s : Shared) (H : Hp) (E : XK), Room k (A.deeper (LamX.lamEnv X scope s.heap.objs.size f c')) → AE (lamCxP X A outer s H E scope f c' ps) (wE E Tb) body flam) :
    ActOk (cxOf (L2.CX X.prog X.w) X.prog X.w X.K X.mg X.base Ng qg sg g cdg X.A X.stack s H Eg) Tb r H l ps.length (lamA τ flam) := by
  intro W pn xe a i p1 p2 es fs hT hWr hWh tk ha hN hv hd hcd hsh
  refine ⟨fun pinsZ sZ σZ HZ Q IZ h => ?_⟩
  obtain ⟨hf, hfn, hfr, hco⟩ := hla
  obtain ⟨τZ, M, ρ, rs, rm, rr⟩ := h
  unfold eAct at rr
  split at rr
  · rename_i j ej
    split at rr
    · rename_i ejl
      subst ejl
      obtain ⟨v0, hv0, iv⟩ := rs.get ej
      have ef : v0 = .ref f := by
        cases iv with
        | obj hj =>
          have q := rs.ext
          rw [hWr] at q
          have := q.get hl
          rw [hj] at this
          cases this
          rfl
      subst ef
      refine wpAny_Call_Name_kw (thn ((pe_var (X := (cxOf (L2.CX X.prog X.w) X.prog X.w X.K X.mg X.base Ng qg sg g cdg X.A X.stack s H Eg).tr pn xe) (pos := p1) (i := i) hN hv hd hcd).run pinsZ sZ σZ HZ (fun v H1 => v = .ref f ∧ H1 = HZ) IZ ⟨.ref f, hv0, rfl, rfl⟩) fun u s1 ⟨v, H1, I1, r1, q1⟩ => ?_)
      obtain ⟨ev, eH⟩ := q1
      subst ev
      rw [eH] at I1
      obtain rfl : u = Value.ref f := r1
      have ofn : ∀ {s1 : Shared} {H1 : Hp}, Inv ((cxOf (L2.CX X.prog X.w) X.prog X.w X.K X.mg X.base Ng qg sg g cdg X.A X.stack s H Eg).tr pn xe) pinsZ σZ H1 s1 → s1.heap.get? f = some (PySem.W.kla_obj "<lambda>" (X.env.qual ++ "<lambda>") params body scope (cloFrom X.env.cells scope.names []) pm c' ctv) :=
        fun I1 => I1.base.keep f _ hf hfn hfr (fun z => nomatch (show f ∈ ([] : List Addr) from z))
      -- the call itself
      have fin : ∀ (us : List Value) (vs : List V) (s2 : Shared) (H2 : Hp) (as : List A) (M2 : Store) (ρ2 : List Addr), Inv ((cxOf (L2.CX X.prog X.w) X.prog X.w X.K X.mg X.base Ng qg sg g cdg X.A X.stack s H Eg).tr pn xe) pinsZ σZ H2 s2 → Vals vs us →
          RS W ρ2 H2 τZ σZ → RM (X.am W.Tb) ρ2 H2 M2 → IsAll ρ2 H2 as vs → RE (X.gx W.Tb) W σZ ρ2 H2 Is (if as.length = ps.length then lamA τ flam as M2 else .bad) Q →
          wpAny (model X.prog X.w) (X.A.deeper (envOfC qg sg s.heap.objs.size g cdg)) (call (.ref f) us) (EP ((cxOf (L2.CX X.prog X.w) X.prog X.w X.K X.mg X.base Ng qg sg g cdg X.A X.stack s H Eg).tr pn xe) pinsZ σZ Q) xe s2 := by
        intro us vs s2 H2 as M2 ρ2 I2 rv rs2 rm2 ia rr2
        split at rr2
        · rename_i hn
          have of2 := ofn I2
          have hul : us.length = ps.length := by rw [← rv.length, ← ia.length]; exact hn
          have un : Un (frs X.stack) [] H H2 s.heap s2.heap := I2.base
          have hg := rs2.grow
          rw [hWh] at hg
          have hx2 := rs2.ext
          rw [hWr] at hx2
          have hc2 : H2 c' = some (LamX.CodeO c' (X.env.qual ++ "<lambda>")) := hg _ _ (.code _ _) hco
          obtain ⟨⟨oc, ws, t, hoc, hdc, hvc⟩, _, _⟩ := I2.hok c' _ hc2
          have rc : codeAny (model X.prog X.w) (X.A.deeper (envOfC qg sg s.heap.objs.size g cdg)) (.call (.ref f) ⟨us, []⟩) (CR (L2.CX X.prog X.w) (envOfC qg sg s.heap.objs.size g cdg :: X.stack) X.prog X.w H2 s2 Q (fun cls d H' => W cls d σZ H')) s2 := by
            refine PySem.W.kla_callFunE hr.depth of2 rfl L.co L.gen rfl ⟨c', oc, ws, t, rfl, hoc, hdc, hvc⟩ ?_
            rw [hbind us hul]
            refine wpAny_pure (wpAny_newFunctionEnv (fun y hy => L.cell y hy) (fun y hy => L.par _ (List.of_mem_zip (show (y.1, y.2) ∈ ps.zip us from hy)).1) (fun h₁ hns hsb => ⟨I2.nolimit.fresh _ hsb, ?_⟩) L.kind)
            show codeAny _ _ (.expr body (LamX.lamEnv X scope s2.heap.objs.size f c')) _ _
            have kp : ∀ b o, s2.heap.get? b = some o → h₁.get? b = some o := fun b o e => hsb.extBut b o (Nat.ne_of_lt (Heap.lt_size e)) (Heap.get?_push_of_some _ e)
            have J : Inv (lamCxP X (X.A.deeper (envOfC qg sg s.heap.objs.size g cdg)) (envOfC qg sg s.heap.objs.size g cdg :: X.stack) s2 H2 (fun cls d H' => W cls d σZ H') scope f c' ps) [] (σ ++ vs.map some) H2 { s2 with heap := h₁, toks := s2.toks + (ps.zip us).length } :=
              lam_startP I L I2.env0 hr.hd un hdis hul rv hns kp
            refine PySem.W.kla_codeExpr (wpAny_mono ((hbody _ _ s2 H2 (fun cls d H' => W cls d σZ H') (hr.deeper _)).run [] _ _ H2 Q J ?_) (fun v s' hq => ?_) fun e s' hq => hq)
            · refine ⟨τ ++ as.map some, M2, ρ2, RS.base (RS0.app (hs.mono (hx.trans hx2) hg) ia), by rw [← hT]; exact rm2, ?_⟩
              subst hT
              exact RE.conv (fun _ _ _ h => h) rr2
            · obtain ⟨w', H', J', rv, q⟩ := hq
              exact ⟨w', H', J'.os, J'.bare, J'.base, J'.hok, rv, q⟩
          refine wpAny_call (codeAny_mono rc fun r' s' hq => ?_)
          cases r' with
          | error e => exact tk e s' (XE.of_call I2 (fun _ _ _ h => h) hq)
          | ok fl =>
            cases fl with
            | ret u => exact I2.after hq
            | next => exact False.elim hq
            | brk => exact False.elim hq
            | cont => exact False.elim hq
        · exact rr2.elim
      rcases hsh with ⟨e1, e2⟩ | ⟨e, es', e1, e2, e3⟩
      · subst e1 e2
        refine PySem.W.callWith_F0 ⟨_, _, _, _, ofn I1⟩ ?_
        exact fin [] [] s1 HZ [] M ρ I1 .nil rs rm .nil rr
      · subst e1
        have hta : tG (X.gx W.Tb) W IsAll fs σZ HZ (fun vs H2 => ∃ as M2 ρ2, RS W ρ2 H2 τZ σZ ∧ RM (X.am W.Tb) ρ2 H2 M2 ∧ IsAll ρ2 H2 as vs ∧ RE (X.gx W.Tb) W σZ ρ2 H2 Is (if as.length = ps.length then lamA τ flam as M2 else .bad) Q) := by
          refine ⟨τZ, M, ρ, rs, rm, ?_⟩
          cases ef : fs τZ M with
          | ok as M2 =>
            rw [ef] at rr
            exact fun vs H2 ρ2 x2 g2 m2 i2 => ⟨as, M2, ρ2, rs.mono x2 g2, m2, i2, RE.mono rr x2 g2⟩
          | ex en M2 => rw [ef] at rr; exact rr
          | bad => rw [ef] at rr; exact rr
        refine PySem.W.callWith_F ⟨_, _, _, _, ofn I1⟩ (thn (ha.run p2 pinsZ s1 σZ HZ _ I1 hta) fun us s2 ⟨vs, H2, I2, rv, as, M2, ρ2, rs2, rm2, ia, rr2⟩ => ⟨⟨_, _, _, _, ofn I2⟩, ?_⟩) e2 e3
        exact fin us vs s2 H2 as M2 ρ2 I2 rv rs2 rm2 ia rr2
    · exact rr.elim
  · exact rr.elim
/-! ### the def that is handed a lambda (its last parameter) -/
structure FnL (P : Program) (w : World) (K : PySem.W.Frag) (mg : Str → Option Value) (Tb : Tbl) (base : Heap) (x : Str) (k n m len : Nat) (S : Nat → On' → SF) : Prop where
  ex : ∃ (fa : Addr) (fd : FuncData) (st : Stmt) (N ps : List Str), Fun K x x st fa fd ∧ FnScope N ps (defScope st) ∧ mg x = some (.ref fa) ∧ N.length = len ∧ ps.length = n ∧ Binds K fd ps [] ∧
    ∀ (cdv : Value) (A : Around) (outer : List Env) (s₀ : Shared) (H : Hp) (E : XK) (l : Nat) (r : List Addr) (act : On'), Room k (A.deeper (envOfC x (defScope st) s₀.heap.objs.size fa cdv)) →
      ActOk (cxOf (L2.CX P w) P w K mg base N x (defScope st) fa cdv A outer s₀ H E) Tb r H l m act →
      ASs (cxOf (L2.CX P w) P w K mg base N x (defScope st) fa cdv A outer s₀ H E) ⟨fun cls d _ H => E cls d H, Tb, r, H⟩ (defBody st) (S l act)
/-- where the maker's code object and its table stand -/
structure LamI (X : Cx) (Tb : Tbl) (c P : Addr) : Prop where
  code : X.env.code = .ref c
  tb : LamX.TabB X.base X.mg c P
  mem : (P, X.env.qual ++ "<lambda>") ∈ Tb
  un : ∀ p ∈ Tb, p.1 = P → p.2 = X.env.qual ++ "<lambda>"
def eLam (n len : Nat) (S : Nat → On' → SF) (flam : EF) (fs : EFs) : EF := fun τ M => (fs τ M).bind fun as M1 =>
  if as.length + 1 = n then defA len (S M1.length (lamA τ flam)) (as ++ [.obj M1.length]) (M1 ++ [.obj]) else .bad
/-- arguments and behind them the lambda -/
structure PLm (X : Cx) (Tb : Tbl) (es : List Expr) (params : Arguments) (body : Expr) (scope : Scope) (t : TA) : Prop where
  run : ∀ (pos : Pos) (pins : List (Addr × Obj)) (s : Shared) (σ : L2.St) (H : Hp) (Q : List V → Hp → Prop), Inv X pins σ H s → t σ H (fun vs H1 => LamX.Tabs Tb H1 ∧ Q vs H1) →
    wpAny (model X.prog X.w) X.A (spliced (backTo pos (starEach es X.env))) (fun us s2 => ∃ us0 f c' pm ctv vs H1 H2, us = us0 ++ [.ref f] ∧ Vals vs us0 ∧ Inv X pins σ H2 s2 ∧ LamX.ExtN H1 H2 ∧ LamX.Tabs Tb H2 ∧ LamAt X s2 H2 params body scope f c' pm ctv ∧ Q vs H1) X.xe s
theorem plm_nil {Tb : Tbl} {c P : Addr} {params : Arguments} {body : Expr} {scope : Scope} {ps : List Str} {lpos : Pos} (LI : LamI X Tb c P) (L : LamP X.env.scope scope ps) (hdef : defaultsOf params X.env = ([], []) := by rfl) :
    PLm X Tb [.Lambda params body scope lpos] params body scope tNil := by
  refine ⟨fun pos pins s σ H Q I h => ?_⟩
  obtain ⟨hT, q⟩ := h
  show wpAny _ _ (spliced ((false, eval (.Lambda params body scope lpos) X.env) :: backTo pos (starEach [] X.env))) _ _ s
  exact Calls.spliced_cons (LamX.lam_make2 I LI.tb LI.code LI.mem LI.un hT hdef (L.has I.ok) fun f c' pm' ctv H1 s' I1 eN T1 hf hfn hfr hco =>
    Calls.spliced_nil ⟨[], f, c', pm', ctv, [], H, H1, rfl, .nil, I1, eN, T1, ⟨hf, hfn, hfr, hco⟩, q⟩)
theorem plm_cons {Tb : Tbl} {params : Arguments} {body : Expr} {scope : Scope} {e : Expr} {es : List Expr} {te : TE} {t : TA} (ha : PE X e te) (hr : PLm X Tb es params body scope t) (hs : starEach (e :: es) X.env = (false, eval e X.env) :: starEach es X.env := by rfl) : PLm X Tb (e :: es) params body scope (tCons te t) := by
  refine ⟨fun pos pins s σ H Q I h => ?_⟩
  rw [hs]
  show wpAny _ _ (spliced ((false, eval e X.env) :: backTo pos (starEach es X.env))) _ _ s
  refine Calls.spliced_cons (thn (ha.run pins s σ H _ I h) fun u s1 ⟨x, H1, I1, r1, q1⟩ => ?_)
  refine thn (hr.run pos pins s1 σ H1 (fun vs H2 => Q (x :: vs) H2) I1 q1) fun us s2 ⟨us0, f, c', pm, ctv, vs, H1', H2, e1, rv, I2, eN, T2, la, q⟩ => ?_
  exact ⟨u :: us0, f, c', pm, ctv, x :: vs, H1', H2, by rw [e1]; rfl, .cons r1 rv, I2, eN, T2, la, q⟩
theorem PLm.pre {Tb : Tbl} {es : List Expr} {params : Arguments} {body : Expr} {scope : Scope} {t t' : TA} (h : PLm X Tb es params body scope t) (w : ∀ σ H Q, t' σ H Q → t σ H Q) : PLm X Tb es params body scope t' :=
  ⟨fun pos pins s σ H Q I q => h.run pos pins s σ H Q I (w _ _ _ q)⟩
def ALm (X : Cx) (W : WR) (es : List Expr) (params : Arguments) (body : Expr) (scope : Scope) (fs : EFs) : Prop := PLm X W.Tb es params body scope (tG (X.gx W.Tb) W IsAll fs)
theorem alm_nil {W : WR} {c P : Addr} {params : Arguments} {body : Expr} {scope : Scope} {ps : List Str} {lpos : Pos} (LI : LamI X W.Tb c P) (L : LamP X.env.scope scope ps) (hdef : defaultsOf params X.env = ([], []) := by rfl) :
    ALm X W [.Lambda params body scope lpos] params body scope eNil := (plm_nil LI L hdef).pre fun σ H Q h => by
  obtain ⟨τ, M, ρ, rs, rm, r⟩ := h
  exact r.okv (.refl _) (.refl _) rm .nil
theorem alm_cons {W : WR} {params : Arguments} {body : Expr} {scope : Scope} {e : Expr} {es : List Expr} {f : EF} {g : EFs} (h1 : AE X W e f) (h2 : ALm X W es params body scope g) (hs : starEach (e :: es) X.env = (false, eval e X.env) :: starEach es X.env := by rfl) : ALm X W (e :: es) params body scope (eCons f g) :=
  (plm_cons h1 h2 hs).pre fun σ H Q h => by
    refine (seqG Is h).imp fun x H1 h1 => ?_
    refine (seqK Is Is.ext IsAll h1).imp fun xs H2 h2 => ?_
    obtain ⟨τ, M, ρ, a, as, rs, rm, i, is, r⟩ := h2
    exact r.okv (.refl _) (.refl _) rm (.cons i is)
/-- x(e, .., lambda ..: body) -/
theorem ae_lam {W : WR} {x : Str} {kG kl k n m len : Nat} {S : Nat → On' → SF} {params : Arguments} {body : Expr} {scope : Scope} {ps : List Str} {p pos : Pos} {e : Expr} {es : List Expr} {fs : EFs} {flam : EF}
    (G : FnL X.prog X.w X.K X.mg W.Tb X.base x kG n m len S) (hr : Room k X.A) (tk : Takes X W.w) (hm : ps.length = m) (L : LamP X.env.scope scope ps)
    (ha : ALm X W (e :: es) params body scope fs)
    (hbody : ∀ (A : Around) (outer : List Env) (s s' : Shared) (H : Hp) (E : XK) (f c' : Addr), Room kl (A.deeper (LamX.lamEnv X scope s'.heap.objs.size f c')) → AE (lamCxP X A outer s' H E scope f c' ps) (wE E W.Tb) body flam)
    (hdis : ∀ x ∈ ps, x ∉ X.N) (hk1 : kG + 1 ≤ k := by omega) (hk2 : kl + 1 ≤ kG := by omega)
    (hbind : ∀ (qq : Str) (cl : List (Str × Addr)) (pm cv ctv : Value) (us : List Value), us.length = ps.length → bindArgs (PySem.W.kla_fn "<lambda>" qq params body scope cl pm cv ctv) ⟨us, []⟩ = pure (ps.zip us))
    (hg : Gl X x := by rfl) (hdb : (x == ("__debug__" : Str)) = false := by decide) (he : starEach (e :: es) X.env = (false, eval e X.env) :: starEach es X.env := by rfl) (hpl : (backTo pos (starEach es X.env)).any (·.1) = false := by rfl) :
    AE X W (.Call (.Name x p) (e :: es) [] pos) (eLam n len S flam fs) := by
  obtain ⟨fa, fd, st, N, qs, F, Sc, hmg, hlen, hn, hb, hS⟩ := G.ex
  refine ⟨fun pins s σ H Q I h => ?_⟩
  refine wpAny_Call_Name_kw (ld_glob I hg hmg ?_ hdb)
  have h2 : tG (X.gx W.Tb) W IsAll fs σ H (fun vs H1 => LamX.Tabs W.Tb H1 ∧ ∃ τ M ρ as, RS W ρ H1 τ σ ∧ RM (X.am W.Tb) ρ H1 M ∧ IsAll ρ H1 as vs ∧ RE (X.gx W.Tb) W σ ρ H1 Is (if as.length + 1 = n then defA len (S M.length (lamA τ flam)) (as ++ [.obj M.length]) (M ++ [.obj]) else .bad) Q) := by
    obtain ⟨τ, M, ρ, rs, rm, r⟩ := h
    refine ⟨τ, M, ρ, rs, rm, ?_⟩
    unfold eLam at r
    cases ef : fs τ M with
    | ok as M1 =>
      rw [ef] at r
      exact fun vs H1 ρ1 x1 g1 m1 i1 => ⟨m1.tabs, τ, M1, ρ1, as, rs.mono x1 g1, m1, i1, RE.mono r x1 g1⟩
    | ex en M1 => rw [ef] at r; exact r
    | bad => rw [ef] at r; exact r
  refine PySem.W.callWith_K (h₀ := X.base) I.ok.mod.kin F.kp (thn (ha.run pos pins s σ H _ I h2) fun us s1 ⟨us0, f, c', pm, ctv, vs, H1, H2, e1, rv, I2, eN, T2, la, τ, M, ρ, as, rs, rm, i, r⟩ => ⟨I2.kIn, ?_⟩) he hpl
  subst e1
  split at r
  · rename_i hn2
    have g12 : Grow H1 H2 := .ofT eN
    have rm2 : RM (X.am W.Tb) (ρ ++ [f]) H2 (M ++ [.obj]) := (rm.growT eN T2).name f
    have i2 : IsAll (ρ ++ [f]) H2 (as ++ [.obj M.length]) (vs ++ [.ref f]) := (i.mono (.snoc _ _) g12).append (.cons (.obj (by rw [← rm.len]; simp)) .nil)
    have rv2 : Vals (vs ++ [.ref f]) (us0 ++ [.ref f]) := rv.append (.cons rfl .nil)
    have hvl : (vs ++ [V.ref f]).length = qs.length := by rw [List.length_append, List.length_singleton, ← i.length, hn2, hn]
    obtain ⟨oc, od, kV, doc, pm2, an, cdv, ct, osl, rfl, lk, hcd⟩ := F.ex
    have rc : codeAny (model X.prog X.w) X.A (.call (.ref fa) ⟨us0 ++ [.ref f], []⟩) (CR (L2.CX X.prog X.w) X.stack X.prog X.w H2 s1 Q (fun cls d H' => W cls d σ H')) s1 := by
      have bt := hb s1 (us0 ++ [.ref f]) I2.kIn (by rw [List.append_nil, ← rv2.length]; exact hvl)
      rw [List.append_nil] at bt
      refine LamX.run_ofS (k := kG) lk hcd Sc (hr.mono hk1) I2.env0 bt rv2 hvl fun hr' => ?_
      have act := act_ok (Eg := fun cls d H' => W cls d σ H') (Ng := N) (qg := x) (sg := defScope st) (g := fa) (cdg := cdv) (l := M.length) (r := ρ ++ [f]) (Tb := W.Tb) I2 L la hdis (.snoc ρ f) (by rw [← rm.len]; simp) (rs.mono (.refl _) g12).s (fun us hl => hbind _ _ _ _ _ us hl) (hr'.mono hk2) fun A outer s' H' E' hr2 => hbody A outer s1 s' H' E' f c' hr2
      subst hm
      refine ⟨_, hS cdv X.A X.stack s1 H2 _ M.length (ρ ++ [f]) (lamA τ flam) hr' act, startA N.length (as ++ [A.obj M.length]), M ++ [Cell.obj], ρ ++ [f], ⟨.refl _, .refl _, start_ok i2 N⟩, rm2, ?_⟩
      have r2 := RE.mono r (.snoc ρ f) g12
      unfold defA at r2
      rw [hlen]
      cases eS : S M.length (lamA τ flam) (startA len (as ++ [.obj M.length])) (M ++ [.obj]) with
      | nx τ1 M1 => rw [eS] at r2; exact fun σ' H' ρ' x g m _ => r2 .non H' ρ' x g m .non
      | rt a M1 => rw [eS] at r2; exact r2
      | ex en τ1 M1 => rw [eS] at r2; exact fun c d σ' H' ρ' x g m _ ix => r2 c d H' ρ' x g m ix
      | bk τ1 M1 => rw [eS] at r2; exact r2.elim
      | ct τ1 M1 => rw [eS] at r2; exact r2.elim
      | bad => rw [eS] at r2; exact r2.elim
    refine wpAny_call (codeAny_mono rc fun r s2 hq => ?_)
    cases r with
    | error e => exact tk e s2 (XE.of_call I2 (fun _ _ _ h => h) hq)
    | ok fl =>
      cases fl with
      | ret u => exact I2.after hq
      | next => exact False.elim hq
      | brk => exact False.elim hq
      | cont => exact False.elim hq
  · exact r.elim
end
end AB
namespace AB
open PySem PySem.Spec PyProof.Rows L2
section
variable {P : Program} {w : World} {K : PySem.W.Frag} {mg : Str → Option Value} {Tb : Tbl} {base : Heap}
/-- where a def's lambdas lie -/
structure LamB (mg : Str → Option Value) (Tb : Tbl) (base : Heap) (fd : FuncData) (q : Str) (c P : Addr) : Prop where
  code : fd.code = .ref c
  tb : LamX.TabB base mg c P
  mem : (P, q) ∈ Tb
  un : ∀ p ∈ Tb, p.1 = P → p.2 = q
/-- a def that makes lambdas -/
theorem fn_AL {x : Str} {st : Stmt} {fa c Pt : Addr} {fd : FuncData} {N ps : List Str} {k : Nat} {s : SF} (F : Fun K x x st fa fd) (S : FnScope N ps (defScope st)) (B : LamB mg Tb base fd ((x ++ ".<locals>.") ++ "<lambda>") c Pt)
    (hbody : ∀ (cdv : Value) (A : Around) (outer : List Env) (s₀ : Shared) (H : Hp) (E : XK), Room k (A.deeper (envOfC x (defScope st) s₀.heap.objs.size fa cdv)) → LamI (cxOf (L2.CX P w) P w K mg base N x (defScope st) fa cdv A outer s₀ H E) Tb c Pt →
      ASs (cxOf (L2.CX P w) P w K mg base N x (defScope st) fa cdv A outer s₀ H E) ⟨fun cls d _ H => E cls d H, Tb, [], fun _ => none⟩ (defBody st) s) :
    FnOk P w K mg base (L2.CX P w) (k + 1) fa fd ps (spA ⟨mg, ⟨w, K, mg, Tb⟩⟩ ps.length (defA N.length s)) := by
  obtain ⟨oc, od, kV, doc, pm, an, cdv, ct, osl, rfl, lk, hcd⟩ := F.ex
  refine fn_of lk hcd S (fun vs H Q E h => ?_) fun A outer s₀ H vs Q E hr h => ⟨_, hbody cdv A outer s₀ H E hr ⟨B.code, B.tb, B.mem, B.un⟩, ?_⟩
  · obtain ⟨as, M, ρ, i, rm, hn, _⟩ := h
    rw [← i.length]; exact hn
  · obtain ⟨as, M, ρ, i, rm, hn, r⟩ := h
    refine ⟨startA N.length as, M, ρ, RS.base (E := E) (start_ok i N), rm, ?_⟩
    unfold defA at r
    cases e : s (startA N.length as) M with
    | nx τ M1 => rw [e] at r; exact fun σ' H' ρ' x g m _ => r .non H' ρ' x g m .non
    | rt a M1 => rw [e] at r; exact r
    | ex en τ M1 => rw [e] at r; exact fun c d σ' H' ρ' x g m _ ix => r c d H' ρ' x g m ix
    | bk τ M1 => rw [e] at r; exact r.elim
    | ct τ M1 => rw [e] at r; exact r.elim
    | bad => rw [e] at r; exact r.elim
/-- a def with defaults -/
theorem fn_AD {x qual : Str} {st : Stmt} {fa : Addr} {fd : FuncData} {N ps : List Str} {k : Nat} {s : SF} {dvs : List V} (F : FunD K x qual (defArgs st) (defBody st) (defScope st) dvs [] fa fd) (S : FnScope N ps (defScope st))
    (hbody : ∀ (cdv : Value) (A : Around) (outer : List Env) (s₀ : Shared) (H : Hp) (E : XK), Room k (A.deeper (envOfC qual (defScope st) s₀.heap.objs.size fa cdv)) →
      ASs (cxOf (L2.CX P w) P w K mg base N qual (defScope st) fa cdv A outer s₀ H E) ⟨fun cls d _ H => E cls d H, Tb, [], fun _ => none⟩ (defBody st) s) :
    FnOk P w K mg base (L2.CX P w) (k + 1) fa fd ps (spA ⟨mg, ⟨w, K, mg, Tb⟩⟩ ps.length (defA N.length s)) := by
  refine F.ok S (fun vs H Q E h => ?_) (fun cdv A outer s₀ H vs Q E hr h => ⟨_, hbody cdv A outer s₀ H E hr, ?_⟩)
  · obtain ⟨as, M, ρ, i, rm, hn, _⟩ := h
    rw [← i.length]; exact hn
  · obtain ⟨as, M, ρ, i, rm, hn, r⟩ := h
    refine ⟨startA N.length as, M, ρ, RS.base (E := E) (start_ok i N), rm, ?_⟩
    unfold defA at r
    cases e : s (startA N.length as) M with
    | nx τ M1 => rw [e] at r; exact fun σ' H' ρ' x g m _ => r .non H' ρ' x g m .non
    | rt a M1 => rw [e] at r; exact r
    | ex en τ M1 => rw [e] at r; exact fun c d σ' H' ρ' x g m _ ix => r c d H' ρ' x g m ix
    | bk τ M1 => rw [e] at r; exact r.elim
    | ct τ M1 => rw [e] at r; exact r.elim
    | bad => rw [e] at r; exact r.elim
end
section
variable {X : Cx} {W : WR} {pos : Pos}
theorem ae_act (i : Nat) {l n : Nat} {act : On'} {a : Str} {p1 : Pos} {e : Expr} {es : List Expr} {fs : EFs} (ha : ActOk X W.Tb W.r W.h l n act) (tk : Takes X W.w) (h : AA X W (e :: es) fs) (hN : X.N[i]? = some a := by rfl) (hv : Vis X.env.scope a := by first | exact Or.inl rfl | exact Or.inr (Or.inl rfl) | exact Or.inr (Or.inr rfl))
    (hd : (a == ("__debug__" : Str)) = false := by decide) (hcd : (a == ("__classdict__" : Str)) = false := by decide)
    (he : starEach (e :: es) X.env = (false, eval e X.env) :: starEach es X.env := by rfl) (hpl : (backTo pos (starEach es X.env)).any (·.1) = false := by rfl) : AE X W (.Call (.Name a p1) (e :: es) [] pos) (eAct i l n act fs) :=
  ha W X.pn X.xe a i p1 pos (e :: es) fs rfl rfl rfl tk h hN hv hd hcd (.inr ⟨e, es, rfl, he, hpl⟩)
/-- .. in a try's body -/
theorem ae_actT0 (i : Nat) {l n : Nat} {act : On'} {a : Str} {p1 : Pos} {pn : List (Addr × Obj)} {xe : Value → Shared → Prop} (ha : ActOk X W.Tb W.r W.h l n act) (tk : Takes (X.tr pn xe) W.w) (hN : X.N[i]? = some a := by rfl) (hv : Vis X.env.scope a := by first | exact Or.inl rfl | exact Or.inr (Or.inl rfl) | exact Or.inr (Or.inr rfl))
    (hd : (a == ("__debug__" : Str)) = false := by decide) (hcd : (a == ("__classdict__" : Str)) = false := by decide) : AE (X.tr pn xe) W (.Call (.Name a p1) [] [] pos) (eAct i l n act eNil) :=
  ha W pn xe a i p1 pos [] eNil rfl rfl rfl tk aa_nil hN hv hd hcd (.inl ⟨rfl, rfl⟩)
end
end AB
/-! AB28: the end of a law over tables of code objects -/
namespace AB
open PySem PySem.Spec PyProof.Rows L2
/-- the code object of the def called x and its table, as the top has left them -/
def TabX (mg : Str → Option Value) (h : Heap) (x : Str) (f c P : Addr) : Prop :=
  ∃ (o : Obj) (fd : FuncData), mg x = some (.ref f) ∧ h.get? f = some o ∧ o.data = .func fd ∧ fd.code = .ref c ∧ PySem.W.CodeHd h c P ∧ h.get? P = some { cls := .none, data := .fields #[] }
theorem lookup_out {α : Type} {l : List (Addr × α)} {b : Addr} : (l.map (·.1)).contains b = false → l.lookup b = none := by
  induction l with
  | nil => intro _; rfl
  | cons p l ih =>
    obtain ⟨x, y⟩ := p
    intro h
    rw [List.map_cons, List.contains_cons, Bool.or_eq_false_iff] at h
    rw [List.lookup_cons, h.1]
    exact ih h.2
/-- what the head's part doesn't hold -/
theorem km_out {K : Params → PySem.W.Frag} {as : List Addr} {e : ∀ P, as = (K P).map (·.1)} {ts : List Addr} {w : World} {h : Heap} (Y : (PySem.W.kmHook K as e ts).says w h) {b : Addr} (hb : as.contains b = false) : (K w.params).lookup b = none :=
  lookup_out (by rw [← e w.params]; exact hb)
theorem walk_ofX {l : PySem.W.OpenLaw} {n k : Nat} {q : Program} {loose : List Str} {XP : (Str → Option Value) → Heap → Prop} {YP : World → Heap → Prop} {d : DefRec} {K : Params → PySem.W.Frag} {CX : World → CXT} {x : Str} (makers : List Str)
    (hn : l.most = some n) (hz : n ≤ sizeLine) (hdf : d.params.defaults = []) (hr : Room k callerA) (hmk : (makers.all fun y => (recsOf q).any fun e => e.name == y) = true) (hY : ∀ (w : World) (h : Heap), YP w h → (K w.params).In h)
    (F : ∀ (w : World) (mg : Str → Option Value) (fa : Addr) (h : Heap), YP w h → (K w.params).In h → h.Ns mainGlobals mg → mg d.name = some (.ref fa) → (∀ y ∈ makers, ∃ f c P, TabX mg h y f c P) → LamX.LawAtS l w (K w.params) (CX w) k n x mg fa h)
    (hCX : ∀ (w : World) (H : Hp) (s : Shared) (e : Value) (s' : Shared), CX w [] H s (fun _ _ _ => False) e s' → False) :
    PySem.W.WalkO q loose XP YP l.row.toRowW d [] (fun f vs => PySem.call f vs) := by
  refine Att.attach_callB hn hdf fun w z0 z1 mg mb fa ob pm cdv dc a vs ns Gr Yh h1 h2 h3 hfa h4 h5 h6 hbits h7 => ?_
  have inK := hY w _ Yh
  have found : ∀ y ∈ makers, ∃ f c P, TabX mg z1.heap y f c P := fun y hy => by
    obtain ⟨e, he, en⟩ := List.any_eq_true.mp (List.all_eq_true.mp hmk y hy)
    obtain ⟨f, of, fd, c, P, t1, t2, t3, t4, t5, t6⟩ := Gr.T.tab e he
    have ey : e.name = y := eq_of_beq en
    subst ey
    exact ⟨f, c, P, of, fd, t1, t2, t3, t4, .of t5 t6, t6.2⟩
  obtain ⟨fd, cs, sp, tb1, tb2, tb3, bd, sat, ok⟩ := F w mg fa _ Yh inK Gr.T.g hfa found
  exact LamX.law_callTs inK Gr.T.g Gr.T.b Gr.T.builtins Gr.T.nolimit h7 tb1 tb2 tb3 Gr.T.bmain h4 h5 (Nat.le_trans h6 hz) hr ok bd (fun H t1 t2 => sat H a ns h6 hbits t1 t2) fun H e s' => hCX w H z1 e s'
end AB
/-! AB29: backward steps for lambdas -/
namespace AB
open PySem PySem.Spec PyProof.Rows L2
section
variable {τ : Sl} {M : Store} {Q : A → Store → Prop}
end
end AB
/-! PM4: list(permutations(range(n))) -/
namespace PM
open PySem PySem.Spec PyProof.Rows L2
open Sem (wp)
/-- the row's object -/
def RowAt (h : Heap) (n j : Nat) (a : Addr) : Prop := ∃ ts : List Tok, ts.length = n ∧ h.get? a = some { cls := .type "tuple", data := .seq (row n j ts).toArray }
/-- what stands behind i turns -/
structure Rows (h : Heap) (n S : Nat) (as : List Addr) : Prop where
  rise : as.Pairwise (· < ·)
  top : ∀ a ∈ as, S < a
  row : ∀ (j : Nat) (a : Addr), as[j]? = some a → RowAt h n j a
section
variable {prog : Program} {w : World} {A : Around} {E : Value → Shared → Prop} {R : Result → Shared → Prop} {s : Shared} {n : Nat} {S it pool : Addr} {h₁ : Heap}
end
end PM
/-! AB30: list(permutations(range(n))) -/
namespace AB
open PySem PySem.Spec PyProof.Rows L2
section
variable {X : Cx} {W : WR} {pos : Pos} {pins : List (Addr × Obj)} {σ : L2.St} {H : Hp} {s : Shared} {n : Nat}
end
end AB
/-! AB31: sorted of a list of ints -/
namespace AB
open PySem PySem.Spec PyProof.Rows L2
section
variable {X : Cx} {Tb : Tbl}
end
end AB
/-! AB32: a tuple so many times -/
namespace AB
open PySem PySem.Spec PyProof.Rows L2
theorem tup_once (l : Addr) (items : Array Value) (n : Nat) (dd : Option Addr) (sl : Array (Option Value)) (u : Tok) (c1 : (items.isEmpty || (1 : Int) == 1) = true) :
    Meets (Builtin.«tuple.__mul__» ⟨[.ref l, .int 1 u], []⟩) (fun _ R s => s.heap.get? l = some { cls := .type "tuple", dict := dd, data := .seq items n, slots := sl } ∧ R (.ok (.ret (Value.ref l))) s) :=
  .of_wp fun prog w A R s h => by
    obtain ⟨hp, g, d, tk, os⟩ := s
    obtain ⟨hl, h⟩ := h
    have f1 := AutoSeq1.idx_int
    have hT : (⟨hp, g, d, tk, os⟩ : Shared).TypeIs (.ref l) "tuple" := ⟨_, hl, rfl⟩
    wp_walk using wpAny_loadPart' hl
    repeat (first
      | (refine wpAny_ite_false (by decide) ?_; wp_walk using wpAny_loadPart' hl)
      | (refine wpAny_ite_true (by simp) ?_; wp_walk using wpAny_loadPart' hl))
    exact ⟨_, rfl, h⟩
def oMulT : O2 := fun a b M => match a, b with
  | .tup xs, .int k => if xs ≠ [] ∧ 1 ≤ k ∧ k ≤ 1000 ∧ xs.length ≤ 1000 then some (.tup (List.replicate k.toNat xs).flatten, M) else none
  | _, _ => none
section
variable {X : Cx} {Tb : Tbl}
theorem op_mulT : OpR X (binaryOp .Mult) (r2 (X.am Tb) oMulT) := by
  intro pins s σ H x y v u Q I rx ry h
  obtain ⟨a, b, M, ρ, ia, ib, m, r⟩ := h
  unfold oMulT at r
  split at r
  · rename_i xs k
    cases ib
    split at r
    · rename_i hc
      obtain ⟨hne, h1, h2, hz⟩ := hc
      cases ia with
      | @tup l _ vs hl iv =>
        have hvl : xs.length = vs.length := iv.length
        by_cases hk : k = 1
        · subst hk
          obtain ⟨t, rfl⟩ := ry
          obtain rfl : v = .ref l := rx
          obtain ⟨its, r2, ⟨⟨cls, dd, data, sl⟩, ho, hc, n, hd⟩, hs⟩ := I.tuple (.inl (.inl hl))
          simp only at hc hd
          subst hc hd
          have rq : Q (.ref l) H := by
            have e : (List.replicate (1 : Int).toNat xs).flatten = xs := by simp
            rw [e] at r
            exact r.val m (.tup hl iv)
          refine wpAny_binaryOp_repeat_ref (T := "tuple") (U := "int") (by decide) ⟨_, ho, rfl⟩ (fun s' => typeIs_int s' 1 t) noFill_tuple_mul F.fills_int_mul F.slot_int_rmul repeat_tuple F.slot_int_index.lookup
            (call_meets F.slot_int_rmul (typeIs_int s 1 t) F.entry_int_rmul (F.args_int_rmul_2 _ _) (int_rmul_tuple 1 t l its.toArray n dd sl)
              ⟨ho, rfl, ⟨_, ho, rfl⟩, call_meets F.slot_tuple_mul ⟨_, ho, rfl⟩ F.entry_tuple_mul (F.args_tuple_mul_2 _ _) (tup_once l its.toArray n dd sl t (by simp)) ⟨ho, ?_⟩⟩)
          exact ⟨.ref l, H, I, rfl, rq⟩
        · exact op_repT pins s σ H _ _ v u Q I rx ry ⟨l, k, vs, rfl, rfl, .inl (.inl hl), fun z => hne (List.eq_nil_of_length_eq_zero (by rw [hvl, z]; rfl)), by omega, h2, by omega, fun p hp => r.newT m (iv.rep _) hp⟩
    · exact r.elim
  · exact r.elim
end
end AB
/-! AB33: [.. for .. in .. for .. in ..] -/
namespace AB
open PySem PySem.Spec PyProof.Rows L2
section
variable {X : Cx} {W : WR} {pos : Pos}
end
end AB
/-! AB34: sum, max of tuples and lists of ints -/
namespace AB
open PySem PySem.Spec PyProof.Rows L2
section
variable {prog : Program} {w : World} {A : Around} {E : Value → Shared → Prop} {s : Shared} {l : Addr} {xs : Array (Int × Tok)} {its : List Value} {ns : List Int}
end
section
variable {X : Cx} {Tb : Tbl}
end
end AB
/-! AB35: list(d.items()), sorted(d.keys()) -/
namespace AB
open PySem PySem.Spec PyProof.Rows L2
section
variable {X : Cx} {W : WR} {pos : Pos} {e : Expr} {f : EF}
end
section
variable {τ : Sl} {M : Store} {Q : A → Store → Prop} {f : EF}
end
end AB
/-! AB36: x = [.. for .. in .. for .. in ..] -/
namespace AB
open PySem PySem.Spec PyProof.Rows L2
section
variable {X : Cx} {W : WR} {pos : Pos}
end
end AB
/-! AB37: for k in d, the dict locked meanwhile -/
namespace AB
open PySem PySem.Spec PyProof.Rows L2
instance {x} : NoTup (.lst x) := ⟨fun _ h => by cases h⟩
instance {x} : NoTup (.dK x) := ⟨fun _ h => by cases h⟩
instance {x} : NoTup (.dT x) := ⟨fun _ h => by cases h⟩
section
variable {ρ : List Addr} {H : Hp} {a : Addr} {u : HO} {od : Obj} [NoTup u]
end
section
variable {X : Cx} {W : WR} {pos : Pos}
end
end AB
/-! AB38: [.. for k in d], tuple keys, the dict locked meanwhile -/
namespace AB
open PySem PySem.Spec PyProof.Rows L2
section
variable {X : Cx} {W : WR} {pos : Pos}
end
end AB
/-! AB39: any(t), a tuple of ints -/
namespace AB
open PySem PySem.Spec PyProof.Rows L2
section
variable {X : Cx} {Tb : Tbl}
end
end AB
/-! AB40: an own exception class over an own class over ValueError: its __init__ says super().__init__(..), then lays its fields -/
namespace SI
open PySem PySem.Spec PyProof.Rows L2
/-- the context of such a body -/
def cxI (CX : CXT) (P : Program) (w : World) (K : PySem.W.Frag) (mg : Str → Option Value) (base : Heap) (N : List Str) (qual : Str) (scope : Scope) (f : Addr) (cd : Value) (cc : Addr) (A : Around) (outer : List Env) (s : Shared) (H : Hp) (E : XK) : Cx where
  prog := P
  w := w
  K := K
  mg := mg
  base := base
  A := A.deeper (PySem.W.ksEnv qual scope s.heap.objs.size f cd cc)
  N := N
  s_0 := s
  H_0 := H
  env := PySem.W.ksEnv qual scope s.heap.objs.size f cd cc
  outer := outer
  stack := PySem.W.ksEnv qual scope s.heap.objs.size f cd cc :: outer
  ex := []
  calm := true
  fn := fun _ => false
  pn := []
  xe := fun e s' => wpAny (model P w) (A.deeper (PySem.W.ksEnv qual scope s.heap.objs.size f cd cc)) (leaving (PySem.W.ksEnv qual scope s.heap.objs.size f cd cc) e) (fun _ s'' => CX outer H s E e s'') (fun e' s'' => CX outer H s E e' s'') s'
structure InitScope (ps : List Str) (sc : Scope) : Prop where
  kind : sc.kind = .function
  co : sc.isCoroutine = false
  gen : sc.isGenerator = false
  nd : ps.Nodup
  par : ∀ x ∈ ps, sc.names.lookup x = some .local
  cell : ∀ y ∈ sc.names, y.2 ≠ .cell
  free : ∀ y ∈ sc.names, y.2 = .free → y.1 = "__class__"
  sup : sc.names.lookup ("super" : Str) = some .globalImplicit
  cls : sc.names.lookup ("__class__" : Str) = some .free
section
variable {CX : CXT} {P : Program} {w : World} {K : PySem.W.Frag} {mg : Str → Option Value} {base : Heap} {ps : List Str} {qual : Str} {scope : Scope} {f cc : Addr} {cd : Value} {A : Around} {outer : List Env} {s : Shared} {H : Hp} {E : XK}
theorem one_cell {x : Str} {c : Addr} (h : ([(("__class__" : Str), cc)] : List (Str × Addr)).lookup x = some c) : x = "__class__" ∧ c = cc := by
  rw [List.lookup_cons] at h
  cases hx : x == ("__class__" : Str) with
  | true => rw [hx] at h; cases h; exact ⟨eq_of_beq hx, rfl⟩
  | false => rw [hx] at h; cases h
theorem inv_init {us : List Value} {vs : List V} {h₀ : Heap} {tk : Nat} {cl : Value} {cld : Option Addr} {csl : Array (Option Value)} {u0 : Value} (S : InitScope ps scope) (hd : A.handled = none) (e0 : Env0 P w K mg base A outer s H) (hl : us.length = ps.length) (r : Vals vs us)
    (hcc : K.lookup cc = some ⟨cl, cld, .cell (some u0), csl⟩) (hns : h₀.Ns s.heap.objs.size fun x => (ps.zip us).reverse.lookup x) (kp : ∀ b o, s.heap.get? b = some o → h₀.get? b = some o) :
    Inv (cxI CX P w K mg base ps qual scope f cd cc A outer s H E) [] (vs.map some) H { s with heap := h₀, toks := tk } := by
  have nex : ∀ b : Addr, b ∉ (cxI CX P w K mg base ps qual scope f cd cc A outer s H E).ex := fun b z => absurd (show b ∈ ([] : List Addr) from z) (by simp)
  have hb := e0.bs cc _ (e0.mod.kin _ _ hcc)
  have ok : (cxI CX P w K mg base ps qual scope f cd cc A outer s H E).Ok :=
    { mod := e0.mod
      kind := S.kind
      glob := rfl
      blt := rfl
      above := Nat.le_refl _
      inj := fun y z b t1 t2 => (one_cell t1).1.trans (one_cell t2).1.symm
      has := fun y hy => by
        rcases (show scope.names.lookup y = some .cell ∨ scope.names.lookup y = some .free from hy) with t | t
        · exact absurd rfl (S.cell _ (PySem.mem_of_lookup t))
        · have e := S.free _ (PySem.mem_of_lookup t) rfl
          have e : y = "__class__" := e
          subst e
          exact ⟨cc, rfl⟩
      cab := fun y b z _ => absurd (show false = true from z) (by simp)
      hd := fun _ => hd
      frames := Around.frames_deeper e0.frames
      stk := .inr ⟨rfl, rfl⟩
      exf := fun b z => absurd z (nex b)
      bs := e0.bs
      bsz := e0.bsz
      noex := fun b _ _ => nex b
      exfs := fun b z => absurd z (nex b)
      funs := e0.funs
      frf := e0.frf }
  exact
    { ok := ok
      os := rfl
      bare := e0.bare
      base := Un.kept kp
      loc := ⟨_, hns, fun i y v t1 t2 seen => by
        have t1 : ps[i]? = some y := t1
        rw [List.getElem?_map] at t2
        obtain ⟨v', hv', ev⟩ := Option.map_eq_some_iff.mp t2
        cases ev
        obtain ⟨u, hu, ru⟩ := r.get hv'
        exact ⟨u, ru, .inl ⟨S.par _ (List.mem_of_getElem? t1), AB.mem_reverse_lookup S.nd hl t1 hu⟩⟩⟩
      cell := fun y b t => by
        obtain ⟨_, e⟩ := one_cell t
        subst e
        exact ⟨_, _, kp _ _ hb.1, rfl⟩
      free := e0.hok.fresh (Nat.le_refl _)
      freeC := fun y b t => by
        obtain ⟨_, e⟩ := one_cell t
        subst e
        exact hb.2
      pin := fun q hq => absurd (show q ∈ ([] : List (Addr × Obj)) from hq) (by simp)
      hok := e0.hok.kept kp
      len := by
        show (vs.map some).length = ps.length
        rw [List.length_map, r.length, hl] }
end
/-- ValueError.__init__, bound, is called -/
theorem call_mw {prog : Program} {w : World} {A : Around} {E : Value → Shared → Prop} {h : Heap} {g : Array GenState} {d : Drawn} {t : Nat} {os : OsState} {nm q : Str} {C N : Addr} {bs bm : List Value} {hdct : Bool} {sn : List Str} {sub : List Value} {ab : Bool} {col : Option Bool} {dd : Option Addr} {k0 k1 k2 k3 k5 : Option Value}
    {u e t0 : Addr} {rest : List Value} {Q : Value → Shared → Prop}
    (hC : h.get? C = some (excClassObj nm q C N bs bm hdct sn sub ab col dd k0 k1 k2 k3 k5 "ValueError.__new__")) (he : h.get? e = some ({ cls := .ref C, dict := none, data := .fields #[.ref t0, .none, .none, .none, .bool false, .none] } : Obj))
    (hu : h.get? u = some (PySem.W.kxs_mw "ValueError.__init__" e)) (hrest : rest.length ≤ sizeLine)
    (hq : ∀ (h' : Heap) (t1 : Addr), (∀ b o, b ≠ e → h.get? b = some o → h'.get? b = some o) → h'.get? e = some ({ cls := .ref C, dict := none, data := .fields #[.ref t1, .none, .none, .none, .bool false, .none] } : Obj) → Q .none ⟨h', g, d, t, os⟩) :
    wpAny (model prog w) A (call (.ref u) rest) Q E ⟨h, g, d, t, os⟩ := by
  refine wpAny_call (codeAny_of_tree ?_)
  show wpAny _ A.in1 (callAny (.ref u) ⟨rest, []⟩) _ _ _
  simp only [callAny]
  refine wpAny_bind (wpAny_load hu ?_)
  simp only [PySem.W.kxs_mw, show (Value.type "method-wrapper" == Value.type "method" || Value.type "method-wrapper" == Value.type "builtin_function_or_method" || Value.type "method-wrapper" == Value.type "method-wrapper") = true by decide, if_true]
  refine PySem.W.KFB.if_so (by decide) ?_
  refine wpAny_bind (ESX.check_bound PySem.F.excBase_ValueError hC he rfl ?_)
  refine wpAny_bind (wpAny_pure (wpAny_pure ?_))
  refine ⟨Code.quiet_builtin _ (by decide +kernel), codeAny_builtin PySem.F.excBase_ValueError.initEntry ?_⟩
  rw [Around.under_plainId PySem.F.excBase_ValueError.init.plain _]
  exact PySem.W.exc_init_tree (cls := .ref C) (t0 := t0) (dv := none) (c2 := .none) (c3 := .none) (b4 := .bool false) he hrest fun h' k e' _ => hq h' _ k e'
/-- what such an __init__ promises: its f-string is a text, its stores are done -/
def spI (C : Addr) (ps : List Str) (te : TE) (tr : TS) : Sp := fun vs H Q _ => vs.length = ps.length ∧ ∃ e, vs.head? = some (.ref e) ∧ H e = some (exo e C none) ∧ te (vs.map some) H (fun x H1 => H1 = H ∧ ∃ z : Str, [x] = [V.str z]) ∧ tr { nx := fun _ H' => Q .non H', rt := Q } (vs.map some) H
/-- what the written part says of the class, and of its __init__ -/
structure SupC (P : Program) (K : PySem.W.Frag) (mg : Str → Option Value) (C cc cda : Addr) : Prop where
  T : OexC K C
  cell : ∃ cl cld csl, K.lookup cc = some ⟨cl, cld, .cell (some (.ref C)), csl⟩
  code : ∃ ccl cdd vs ccs file tf, K.lookup cda = some ⟨ccl, cdd, .fields vs, ccs⟩ ∧ vs[2]? = some (.str file tf) ∧ ((P.main.file : Str) == file) = true
  sub : PySem.W.mroIn K C (.ref C) = some true
  up : PySem.W.ks_superIn K C C "__init__" = some (some (.builtin "ValueError.__init__"))
  ve : PySem.W.subIn K (.ref C) (.type "ValueError") = some true
  opq : PySem.W.nsIn K cStatics "thirdparty.any" = some none
  sup : mg "super" = none
  top : (P.main.scope.names.lookup ("super" : Str)).isSome = false
/-- the body -/
theorem init_walk {X : Cx} {body : List Stmt} {σ : L2.St} {H : Hp} {s0 : Shared} {fI cc cda C e : Addr} {fd : FuncData} {oc : Value} {od : Option Addr} {osl : Array (Option Value)} {ar : Arg} {rest : List Stmt} {fe : Expr} {p0 p1 p2 p3 p4 : Pos} {te : TE} {tr : TS} {D : Ends} {pl : Sem Bool}
    (I : Inv X [] σ H s0) (hks : X.env.kindOf "super" = some .globalImplicit) (hkc : X.env.kindOf "__class__" = some .free) (hka : X.env.kindOf ar.arg = some .local) (hfu : X.env.func = some fI) (hf : X.K.lookup fI = some ⟨oc, od, .func fd, osl⟩) (har : (fd.params.posonlyargs ++ fd.params.args).head? = some ar)
    (hco : X.env.code = .ref cda) (hcel : X.env.cells.lookup ("__class__" : Str) = some cc) (h0 : X.N[0]? = some ar.arg) (hσ : σ[0]? = some (some (.ref e))) (Z : SupC X.prog X.K X.mg C cc cda) (hexo : H e = some (exo e C none)) (hca : s0.heap.IsCell cc (some (.ref C)))
    (hfe : PE X fe te) (hte : te σ H (fun x H1 => H1 = H ∧ ∃ z : Str, [x] = [V.str z])) (hrest : PSs X rest tr) (htr : tr D σ H)
    (hi : interactive X.env = false) (hstar : starEach [fe] X.env = (false, eval fe X.env) :: starEach [] X.env) (hsw : swapsWith (.Call (.Attribute (.Call (.Name "super" p0) [] [] p1) "__init__" p2) [fe] [] p3) none p4.line X.env = pure false)
    (hev : eval (.Call (.Attribute (.Call (.Name "super" p0) [] [] p1) "__init__" p2) [fe] [] p3) X.env = (do
      let ov ← attributeBase (.Call (.Name "super" p0) [] [] p1) "__init__" X.env (eval (.Call (.Name "super" p0) [] [] p1) X.env)
      standAt p2.atName
      let (f, first) ← holding [ov] (getMethod ov "__init__" pl)
      callWith p3 f first (backTo p3 (starEach [fe] X.env)) [])) :
    PySem.wpAt (model X.prog X.w) X.A (.func body X.env) (execs (.Expr (.Call (.Attribute (.Call (.Name "super" p0) [] [] p1) "__init__" p2) [fe] [] p3) p4 :: rest) X.env) (fun f s' => ∃ pins, SP X pins D f s') X.xe s0 := by
  obtain ⟨ccl, cdd, cvs, ccs, file, tf, hcode, hcv, hfile⟩ := Z.code
  obtain ⟨nm, q, N, bs, bm, sn, sub, ab, col, dd, k0, k1, k2, k3, k5, hC, hbm⟩ := Z.T.cls
  have KX := I.kIn
  have hcl : PySem.W.clsIn X.K C = some { name := nm, bases := bs, mro := .ref C :: bm, ns := N, qualname := q, hasDict := true, slotNames := sn, subclasses := sub, abstract := ab, collection := col, hasDel := false } := by unfold PySem.W.clsIn; rw [hC] <;> rfl
  obtain ⟨t1, ho⟩ := exo_at I.hok hexo
  obtain ⟨mb, hb1, hb2⟩ := I.mod.blt
  obtain ⟨mm, hmm, hlo⟩ := I.loc
  obtain ⟨hh, g, d, t, os⟩ := s0
  refine ks_wpAt_execs_cons (ks_wpAt_Expr_any (ks_wpAt_MethodCall (pl := pl) (ks_wpAt_super_base hks hkc (by decide) hfu (KX _ _ hf) rfl har hco (KX _ _ hcode) rfl hcv hfile Z.top ?_) hev) hi hsw)
  refine PySem.W.ks_loadName_global I.ok.kind hks (Calls.loadGlobal_builtin (by rw [I.ok.glob]; exact I.mod.glob.keeps I.bk) Z.sup (by rw [I.ok.blt]; exact hb1.keeps I.bk) ((hb2 "super" (by decide)).trans rfl) ⟨rfl, ?_⟩)
  refine wpAny_loadName_free I.ok.kind hkc hcel hca ?_
  obtain ⟨u0, hru, hlk⟩ := hlo 0 ar.arg (.ref e) h0 hσ (.inl hka)
  obtain rfl : u0 = Value.ref e := hru
  have hself : mm ar.arg = some (.ref e) := by
    rcases hlk with ⟨_, h⟩ | ⟨h, _⟩
    · exact h
    · rw [hka] at h
      rcases h with h | h <;> cases h
  refine wpAny_loadName_local I.ok.kind hka hmm hself ?_
  have hCd : hh.get? C = some (excClassObj nm q C N bs bm true sn sub ab col dd k0 k1 k2 k3 k5 "ValueError.__new__") := KX _ _ hC
  refine ks_wpAny_isType_cls hCd rfl ⟨rfl, ?_⟩
  refine ks_wpAny_call_super hCd rfl ho rfl (fun c z => by cases z) (PySem.W.looks_mroIn KX Z.sub) (fun h' hso hk => ?_)
  have I1 : Inv X [] σ H ⟨h', g, d, t, os⟩ := I.kept (t' := t) hk
  have ho1 := hk _ _ ho
  have K1 := I1.kIn
  have J1 : PySem.W.InstAt h' e ({ cls := .ref C, dict := none, data := .fields #[.ref t1, .none, .none, .none, .bool false, .none] } : Obj) C none := ⟨ho1, rfl, rfl, trivial⟩
  have hup := Z.up
  unfold PySem.W.ks_superIn at hup
  rw [hcl] at hup
  refine PySem.W.kxs_getMethod PySem.W.kxs_ValueError hso (PySem.W.looks_opaque K1 Z.opq) (l₀ := .ref C :: bm) (fun A Q E s k q => wpAny_bind ((PySem.W.looks_clsIn K1 hcl) A _ E s k (wpAny_pure q))) rfl K1 hup (J1.type.andThen (PySem.W.looks_subIn K1 Z.ve)) (PySem.W.ks_ne K1 J1 hcl) (by decide) ?_
  have hpush : ∀ b u, h'.get? b = some u → (h'.push (PySem.W.kxs_mw "ValueError.__init__" e)).get? b = some u := fun b u z => Heap.get?_push_of_some _ z
  have I2 : Inv X [] σ H ⟨h'.push (PySem.W.kxs_mw "ValueError.__init__" e), g, d, t + 1, os⟩ := I1.kept (t' := t + 1) hpush
  have hnew : (h'.push (PySem.W.kxs_mw "ValueError.__init__" e)).get? h'.objs.size = some (PySem.W.kxs_mw "ValueError.__init__" e) := Heap.get?_push_at rfl rfl
  have I3 : Inv X [(h'.objs.size, PySem.W.kxs_mw "ValueError.__init__" e)] σ H ⟨h'.push (PySem.W.kxs_mw "ValueError.__init__" e), g, d, t + 1, os⟩ := I2.pins_of fun p hp => by
    rw [List.mem_singleton.mp hp]
    exact ⟨hnew, I1.hok.fresh (Nat.le_refl _), fun z => Nat.lt_irrefl _ (z ▸ I1.lt), I1.nofs (Nat.le_refl _), fun v z => by cases z⟩
  show wpAny _ _ (callWith p3 (.ref h'.objs.size) [] (backTo p3 (starEach [fe] X.env)) []) _ _ _
  have hargs := (pa_cons (X := X) hfe pa_nil hstar).run p3 _ _ σ H (fun vs H1 => H1 = H ∧ ∃ z : Str, vs = [V.str z]) I3 hte
  rw [hstar] at hargs ⊢
  refine PySem.W.kxs_callWith (i := "ValueError.__init__") (x := e) (by rfl) ?_
  refine Calls.evalArgs_plain ?_
  refine wpAny_mono hargs (fun us s1 hq => ?_) fun _ _ z => z
  obtain ⟨vs, H1, I4, rv, rfl, z, rfl⟩ := hq
  have hu := (I4.pin (h'.objs.size, PySem.W.kxs_mw "ValueError.__init__" e) (List.mem_append_right _ (List.mem_singleton.mpr rfl))).1
  refine ⟨hu, ?_⟩
  obtain ⟨t4, ho4⟩ := exo_at I4.hok hexo
  have K4 := I4.kIn
  obtain ⟨h4, g4, d4, tk4, os4⟩ := s1
  refine call_mw (K4 _ _ hC) ho4 hu (by
    have := rv.length
    show us.length ≤ _
    rw [← this]
    show 1 ≤ sizeLine
    rw [show sizeLine = 16777216 from rfl]; omega) fun h5 t5 k5' hx => ?_
  have J := I4.write (t' := tk4) (x := e) (e := e) (o := exo e C none) (by rw [hexo]; exact True.intro) (.inl rfl) k5' ⟨_, hx⟩ (exo_ok hx)
  have eu : upd H1 e (exo e C none) = H1 := by
    funext b
    by_cases hb : b = e
    · rw [hb, upd_same, hexo]
    · rw [upd_ne hb]
  rw [eu] at J
  exact PySem.wpAt_of_wpAny (wpAny_mono (hrest.run _ _ σ H1 D J htr) (fun f s6 h6 => ⟨_, h6⟩) fun _ _ z => z)
theorem hint {qual : Str} {scope : Scope} {L f : Addr} {cd : Value} {cc : Addr} (h : scope.kind = .function) : interactive (PySem.W.ksEnv qual scope L f cd cc) = false := by
  unfold interactive
  simp [h]
theorem init_fn {CX : CXT} {P : Program} {w : World} {K : PySem.W.Frag} {mg : Str → Option Value} {base : Heap} {k : Nat} {fI : Addr} {name qual : Str} {params : Arguments} {rest : List Stmt} {fe : Expr} {p0 p1 p2 p3 p4 : Pos} {scope : Scope} {dV kV doc pm ct oc : Value} {an od : Option Addr} {osl : Array (Option Value)} {cc cda C : Addr} {ar : Arg} {ps : List Str} {te : TE} {tr : TS}
    (lk : K.lookup fI = some ⟨oc, od, .func (PySem.W.ksFn name qual params (.Expr (.Call (.Attribute (.Call (.Name "super" p0) [] [] p1) "__init__" p2) [fe] [] p3) p4 :: rest) scope dV kV doc pm an (.ref cda) ct cc), osl⟩) (hcd : PySem.W.codeIn K (.ref cda) qual = true)
    (S : InitScope ps scope) (har : (params.posonlyargs ++ params.args).head? = some ar) (hps : ps.head? = some ar.arg) (Z : SupC P K mg C cc cda)
    (hfe : ∀ (A : Around) (outer : List Env) (s : Shared) (H : Hp) (E : XK), PE (cxI CX P w K mg base ps qual scope fI (.ref cda) cc A outer s H E) fe te)
    (hrest : ∀ (A : Around) (outer : List Env) (s : Shared) (H : Hp) (E : XK), PSs (cxI CX P w K mg base ps qual scope fI (.ref cda) cc A outer s H E) rest tr)
    (hstar : ∀ env, starEach [fe] env = (false, eval fe env) :: starEach [] env) (hsw : ∀ env, swapsWith (.Call (.Attribute (.Call (.Name "super" p0) [] [] p1) "__init__" p2) [fe] [] p3) none p4.line env = pure false)
    (hev : ∀ env, ∃ pl : Sem Bool, eval (.Call (.Attribute (.Call (.Name "super" p0) [] [] p1) "__init__" p2) [fe] [] p3) env = (do
      let ov ← attributeBase (.Call (.Name "super" p0) [] [] p1) "__init__" env (eval (.Call (.Name "super" p0) [] [] p1) env)
      standAt p2.atName
      let (f, first) ← holding [ov] (getMethod ov "__init__" pl)
      callWith p3 f first (backTo p3 (starEach [fe] env)) [])) :
    FnOk P w K mg base CX (k + 1) fI (PySem.W.ksFn name qual params (.Expr (.Call (.Attribute (.Call (.Name "super" p0) [] [] p1) "__init__" p2) [fe] [] p3) p4 :: rest) scope dV kV doc pm an (.ref cda) ct cc) ps (spI C ps te tr) := by
  refine ⟨fun vs H Q E h => h.1, fun A outer s H args us vs Q E hr e0 hb r hsp => ?_⟩
  obtain ⟨hl, e, hve, hexo, hte, htr⟩ := hsp
  obtain ⟨cl, cld, csl, hcell⟩ := Z.cell
  obtain ⟨ccl, cdd, cvs, ccs, file, tf, hcode, hcv, hfile⟩ := Z.code
  obtain ⟨nm, q, N, bs, bm, sn, sub, ab, col, dd, k0, k1, k2, k3, k5, hC, hbm⟩ := Z.T.cls
  have hlu : us.length = ps.length := by rw [← r.length]; exact hl
  have KX : K.In s.heap := e0.mod.kin.keeps fun b o e => (e0.bs b o e).1
  have lim : s.heap.NoLimit := e0.mod.nolimit.keeps fun b o e => (e0.bs b o e).1
  refine ks_codeAny_call_defAt (binds := ps.zip us) hr.depth (KX _ _ lk) rfl lim (PySem.W.codeRec_of KX hcd) rfl hb S.cell (fun y hy => S.par _ (List.of_mem_zip (show (y.1, y.2) ∈ _ from hy)).1) (fun h₀ hns hk => ?_) S.co S.gen S.kind
  have I := inv_init (CX := CX) (qual := qual) (f := fI) (cd := .ref cda) (E := E) (tk := s.toks + (ps.zip us).length) S hr.hd e0 hlu r hcell hns hk
  have hfe := hfe A outer s H E
  have hrest := hrest A outer s H E
  obtain ⟨pl, hev⟩ := hev (PySem.W.ksEnv qual scope s.heap.objs.size fI (.ref cda) cc)
  have h0 : ps[0]? = some ar.arg := by rw [← List.head?_eq_getElem?]; exact hps
  have hσ : (vs.map some)[0]? = some (some (V.ref e)) := by rw [List.getElem?_map, ← List.head?_eq_getElem?, hve]; rfl
  refine PySem.wpAt_mono (init_walk (X := cxI CX P w K mg base ps qual scope fI (.ref cda) cc A outer s H E) (fd := PySem.W.ksFn name qual params (.Expr (.Call (.Attribute (.Call (.Name "super" p0) [] [] p1) "__init__" p2) [fe] [] p3) p4 :: rest) scope dV kV doc pm an (.ref cda) ct cc) (pl := pl) (D := { nx := fun _ H' => Q .non H', rt := Q }) I S.sup S.cls (S.par _ (List.mem_of_getElem? h0)) rfl lk har rfl rfl h0 hσ Z hexo ⟨_, hk _ _ (KX _ _ hcell), rfl⟩ hfe hte hrest htr (hint S.kind) (hstar _) (hsw _) hev) (fun fl s' hs => ?_) fun _ _ z => z
  obtain ⟨pins, hs⟩ := hs
  have fin : ∀ {σ' : L2.St} {H' : Hp} {v : V} {u : Value}, Inv (cxI CX P w K mg base ps qual scope fI (.ref cda) cc A outer s H E) pins σ' H' s' → RelV v u → Q v H' → CE outer P w H s Q u s' :=
    fun {σ' H' v u} J rv q => ⟨v, H', J.os, J.bare, J.base, J.hok, rv, q⟩
  cases fl with
  | ret u =>
    obtain ⟨v, σ', H', J, rv, q⟩ := hs
    exact fin J rv q
  | next =>
    obtain ⟨σ', H', J, q⟩ := hs
    exact fin (v := V.non) (u := Value.none) J rfl q
  | brk =>
    obtain ⟨_, _, _, q⟩ := hs
    exact False.elim q
  | cont =>
    obtain ⟨_, _, _, q⟩ := hs
    exact False.elim q
end SI
/-! AB41: C(v), C with one field, and its raise -/
namespace SI
open PySem PySem.Spec PyProof.Rows L2
section
variable {X : Cx}
/-- {x}: a text, an int, None -/
def tFmtN (te : TE) : TE := fun σ H Q => te σ H fun x H1 => (∃ y : Str, x = .str y ∧ y.length ≤ sizeLine ∧ Q (.str y) H1) ∨ (∃ i : Int, x = .int i ∧ i.natAbs.log2 < 1920 ∧ Q (.str (toString i)) H1) ∨ (x = .non ∧ Q (.str "None") H1)
theorem pe_fmtN {e : Expr} {te : TE} {pos : Pos} (he : PE X e te) : PE X (.FormattedValue e (-1) none pos) (tFmtN te) := by
  refine ⟨fun pins s σ H Q I h => ?_⟩
  refine wpAny_FormattedValue_plain (thn (he.run pins s σ H _ I h) fun v s1 hv => ?_)
  obtain ⟨x, H1, I1, r1, q⟩ := hv
  rcases q with ⟨y, rfl, hz, q⟩ | ⟨i, rfl, hz, q⟩ | ⟨rfl, q⟩
  · obtain ⟨t, rfl⟩ := r1
    exact wpAny_formatField_str ⟨.str y, H1, I1, ⟨t, rfl⟩, q⟩ ⟨.str y, H1, I1.tok _, ⟨_, rfl⟩, q⟩ hz
  · obtain ⟨t, rfl⟩ := r1
    exact wpAny_formatField_int hz ⟨.str (toString i), H1, I1.tok _, ⟨_, rfl⟩, q⟩
  · obtain rfl : v = Value.none := r1
    exact wpAny_formatField_none ⟨.str "None", H1, I1.tok _, ⟨_, rfl⟩, q⟩
end
def FmtV (x : V) : Prop := (∃ y : Str, x = .str y ∧ y.length ≤ 1000) ∨ (∃ i : Int, x = .int i ∧ i.natAbs.log2 < 1920) ∨ x = .non
def sp1 (C : Addr) (f : Str) : Sp := fun vs H Q _ => ∃ e x, vs = [.ref e, x] ∧ H e = some (exo e C none) ∧ FmtV x ∧ ∀ dx, H dx = none → dx ≠ e → Q .non (upd (upd H dx (exd dx [(f, x)])) e (exo e C (some dx)))
theorem str_app_len (a b : Str) : (a ++ b).length = a.length + b.length := by
  exact PySem.Str.length_append a b
theorem init1_fn {CX : CXT} {P : Program} {w : World} {K : PySem.W.Frag} {mg : Str → Option Value} {base : Heap} {k : Nat} {fI : Addr} {name qual : Str} {params : Arguments} {p0 p1 p2 p3 p4 q1 q2 q3 q4 q5 q6 q7 q8 : Pos} {j : Nat} {m f : Str} {scope : Scope} {dV kV doc pm ct oc : Value} {an od : Option Addr} {osl : Array (Option Value)} {cc cda C : Addr} {ar : Arg}
    (lk : K.lookup fI = some ⟨oc, od, .func (PySem.W.ksFn name qual params [.Expr (.Call (.Attribute (.Call (.Name "super" p0) [] [] p1) "__init__" p2) [.JoinedStr [.Constant (.str m) j q1, .FormattedValue (.Name f q2) (-1) none q3] q4] [] p3) p4, .Assign [.Attribute (.Name "self" q5) f q6] (.Name f q7) q8] scope dV kV doc pm an (.ref cda) ct cc), osl⟩)
    (hcd : PySem.W.codeIn K (.ref cda) qual = true) (S : InitScope ["self", f] scope) (har : (params.posonlyargs ++ params.args).head? = some ar) (hps : ar.arg = "self") (Z : SupC P K mg C cc cda) (hm : m.length ≤ 1000) (hno : PySem.W.findIn K (.ref C) f = some none)
    (hd : (f == ("__debug__" : Str)) = false) (hcd2 : (f == ("__classdict__" : Str)) = false)
    (hev : ∀ env, ∃ pl : Sem Bool, eval (.Call (.Attribute (.Call (.Name "super" p0) [] [] p1) "__init__" p2) [.JoinedStr [.Constant (.str m) j q1, .FormattedValue (.Name f q2) (-1) none q3] q4] [] p3) env = (do
      let ov ← attributeBase (.Call (.Name "super" p0) [] [] p1) "__init__" env (eval (.Call (.Name "super" p0) [] [] p1) env)
      standAt p2.atName
      let (f', first) ← holding [ov] (getMethod ov "__init__" pl)
      callWith p3 f' first (backTo p3 (starEach [.JoinedStr [.Constant (.str m) j q1, .FormattedValue (.Name f q2) (-1) none q3] q4] env)) [])) :
    FnOk P w K mg base CX (k + 1) fI (PySem.W.ksFn name qual params [.Expr (.Call (.Attribute (.Call (.Name "super" p0) [] [] p1) "__init__" p2) [.JoinedStr [.Constant (.str m) j q1, .FormattedValue (.Name f q2) (-1) none q3] q4] [] p3) p4, .Assign [.Attribute (.Name "self" q5) f q6] (.Name f q7) q8] scope dV kV doc pm an (.ref cda) ct cc) ["self", f] (sp1 C f) := by
  refine (init_fn (w := w) (base := base) (te := fun σ H Q => tJs [tC (.str m), tFmtN (tVar 1)] Str.empty σ H fun out H1 => Q (.str out) H1) (tr := tOst K f (tVar 0) (tVar 1)) lk hcd S har (by rw [hps]; rfl) Z (fun A outer s H E => ?_) (fun A outer s H E => ?_) (fun env => rfl) (fun env => rfl) hev).imp fun vs H Q E h => ?_
  · exact pe_joined (.cons pe_str (.cons (pe_fmtN (pe_var rfl (.inl (S.par f (by simp))) hd hcd2)) .nil))
  · exact pss_one (ps_ost (pe_var rfl (.inl (S.par "self" (by simp)))) (pe_var rfl (.inl (S.par f (by simp))) hd hcd2))
  · obtain ⟨e, x, rfl, he, hx, hq⟩ := h
    refine ⟨rfl, e, rfl, he, ?_, ?_⟩
    · show ∃ y : Str, V.str m = .str y ∧ (Str.empty ++ y).length ≤ sizeLine ∧ _
      have e0 : (Str.empty : Str).length = 0 := rfl
      refine ⟨m, rfl, by rw [str_app_len, e0, show sizeLine = 16777216 from rfl]; omega, x, rfl, ?_⟩
      have fin : ∀ z : Str, z.length ≤ 3000 → ∃ y : Str, V.str z = .str y ∧ (Str.empty ++ m ++ y).length ≤ sizeLine ∧ (fun out H1 => H1 = H ∧ ∃ z : Str, [V.str out] = [V.str z]) (Str.empty ++ m ++ y) H := fun z hz => ⟨z, rfl, by rw [str_app_len, str_app_len, e0, show sizeLine = 16777216 from rfl]; omega, rfl, _, rfl⟩
      rcases hx with ⟨y, rfl, hy⟩ | ⟨i, rfl, hi⟩ | rfl
      · exact .inl ⟨y, rfl, by rw [show sizeLine = 16777216 from rfl]; omega, fin y (by omega)⟩
      · refine .inr (.inl ⟨i, rfl, hi, fin _ ?_⟩)
        have e := PySem.int_text_length_le (k := 1920) (by decide) hi
        rw [PySem.ofString_length]; omega
      · exact .inr (.inr ⟨rfl, fin _ (by decide)⟩)
    · refine ⟨x, rfl, .ref e, rfl, e, C, rfl, Z.T, hno, .inl ⟨he, fun dx h1 h2 => hq dx h1 h2⟩⟩
/-- what raise C(v) needs -/
structure Exc1 (P : Program) (w : World) (K : PySem.W.Frag) (mg : Str → Option Value) (base : Heap) (x f : Str) (k : Nat) : Prop where
  ex : ∃ C fI fd, mg x = some (.ref C) ∧ OexC K C ∧ PySem.W.findIn K (.ref C) "__init__" = some (some (.ref fI)) ∧ PySem.W.typeIn K (.ref fI) = some (.type "function") ∧ FnOk P w K mg base (L2.CX P w) k fI fd ["self", f] (sp1 C f) ∧ Binds K fd ["self", f] []
theorem pmk1 {X : Cx} {x f : Str} {C fI : Addr} {k : Nat} {fd : FuncData} {e : Expr} {p pos : Pos} {ta : TA} (T : OexC X.K C) (iC : PySem.W.findIn X.K (.ref C) "__init__" = some (some (.ref fI))) (tI : PySem.W.typeIn X.K (.ref fI) = some (.type "function"))
    (F1 : FnOk X.prog X.w X.K X.mg X.base (L2.CX X.prog X.w) k fI fd ["self", f] (sp1 C f)) (hb : Binds X.K fd ["self", f] []) (hr : Room (k + 1) X.A) (hg : Gl X x) (hm : X.mg x = some (.ref C)) (ha : PA X [e] ta)
    (hmono : ∀ {σ H} {Q Q' : List V → Hp → Prop}, ta σ H Q → (∀ vs H1, Q vs H1 → Q' vs H1) → ta σ H Q')
    (hdb : (x == ("__debug__" : Str)) = false := by decide) (he : starEach [e] X.env = (false, eval e X.env) :: starEach [] X.env := by rfl) :
    PMk X (.Call (.Name x p) [e] [] pos) (fun σ H Q => ta σ H fun vs H1 => ∃ v, vs = [v] ∧ FmtV v ∧ ∀ d, H1 d = none → Q (.ref C) (some d) (upd H1 d (.xd [(f, v)]))) := by
  have M := pmk_oex (p := p) (pos := pos) T iC tI F1 hr hb (dvs := []) .nil (fun pins σ H s e' s' I c => by obtain ⟨_, _, _, _, _, _, _, _, _, _, _, _, h⟩ := c; exact h.elim) hg hm ha hdb he rfl
  intro pins s σ H Q I h
  refine M pins s σ H Q I (hmono h fun vs H1 h1 => ?_)
  obtain ⟨v, rfl, hv, hq⟩ := h1
  refine ⟨by simp, fun a ha => ⟨a, v, rfl, upd_same, hv, fun dx hdx hne => ?_⟩⟩
  have hd1 : H1 dx = none := by rw [upd_ne hne] at hdx; exact hdx
  refine ⟨rfl, dx, [(f, v)], upd_same, by rw [upd_ne hne, upd_same], hd1, ?_⟩
  have e : upd (del (upd (upd (upd H1 a (exo a C none)) dx (exd dx [(f, v)])) a (exo a C (some dx))) a) dx (.xd [(f, v)]) = upd H1 dx (.xd [(f, v)]) := by
    funext b
    by_cases hb : b = dx
    · rw [hb, upd_same, upd_same]
    · rw [upd_ne hb, upd_ne hb]
      by_cases hb2 : b = a
      · rw [hb2, del_same, ha]
      · rw [del_ne hb2, upd_ne hb2, upd_ne hb, upd_ne hb2]
  rw [e]
  exact hq dx hd1
end SI
namespace AB
open PySem PySem.Spec PyProof.Rows L2
def okFmt : A → Bool
  | .int i => decide (i.natAbs.log2 < 1920)
  | .str y => decide (y.length ≤ 1000)
  | .non => true
  | _ => false
theorem okFmt_ok {ρ : List Addr} {H : Hp} {a : A} {v : V} (h : okFmt a = true) (i : Is ρ H a v) : SI.FmtV v := by
  cases i with
  | non => exact .inr (.inr rfl)
  | int i => exact .inr (.inl ⟨i, rfl, of_decide_eq_true h⟩)
  | str y => exact .inl ⟨y, rfl, of_decide_eq_true h⟩
  | _ => cases h
def raise1 (x f : Str) (τ : Sl) (a : A) (M : Store) : SO := if okFmt a = true then .ex ⟨x, some M.length⟩ τ (M ++ [.xd [(f, a)]]) else .bad
def sRaise1 (x f : Str) (fe : EFs) : SF := fun τ M => (fe τ M).bindS τ fun as M1 => match as with
  | [a] => raise1 x f τ a M1
  | _ => .bad
section
variable {X : Cx} {W : WR} {pos : Pos} {e : Expr}
theorem as_raise1 {x f : Str} {k : Nat} {fs : EFs} {p pos2 : Pos} (hc : X.calm = true) (tk : Takes X W.w) (G : SI.Exc1 X.prog X.w X.K X.mg X.base x f k) (hr : Room (k + 1) X.A) (ha : AA X W [e] fs) (hg : Gl X x := by rfl)
    (hdb : (x == ("__debug__" : Str)) = false := by decide) (he : starEach [e] X.env = (false, eval e X.env) :: starEach [] X.env := by rfl) :
    AS X W (.Raise (some (.Call (.Name x p) [e] [] pos2)) none pos) (sRaise1 x f fs) := by
  obtain ⟨C, fI, fd, hm, T, iC, tI, F1, hb⟩ := G.ex
  refine (ps_raise hc tk (SI.pmk1 (p := p) (pos := pos2) T iC tI F1 hb hr hg hm ha (fun h q => tG.imp h q) hdb he)).pre fun D σ H h => ?_
  refine (bindS_tK IsAll h).imp fun vs H1 h1 => ?_
  obtain ⟨τ, M, ρ, as, rs, rm, i, r⟩ := h1
  cases i with
  | nil => exact r.elim
  | cons i1 i2 =>
    cases i2 with
    | cons _ _ => exact r.elim
    | nil =>
      rename_i a v
      have r : RSO (X.gx W.Tb) W D ρ H1 (raise1 x f τ a M) := r
      unfold raise1 at r
      split at r
      · rename_i hok
        refine ⟨v, rfl, okFmt_ok hok i1, fun d hd => ?_⟩
        have gd : Grow H1 (upd H1 d (.xd [(f, v)])) := .new hd
        refine r (.ref C) (some d) σ _ (ρ ++ [d]) (.snoc ρ d) gd (rm.push (c := .xd [(f, a)]) hd ⟨[v], upd_same, .cons (i1.mono (.snoc ρ d) gd) .nil⟩) (rs.mono (.snoc ρ d) gd) ⟨C, hm, rfl, d, rfl, by rw [← rm.len]; simp⟩
      · exact r.elim
end
end AB
/-! AB42: try .. except X as n; in its suite isinstance(n, C) and n.f -/
namespace PySem.W
open PySem PySem.Spec PySem.Calls PyProof.Rows
section
variable {prog : Program} {w : World} {A : Around} {E : Value → Shared → Prop} {s : Shared} {K : Frag} {x D : Addr} {ox : Obj} {od : Option Obj}
theorem ee_find {C : Addr} {name : Str} {a g : Value} (hc : (clsIn K C).isSome = true) (ha : findIn K (.ref C) name = some (some a)) (hg : specialIn K a "__get__" = some (some g)) (ht : takesIn K a = some true) : findObj K C od name = some (.bind g a) := by
  obtain ⟨cd, hc⟩ := Option.isSome_iff_exists.mp hc
  unfold findObj
  rw [hc, Option.bind_some, ha, Option.bind_some]
  simp [hg, ht]
theorem ee_class {Q : Option Value → Shared → Prop} (Ex : L2.ExcC K D) (X : K.In s.heap) (I : InstAt s.heap x ox D od) (h : Q (some (.ref D)) { s with toks := s.toks + 1 }) : wpAny (model prog w) A (getAttr? (.ref x) "__class__") Q E s := by
  have hc : (clsIn K D).isSome = true := by obtain ⟨cd, hc, _⟩ := any_some Ex.hd; rw [hc]; rfl
  have hf : findObj K D od "__class__" = some (.bind (.builtin "getset_descriptor.__get__") (.builtin "object.__class__")) := ee_find hc Ex.ha Ex.hn Ex.ht
  obtain ⟨hp, g, d, t, os⟩ := s
  have T0 : Looks (model prog w) hp (typeOf (.ref x)) (.ref D) := I.type
  have T1 : Looks (model prog w) hp _ _ := looks_findIn (M := model prog w) X Ex.hg
  have T2 : Looks (model prog w) hp _ _ := looks_findIn (M := model prog w) X Ex.hk
  have T3 : Looks (model prog w) hp _ _ := looks_find (M := model prog w) X I hf
  have below : Looks (model prog w) hp (isInstance (.ref x) (.type "BaseException")) true := T0.andThen (looks_subIn X Ex.hs)
  have n1 : (Value.builtin "BaseException.__getattribute__" == Value.builtin "object.__getattribute__") = false := by decide +kernel
  unfold getAttr? getAttrBy? getAttrBy
  refine wpAny_bind (wpAny_mkText (wpAny_bind (wpAny_attempt (wpAny_holding (wpAny_bind (T0.at (wpAny_bind (T1.at ?_))))))))
  refine KFB.if_not (by rw [n1]; rfl) ?_
  unfold getAttrByItsOwn hookBefore
  refine wpAny_bind (KFB.if_so rfl (T2.at ?_))
  refine wpAny_bind (wpAny_attempt (wpAny_holding ?_))
  unfold callGetattribute
  refine KFB.if_not rfl ?_
  unfold boundAndCalled
  refine wpAny_bind (wpAny_of_eq (PySem.F.excAttr_ValueError.ga.bind (.ref x)) ?_)
  refine wpAny_call (codeAny_call_builtin PySem.F.excAttr_ValueError.ga.plain PySem.F.entry_bexc_ga (@check_slot (model prog w) _ _ ⟨hp, g, d, t + 1, os⟩ "BaseException.__getattribute__" "BaseException" "__getattribute__" (.ref x) [.str "__class__" t] [] _ (by decide +kernel) (by decide +kernel) below (PySem.F.args_bexc_ga (.ref x) (.str "__class__" t)) ?_))
  unfold Builtin.«object.__getattribute__»
  refine wpAny_bind (wpAny_of_eq (a := ((Value.ref x : Value), [Value.str "__class__" t])) (by first | rfl | (simp only [slotArgs]; rfl)) (wpAny_bind (wpAny_pure (wpAny_bind (T0.at (wpAny_bind (T3.at ?_)))))))
  refine wpAny_bind (wpAny_holding (wpAny_call (class_get (s := ⟨hp, g, d, t + 1, os⟩) (ox := ox) (od := od) X I Ex.hm (wpAny_pure ?_))))
  show wpAny _ _ (handedOut (.ref D)) _ _ _
  rw [handedOut_of (v := .ref D) rfl]
  first
    | exact wpAny_pure (wpAny_pure h)
    | exact wpAny_pure h
    | exact wpAny_pure (wpAny_bind (wpAny_pure (wpAny_pure h)))
theorem ee_kit (Ex : L2.ExcC K D) : KitX K (.ref x) (.ref D) (fun h => InstAt h x ox D od) where
  ty := fun _ _ _ I => I.type
  it := fun M h X _ => by
    obtain ⟨cd, hc, _⟩ := any_some Ex.hd
    unfold clsIn at hc
    split at hc
    · rename_i hl
      intro A' Q' E' s' k q
      unfold isType loadHead
      refine wpAny_bind (wpAny_loadPart (k _ _ (X _ _ hl)) (wpAny_pure q))
    · cases hc
  ne := (handS_kitx_exc (x := x) (ox := ox) Ex.hg Ex.hk Ex.hs Ex.hd Ex.ha Ex.hn Ex.ht Ex.hm).ne
  ca := fun X I k => ee_class Ex X I k
end
end PySem.W
namespace L2
open PySem PySem.Spec PyProof.Rows
/-- an exception with its dict, as it stands -/
theorem inst_of {X : Cx} {pins : List (Addr × Obj)} {σ : St} {H : Hp} {s : Shared} {a D : Addr} {oe : Obj} {pn : List (Addr × Obj)} {d : Option Addr} (I : Inv (X.suite a ((a, oe) :: pn)) pins σ H s) (hz : Zc (.ref D) d oe) (hf : ∃ vs, oe.data = .fields vs) (hd : d = none ∨ ∃ dd fs, d = some dd ∧ H dd = some (.xd fs)) :
    ∃ od, PySem.W.InstAt s.heap a oe D od := by
  obtain ⟨hget, _⟩ := I.pin (a, oe) (List.mem_append.mpr (.inl List.mem_cons_self))
  obtain ⟨vs, hv⟩ := hf
  obtain ⟨h1, h2⟩ := hz
  have hn : PySem.W.notCls oe = true := by unfold PySem.W.notCls; rw [hv] <;> rfl
  rcases hd with rfl | ⟨dd, fs, rfl, hx⟩
  · exact ⟨none, hget, h1, hn, by rw [h2]; trivial⟩
  · have hx : ObjOk X.prog X.w H s.heap dd (.xd fs) := I.hok dd _ hx
    obtain ⟨mA, hns, _⟩ := hx
    obtain ⟨o, es, ep, ho, _⟩ := hns
    exact ⟨some o, hget, h1, hn, by rw [h2]; exact ho⟩
def rIsX (K : PySem.W.Frag) (D a : Addr) (d : Option Addr) : List V → Hp → VK → Prop := fun xs H Q => ∃ (c : V) (cv : Value) (b : Bool), xs = [.ref a, c] ∧ (∀ u, RelV c u → u = cv) ∧ PySem.W.kitOne K (.ref D) cv = some b ∧ (d = none ∨ ∃ dd fs, d = some dd ∧ H dd = some (.xd fs)) ∧ Q (.bl b) H
theorem call_isX {X : Cx} {a D : Addr} {oe : Obj} {pn : List (Addr × Obj)} {d : Option Addr} (C : ExcC X.K D) (hz : Zc (.ref D) d oe) (hf : ∃ vs, oe.data = .fields vs) : CallR (X.suite a ((a, oe) :: pn)) (.builtin "isinstance") (rIsX X.K D a d) := by
  intro pins s σ H xs us Q I r h
  obtain ⟨c, cv, b, rfl, hcv, e, hd, q⟩ := h
  cases r with
  | cons rx rr =>
    cases rr with
    | cons rt rr =>
      cases rr
      cases rx
      have ec := hcv _ rt
      subst ec
      obtain ⟨od, J⟩ := inst_of I hz hf hd
      exact PySem.W.kia_one (PySem.W.ee_kit C) I.kIn J e (fun z => nomatch z) fun tk => ⟨.bl b, H, I.kept (t' := tk) fun _ _ z => z, rfl, q⟩
end L2
namespace AB
open PySem PySem.Spec PyProof.Rows L2
/-- which of the named classes are under the clause's class -/
def ExTab (K : PySem.W.Frag) (mg : Str → Option Value) (c : Value) (xs : List (Str × Bool)) : Prop := ∀ n b, xs.lookup n = some b → ∃ C, mg n = some (.ref C) ∧ PySem.W.exmOne K (.ref C) c = some b
def endTry (i : Nat) : SO → SO
  | .nx τ M => .nx (τ.set i none) M
  | .rt a M => .rt a M
  | .bk τ M => .bk (τ.set i none) M
  | .ct τ M => .ct (τ.set i none) M
  | _ => .bad
def sTry (xs : List (Str × Bool)) (i : Nat) (body : SF) (suite : Exn → Nat → SF) : SF := fun τ M => match body τ M with
  | .ex e τ1 M1 => match xs.lookup e.name with
    | some true => endTry i (suite e M1.length (τ1.set i (some (.obj M1.length))) (M1 ++ [.obj]))
    | some false => .ex e τ1 M1
    | none => .bad
  | o => o
/-- what is known of the exception in the suite -/
structure Held (X : Cx) (r : List Addr) (e : Exn) (l : Nat) (a : Addr) (cls : Value) (d : Option Addr) : Prop where
  at_ : r[l]? = some a
  cls : ∃ C, X.mg e.name = some (.ref C) ∧ cls = .ref C
  dct : match e.dct with
    | none => d = none
    | some k => ∃ dd, d = some dd ∧ r[k]? = some dd
section
variable {X : Cx} {W : WR} {pos : Pos}
theorem as_try (i : Nat) {xK n : Str} {cK : Value} {xs : List (Str × Bool)} {body suite : List Stmt} {b₀ : Stmt} {np pos' : Pos} {sb : SF} {su : Exn → Nat → SF} (hs : X.stack = X.env :: X.outer) (hf : X.env.frame = some X.env.locals) (hN : X.N.Nodup) (hi : X.N[i]? = some n) (hln : X.env.kindOf n = some .local) (hc : Names X xK cK) (tk : Takes X W.w) (hx : ExTab X.K X.mg cK xs)
    (hb : ∀ (W' : WX) (pn : List (Addr × Obj)) (xe : Value → Shared → Prop), Takes (X.tr pn xe) W' → PassesOwn (model X.prog X.w) X.A X.env xe → ASs (X.tr pn xe) ⟨W', W.Tb, W.r, W.h⟩ body sb)
    (hsu : ∀ (a : Addr) (oe : Obj) (cls : Value) (d : Option Addr) (pn : List (Addr × Obj)) (e : Exn) (l : Nat) (r : List Addr) (h : Hp), Zc cls d oe → (∃ vs, oe.data = .fields vs) → Held X r e l a cls d → ASs (X.suite a ((a, oe) :: pn)) ⟨fun _ _ _ _ => False, W.Tb, r, h⟩ (b₀ :: suite) (su e l)) :
    AS X W (.Try body [.ExceptHandler (some (.Name xK np)) (some n) (b₀ :: suite) pos'] [] [] pos) (sTry xs i sb su) := by
  refine (ps_try_as (tb := fun W' => tS (X.gx W.Tb) ⟨W', W.Tb, W.r, W.h⟩ sb) (ts := fun a cls d D σ H => ∃ e l r h, Held X r e l a cls d ∧ tS (X.gx W.Tb) ⟨fun _ _ _ _ => False, W.Tb, r, h⟩ (su e l) D σ H) hs hf hN hi hln hc tk (fun W' pn xe t p => hb W' pn xe t p)
    (fun a oe cls d pn hz hf => ⟨fun pins s σ H D I h => by
      obtain ⟨e, l, r, h0, hh, q⟩ := h
      exact (hsu a oe cls d pn e l r h0 hz hf hh).run pins s σ H D I q⟩)).pre fun D σ H h => ?_
  obtain ⟨τ, M, ρ, rs, rm, r⟩ := h
  refine ⟨τ, M, ρ, ⟨rs.ext, rs.grow, rs.s⟩, rm, ?_⟩
  unfold sTry at r
  cases e0 : sb τ M with
  | nx τ1 M1 => rw [e0] at r; exact fun σ' H' ρ' x g m i => r σ' H' ρ' x g m ⟨i.ext, i.grow, i.s⟩
  | rt a M1 => rw [e0] at r; exact r
  | bk τ1 M1 => rw [e0] at r; exact fun σ' H' ρ' x g m i => r σ' H' ρ' x g m ⟨i.ext, i.grow, i.s⟩
  | ct τ1 M1 => rw [e0] at r; exact fun σ' H' ρ' x g m i => r σ' H' ρ' x g m ⟨i.ext, i.grow, i.s⟩
  | bad => rw [e0] at r; exact r
  | ex e τ1 M1 =>
    rw [e0] at r
    dsimp only at r
    intro cls d σ' H' ρ' x g m i' ix
    cases el : xs.lookup e.name with
    | none => rw [el] at r; exact r.elim
    | some b =>
      obtain ⟨C, hC, hcl, hdd⟩ := ix
      obtain ⟨C', hC', hex⟩ := hx _ _ el
      have hCC : C' = C := by
        have := hC'.symm.trans hC
        cases this; rfl
      subst hCC
      subst hcl
      refine ⟨b, hex, fun hb1 a na => ?_, fun hb0 => ?_⟩
      · subst hb1
        rw [el] at r
        dsimp only at r
        have hlen : ρ'.length = M1.length := m.len
        have hat : (ρ' ++ [a])[M1.length]? = some a := by rw [← hlen]; simp
        have hheld : Held X (ρ' ++ [a]) e M1.length a (.ref C') d := ⟨hat, ⟨C', hC, rfl⟩, by
          cases hd : e.dct with
          | none => rw [hd] at hdd; exact hdd
          | some k =>
            rw [hd] at hdd
            obtain ⟨dd, h1, h2⟩ := hdd
            exact ⟨dd, h1, (Ext.snoc ρ' a).get h2⟩⟩
        have r := RSO.mono r x g
        refine ⟨e, M1.length, ρ' ++ [a], H', hheld, τ1.set i (some (.obj M1.length)), M1 ++ [.obj], ρ' ++ [a], ⟨.refl _, .refl _, (i'.s.mono (.snoc ρ' a) (.refl _)).set (.obj hat) i⟩, m.name a, ?_⟩
        have back : ∀ {ρ2 : List Addr} {H2 : Hp} {τ2 : Sl} {σ2 : L2.St}, Ext (ρ' ++ [a]) ρ2 → Grow H' H2 → RS0 ρ2 H2 τ2 σ2 → RS W ρ2 H2 (τ2.set i none) (σ2.set i none) := fun x2 g2 s2 => ⟨(i'.ext.trans (.snoc ρ' a)).trans x2, i'.grow.trans g2, s2.unset i none⟩
        cases e1 : su e M1.length (τ1.set i (some (.obj M1.length))) (M1 ++ [.obj]) with
        | nx τ2 M2 => rw [e1] at r; exact fun σ2 H2 ρ2 x2 g2 m2 i2 => r _ H2 ρ2 ((Ext.snoc ρ' a).trans x2) g2 m2 (back x2 g2 i2.s)
        | rt a2 M2 => rw [e1] at r; exact fun v H2 ρ2 x2 g2 m2 i2 => r _ H2 ρ2 ((Ext.snoc ρ' a).trans x2) g2 m2 i2
        | bk τ2 M2 => rw [e1] at r; exact fun σ2 H2 ρ2 x2 g2 m2 i2 => r _ H2 ρ2 ((Ext.snoc ρ' a).trans x2) g2 m2 (back x2 g2 i2.s)
        | ct τ2 M2 => rw [e1] at r; exact fun σ2 H2 ρ2 x2 g2 m2 i2 => r _ H2 ρ2 ((Ext.snoc ρ' a).trans x2) g2 m2 (back x2 g2 i2.s)
        | ex e2 τ2 M2 => rw [e1] at r; exact r.elim
        | bad => rw [e1] at r; exact r.elim
      · subst hb0
        rw [el] at r
        exact r (.ref C') d σ' H' ρ' x g m ⟨i'.ext, i'.grow, i'.s⟩ ⟨C', hC, rfl, hdd⟩
end
/-! ### in the suite -/
def IsTab (K : PySem.W.Frag) (mg : Str → Option Value) (c : Str) (xs : List (Str × Bool)) : Prop := ∀ n b, xs.lookup n = some b → ∃ C D, mg n = some (.ref C) ∧ mg c = some (.ref D) ∧ ExcC K C ∧ PySem.W.kitOne K (.ref C) (.ref D) = some b
/-- the exception's dict, if it has one, is there -/
def dctOk (M : Store) : Option Nat → Bool
  | none => true
  | some k => match M[k]? with
    | some (.xd _) => true
    | _ => false
def eIsE (xs : List (Str × Bool)) (e : Exn) (l i : Nat) : EF := fun τ M => match τ[i]? with
  | some (some (.obj k)) => if k = l ∧ dctOk M e.dct = true then match xs.lookup e.name with
    | some b => .ok (.bl b) M
    | none => .bad else .bad
  | _ => .bad
section
variable {X : Cx} {pos : Pos} {a : Addr} {oe : Obj} {cls : Value} {d : Option Addr} {pn : List (Addr × Obj)} {e : Exn} {l : Nat} {r : List Addr} {h : Hp} {w : WX} {Tb : Tbl}
theorem dct_ok {G : Amb} {ρ : List Addr} {H : Hp} {M : Store} (hh : Held X r e l a cls d) (ex : Ext r ρ) (m : RM G ρ H M) (hd : dctOk M e.dct = true) : d = none ∨ ∃ dd fs, d = some dd ∧ H dd = some (.xd fs) := by
  have q := hh.dct
  unfold dctOk at hd
  cases e1 : e.dct with
  | none => rw [e1] at q; exact .inl q
  | some k =>
    rw [e1] at q hd
    obtain ⟨dd, h1, h2⟩ := q
    dsimp only at hd
    split at hd
    · rename_i fs e2
      obtain ⟨vs, h3, _⟩ := m.at_ k dd _ (ex.get h2) e2
      exact .inr ⟨dd, _, h1, h3⟩
    · cases hd
theorem ae_isE (i : Nat) {n c : Str} {xs : List (Str × Bool)} {p p1 p2 : Pos} (hh : Held X r e l a cls d) (hz : Zc cls d oe) (hf : ∃ vs, oe.data = .fields vs) (hT : IsTab X.K X.mg c xs) (hm : X.mg "isinstance" = none) (hN : X.N[i]? = some n) (hv : Vis X.env.scope n)
    (hgi : Gl X "isinstance" := by rfl) (hgc : Gl X c := by rfl) (hd1 : (n == ("__debug__" : Str)) = false := by decide) (hd2 : (n == ("__classdict__" : Str)) = false := by decide) (hd3 : (c == ("__debug__" : Str)) = false := by decide)
    (hs1 : starEach [.Name n p1, .Name c p2] X.env = (false, eval (.Name n p1) X.env) :: starEach [.Name c p2] X.env := by rfl) (hs2 : starEach [.Name c p2] X.env = (false, eval (.Name c p2) X.env) :: starEach [] X.env := by rfl) (hpl : (backTo pos (starEach [.Name c p2] X.env)).any (·.1) = false := by rfl) :
    AE (X.suite a ((a, oe) :: pn)) ⟨w, Tb, r, h⟩ (.Call (.Name "isinstance" p) [.Name n p1, .Name c p2] [] pos) (eIsE xs e l i) := by
  refine ⟨fun pins s σ H Q I q => ?_⟩
  obtain ⟨τ, M, ρ, rs, rm, o⟩ := q
  unfold eIsE at o
  split at o
  · rename_i k ei
    split at o
    · rename_i hk
      obtain ⟨rfl, hdk⟩ := hk
      split at o
      · rename_i b el
        obtain ⟨C, D, hC, hD, hE, hkit⟩ := hT _ _ el
        obtain ⟨C', hC', hcl⟩ := hh.cls
        have hCC : C' = C := by
          have := hC'.symm.trans hC
          cases this; rfl
        subst hCC
        subst hcl
        obtain ⟨v, hv1, iv⟩ := rs.get ei
        have hva : v = .ref a := by
          cases iv with
          | obj hl =>
            have := hl.symm.trans (rs.ext.get hh.at_)
            cases this; rfl
        subst hva
        have P := pe_callB (X := X.suite a ((a, oe) :: pn)) (call_isX hE hz hf) hgi hm (by rfl) (pa_cons (pe_var (pos := p1) hN hv hd1 hd2) (pa_cons (pe_glob (v := V.ref D) (pos := p2) hgc hD rfl hd3) pa_nil hs2) hs1) (p := p) (pos := pos) (by decide) (by decide) hs1 hpl
        refine P.run pins s σ H Q I ⟨_, hv1, V.ref D, .ref D, b, rfl, fun u hu => hu, hkit, dct_ok hh rs.ext rm hdk, o _ H ρ (.refl _) (.refl _) rm (.bl b)⟩
      · exact o.elim
    · exact o.elim
  · exact o.elim
end
end AB
/-! AB43: raise C('..') of a class without __init__; the classes' facts together -/
namespace AB
open PySem PySem.Spec PyProof.Rows L2
abbrev veL : List Value := [.type "ValueError", .type "Exception", .type "BaseException", .type "object"]
structure Exc0 (K : PySem.W.Frag) (mg : Str → Option Value) (x : Str) : Prop where
  ex : ∃ C, mg x = some (.ref C) ∧ PySem.W.excIn K C veL "ValueError.__new__" = true ∧ PySem.W.keepIn K (.ref C) = true ∧ PySem.W.subIn K (.ref C) (.type "BaseException") = some true ∧ PySem.W.typeIn K (.ref C) = some (.type "type")
theorem as_raiseC {X : Cx} {W : WR} {pos p p2 pos2 : Pos} {x m : Str} {j : Nat} (hc : X.calm = true) (tk : Takes X W.w) (G : Exc0 X.K X.mg x) (hg : Gl X x := by rfl) (hdb : (x == ("__debug__" : Str)) = false := by decide) :
    AS X W (.Raise (some (.Call (.Name x p) [.Constant (.str m) j p2] [] pos2)) none pos) (sRaise0 x) := by
  obtain ⟨C, g, q, k, s, t⟩ := G.ex
  exact as_raise0 hc tk (pmk_own PySem.F.excBase_ValueError q g k (raises_own s t) hg hdb) g
/-- the facts of classes, put together -/
theorem exTab_nil {K : PySem.W.Frag} {mg : Str → Option Value} {c : Value} : ExTab K mg c [] := fun n b h => by cases h
theorem exTab_cons {K : PySem.W.Frag} {mg : Str → Option Value} {c : Value} {x : Str} {b : Bool} {xs : List (Str × Bool)} {C : Addr} (g : mg x = some (.ref C)) (e : PySem.W.exmOne K (.ref C) c = some b) (h : ExTab K mg c xs) : ExTab K mg c ((x, b) :: xs) := fun n b' q => by
  rw [List.lookup_cons] at q
  cases hn : n == x with
  | true => rw [hn] at q; cases q; rw [eq_of_beq hn]; exact ⟨C, g, e⟩
  | false => rw [hn] at q; exact h n b' q
theorem isTab_nil {K : PySem.W.Frag} {mg : Str → Option Value} {c : Str} : IsTab K mg c [] := fun n b h => by cases h
theorem isTab_cons {K : PySem.W.Frag} {mg : Str → Option Value} {c x : Str} {b : Bool} {xs : List (Str × Bool)} {C D : Addr} (g : mg x = some (.ref C)) (gc : mg c = some (.ref D)) (E : ExcC K C) (e : PySem.W.kitOne K (.ref C) (.ref D) = some b) (h : IsTab K mg c xs) : IsTab K mg c ((x, b) :: xs) := fun n b' q => by
  rw [List.lookup_cons] at q
  cases hn : n == x with
  | true => rw [hn] at q; cases q; rw [eq_of_beq hn]; exact ⟨C, D, g, gc, E, e⟩
  | false => rw [hn] at q; exact h n b' q
theorem oexC_mk {K : PySem.W.Frag} {C : Addr} {nm q : Str} {N : Addr} {bs bm : List Value} {sn : List Str} {sub : List Value} {ab : Bool} {col : Option Bool} {dd : Option Addr} {k0 k1 k2 k3 k5 : Option Value} (l : K.lookup C = some (excClassObj nm q C N bs bm true sn sub ab col dd k0 k1 k2 k3 k5 "ValueError.__new__")) (r : PySem.HandSPX.refsVE bm = true)
    (sa : PySem.W.findIn K (.ref C) "__setattr__" = some (some (.builtin "object.__setattr__"))) (ex : PySem.W.subIn K (.ref C) (.type "BaseException") = some true) (ty : PySem.W.typeIn K (.ref C) = some (.type "type")) (k : PySem.W.keepIn K (.ref C) = true) : OexC K C :=
  ⟨⟨nm, q, N, bs, bm, sn, sub, ab, col, dd, k0, k1, k2, k3, k5, l, r⟩, sa, ex, ty, k⟩
/-! ### runs that may end in an exception -/
@[irreducible] def EO.WX {α : Type} (o : EO α) (E : Exn → Store → Prop) (Q : α → Store → Prop) : Prop := match o with
  | .ok a M => Q a M
  | .ex e M => E e M
  | .bad => False
@[irreducible] def SO.WX (o : SO) (E : Exn → Store → Prop) (N : Sl → Store → Prop) (R : A → Store → Prop) : Prop := match o with
  | .nx τ M => N τ M
  | .rt a M => R a M
  | .ex e _ M => E e M
  | _ => False
section
variable {α β : Type} {τ : Sl} {M : Store} {E : Exn → Store → Prop} {Q : A → Store → Prop} {Qs : List A → Store → Prop} {Qb : Bool → Store → Prop} {N : Sl → Store → Prop} {R : A → Store → Prop}
end
end AB
/-! AB44: a class's own def; classes under classes -/
namespace AB
open PySem PySem.Spec PyProof.Rows L2
def clsAt (st : Stmt) (i : Nat) : Stmt := match st with
  | .ClassDef _ _ _ b _ _ _ _ _ _ _ => b.getD i (.Pass ⟨0, 0, 0, 0⟩)
  | s => s
theorem kit_ref {K : PySem.W.Frag} {t : Value} {C : Addr} {b : Bool} (hd : PySem.W.hasDictIn K C = true) (ht : PySem.W.typeIn K (.ref C) = some (.type "type")) (hs : PySem.W.subIn K (.ref C) (.ref C) = some true) (h : PySem.W.subIn K t (.ref C) = some b) : PySem.W.kitOne K t (.ref C) = some b := by
  obtain ⟨cd, hc, _⟩ := PySem.W.any_some hd
  unfold PySem.W.kitOne
  by_cases e : (t == .ref C) = true
  · rw [if_pos e]
    rw [eq_of_beq e] at h
    exact hs.symm.trans h
  · rw [if_neg e]
    show (if ((PySem.W.clsIn K C).isSome && PySem.W.typeIn K (.ref C) == some (.type "type")) = true then PySem.W.subIn K t (.ref C) else none) = some b
    rw [if_pos (by rw [hc, ht]; rfl)]
    exact h
theorem exm_at {K : PySem.W.Frag} {t : Value} {C : Addr} {b : Bool} (hb : PySem.W.subIn K (.ref C) (.type "BaseException") = some true) (hd : PySem.W.hasDictIn K C = true) (ht : PySem.W.typeIn K (.ref C) = some (.type "type")) (h : PySem.W.subIn K t (.ref C) = some b) : PySem.W.exmOne K t (.ref C) = some b := PySem.W.exm_ref hb hd ht h
end AB
/-! AB45: steps for lambdas whose run may end in an exception -/
namespace AB
open PySem PySem.Spec PyProof.Rows L2
section
variable {τ : Sl} {M : Store} {E : Exn → Store → Prop} {Q : A → Store → Prop}
end
end AB
/-! AB46: a range that is kept, run through -/
namespace RV
open PySem PySem.Spec PyProof.Rows L2
end RV
namespace AB
open PySem PySem.Spec PyProof.Rows L2
section
variable {X : Cx} {W : WR} {pos : Pos} {l : Expr} {f : EF}
end
section
variable {τ : Sl} {M : Store} {f : EF} {P : Src → Store → Prop}
end
end AB
/-! AB47: break and continue -/
namespace AB
open PySem PySem.Spec PyProof.Rows L2
section
variable {X : Cx} {W : WR} {pos : Pos}
end
section
variable {α : Type} {τ : Sl} {M : Store} {N B C : Sl → Store → Prop} {R : A → Store → Prop}
end
end AB
/-! AB48: min of a list, its key a lambda -/
namespace MK
open PySem PySem.Spec PyProof.Rows L2 AB
variable {X : Cx} {pins : List (Addr × Obj)} {σ : L2.St} {H : Hp} {s : Shared}
end MK
/-! AB49: min(l, key=lambda x: ..) -/
namespace AB
open PySem PySem.Spec PyProof.Rows L2
section
variable {ρ : List Addr} {H : Hp} {a : Addr} {u : HO} {od : Obj} [NoTup u]
end
section
variable {X : Cx} {W : WR} {p pos kpos lpos : Pos}
end
section
variable {τ : Sl} {M : Store} {f flam : EF} {P : A → Store → Prop}
end
end AB
/-! AB50: setdefault of a dict by ints and texts; list(d) of one -/
namespace AB
open PySem PySem.Spec PyProof.Rows L2
section
variable {X : Cx} {W : WR} {pos : Pos}
end
section
variable {τ : Sl} {M : Store} {Q : A → Store → Prop}
end
end AB
/-! AB51: steps for comprehensions with tests, for over a dict -/
namespace AB
open PySem PySem.Spec PyProof.Rows L2
/-- any two-way store: all but what the loop changes stands -/
theorem Pre.len {M M' : Store} (p : Pre M M') : M.length ≤ M'.length := p.1
end AB
/-! AB52: x is True, x is not True -/
namespace AB
open PySem PySem.Spec PyProof.Rows L2
section
variable {X : Cx}
end
end AB
/-! AB53: list(e.keys()), sorted(d), sorted(set(tuple)), for k in e.keys() -/
namespace AB
open PySem PySem.Spec PyProof.Rows L2
section
variable {X : Cx} {W : WR} {pos : Pos} {e : Expr} {f : EF}
end
end AB
/-! AB54: for k in e.keys(): the dict is locked, and stays so -/
namespace AB
open PySem PySem.Spec PyProof.Rows L2
section
variable {X : Cx} {W : WR} {pos : Pos} {e tg : Expr} {f : EF}
end
section
variable {τ : Sl} {M : Store} {Q : A → Store → Prop} {P : Src → Store → Prop} {f : EF}
end
end AB
/-! AB55: try .. except X: without a name -/
namespace AB
open PySem PySem.Spec PyProof.Rows L2
section
variable {X : Cx} {W : WR} {pos : Pos}
end
section
variable {τ : Sl} {M : Store} {N : Sl → Store → Prop} {R : A → Store → Prop}
end
end AB
/-! AB56: a written table from texts to numbers -/
namespace AB
open PySem PySem.Spec PyProof.Rows L2
def KTabI (K : PySem.W.Frag) (w : World) (d : Addr) (tbl : List (Str × Int)) : Prop := (∃ es n, KDict K w d es n) ∧ ∀ z i, tbl.lookup z = some i → ∃ t, PySem.W.nsIn K d z = some (some (.int i t))
def iAt (tbl : List (Str × Int)) (k : A) (M : Store) : EO A := match k with
  | .str z => match tbl.lookup z with
    | some i => .ok (.int i) M
    | none => .bad
  | _ => .bad
def eIxT (tbl : List (Str × Int)) (g : EF) : EF := fun τ M => (g τ M).bind (iAt tbl)
section
variable {X : Cx} {W : WR} {pos : Pos} {b : Expr} {g : EF}
theorem ae_ixT {x : Str} {d : Addr} {p : Pos} {tbl : List (Str × Int)} (hm : X.mg x = some (.ref d)) (k : KTabI X.K X.w d tbl) (hb : AE X W b g) (hg : Gl X x := by rfl) (hd : (x == ("__debug__" : Str)) = false := by decide) (hs : PlainIx b := by intro _ _; rfl) : AE X W (.Subscript (.Name x p) b pos) (eIxT tbl g) := by
  obtain ⟨⟨es, n, D⟩, kt⟩ := k
  refine (pe_ix (ix_kd D) (pe_glob hg hm (x := x) (v := V.ref d) rfl hd) hb hs).pre fun σ H Q h => ?_
  refine (seqG Is h).imp fun y H1 h1 => ?_
  obtain ⟨τ, M, ρ, c, rs, rm, i, r⟩ := h1
  unfold iAt at r
  dsimp only at r
  split at r
  · rename_i z
    cases i
    split at r
    · rename_i j e
      obtain ⟨t, e1⟩ := kt z j e
      exact ⟨z, .int j t, .int j, rfl, rfl, e1, ⟨t, rfl⟩, r.okv (.refl _) (.refl _) rm (.int j)⟩
    · exact r.elim
  · exact r.elim
end
section
variable {τ : Sl} {M : Store} {Q : A → Store → Prop} {g : EF} {tbl : List (Str × Int)}
end
theorem ktabI_of {K : PySem.W.Frag} {d : Addr} : ∀ {tbl : List (Str × Int)}, (∀ p ∈ tbl, ∃ t, PySem.W.nsIn K d p.1 = some (some (.int p.2 t))) → ∀ z i, tbl.lookup z = some i → ∃ t, PySem.W.nsIn K d z = some (some (.int i t))
  | [], _, z, i, e => by cases e
  | (k, v) :: tbl, h, z, i, e => by
    rw [List.lookup_cons] at e
    cases hz : z == k with
    | true =>
      rw [hz] at e
      cases e
      rw [eq_of_beq hz]
      exact h (k, v) (by simp)
    | false =>
      rw [hz] at e
      exact ktabI_of (fun p hp => h p (by simp [hp])) z i e
end AB
/-! AB57: min(xs, key=len) of a list of tuples -/
namespace MK
open PySem PySem.Spec PyProof.Rows L2 AB
variable {X : Cx} {pins : List (Addr × Obj)} {σ : L2.St} {H : Hp} {s : Shared}
end MK
namespace AB
open PySem PySem.Spec PyProof.Rows L2
section
variable {X : Cx} {W : WR} {p pos kpos lpos : Pos}
end
section
variable {τ : Sl} {M : Store} {f : EF} {P : A → Store → Prop}
end
end AB
/-! AB58: dicts whose keys are tuples of anything: k in d, d[k] = v, {k: v}, list(d) -/
namespace AB
open PySem PySem.Spec PyProof.Rows L2
section
variable {X : Cx} {W : WR} {pos : Pos} {a b : Expr} {f g : EF} {pins : List (Addr × Obj)} {σ : L2.St} {H : Hp} {s : Shared} {ρ : List Addr} {M M' : Store} {E : Value → Shared → Prop}
/-! ### k in d -/
def nIn (M : Store) (x : A) (d : Nat) : Option Bool := match M[d]?, nkey? x with
  | some (.dN kvs), some (.tup js) => if (NestedKey.tup js).depth ≤ 8 then some (valA kvs (.tup js)).isSome else none
  | _, _ => none
/-! ### d[k] = v, any key -/
def putN (kvs : List (NestedKey × A)) (k : NestedKey) (y : A) : List (NestedKey × A) := if (valA kvs k).isSome = true then kvs.map fun kv => if kv.1 = k then (kv.1, y) else kv else kvs ++ [(k, y)]
def nSto (M : Store) (l : Nat) (k y : A) : Option Store := match M[l]?, nkey? k with
  | some (.dN kvs), some (.tup js) => if (NestedKey.tup js).depth ≤ 8 ∧ kvs.length < sizeLine then some (M.set l (.dN (putN kvs (.tup js) y))) else none
  | _, _ => none
/-- the values' list when a key's value is changed -/
def putU {α : Type} (k : NestedKey) (y : α) : List NestedKey → List α → List α
  | j :: ks, u :: us => (if j = k then y else u) :: putU k y ks us
  | _, us => us
theorem putU_len {α : Type} {k : NestedKey} {y : α} : ∀ {ks : List NestedKey} {us : List α}, (putU k y ks us).length = us.length
  | [], us => by simp [putU]
  | _ :: _, [] => by simp [putU]
  | j :: ks, u :: us => by simp only [putU, List.length_cons]; rw [putU_len]
theorem putU_rows {k : NestedKey} {u : Value} : ∀ {ks : List NestedKey} {bs : List Addr} {us : List Value}, (rowsN ks bs us).map (putAt k u) = rowsN ks bs (putU k u ks us)
  | [], _, _ => by simp [rowsN]
  | _ :: _, [], _ => by simp [rowsN]
  | _ :: _, _ :: _, [] => by simp [rowsN, putU]
  | j :: ks, b :: bs, v :: us => by
    simp only [rowsN, putU, List.map_cons]
    rw [putU_rows (ks := ks) (bs := bs) (us := us)]
    congr 1
    unfold putAt
    split <;> simp_all
theorem putU_vals {k : NestedKey} {y : V} {u : Value} (r : RelV y u) : ∀ {ks : List NestedKey} {vs : List V} {us : List Value}, Vals vs us → Vals (putU k y ks vs) (putU k u ks us)
  | [], _, _, h => by simpa [putU] using h
  | _ :: _, _, _, .nil => by simp only [putU]; exact .nil
  | j :: ks, _, _, .cons h t => by
    simp only [putU]
    refine .cons ?_ (putU_vals r t)
    split
    · exact r
    · exact h
theorem putU_is {k : NestedKey} {y : A} {v : V} (i : Is ρ H y v) : ∀ {kvs : List (NestedKey × A)} {vs : List V}, IsAll ρ H (kvs.map (·.2)) vs → IsAll ρ H ((kvs.map fun kv => if kv.1 = k then (kv.1, y) else kv).map (·.2)) (putU k v (kvs.map (·.1)) vs)
  | [], _, .nil => .nil
  | kv :: kvs, _, .cons h t => by
    simp only [List.map_cons, putU]
    refine .cons ?_ (putU_is i t)
    split
    · exact i
    · exact h
theorem putU_keys {k : NestedKey} {y : A} (kvs : List (NestedKey × A)) : (kvs.map fun kv => if kv.1 = k then (kv.1, y) else kv).map (·.1) = kvs.map (·.1) := by
  rw [List.map_map]
  refine List.map_congr_left fun kv _ => ?_
  show (if kv.1 = k then (kv.1, y) else kv).1 = kv.1
  split <;> rfl
theorem n_sto {A0 : Around} {F : Hp → Shared → Prop} {l : Nat} {p : Addr} {k y : A} {kv yv : V} {u1 u2 : Value} (I : L2.Inv X pins σ H s) (m : RM (X.am W.Tb) ρ H M) (hp : ρ[l]? = some p) (ik : Is ρ H k kv) (iy : Is ρ H y yv) (rk : RelV kv u1) (ry : RelV yv u2)
    (e : nSto M l k y = some M') (q : ∀ H' s', L2.Inv X pins σ H' s' → Grow H H' → RM (X.am W.Tb) ρ H' M' → F H' s') :
    ∃ kb xs js, u1 = .ref kb ∧ (nestedKind X.prog X.w).is s.heap (.tup js) kb ∧ s.heap.DictOfH (nestedKind X.prog X.w) p xs ∧ xs.length ≤ sizeLine ∧
      ∀ h', h'.DictOfH (nestedKind X.prog X.w) p (storedH xs (.tup js) kb u2) → Heap.SameBut p s.heap h' → ∃ H', F H' { s with heap := h', toks := s.toks + (nestedKind X.prog X.w).draws (.tup js) } := by
  unfold nSto at e
  split at e
  · rename_i kvs js ec ek
    split at e
    · rename_i hz
      obtain ⟨z1, z2⟩ := hz
      cases e
      have ik : Is ρ H (ofN (.tup js)) kv := by rw [nkey_of _ _ ek]; exact ik
      obtain ⟨kb, rfl⟩ : ∃ kb, kv = .ref kb := by simp only [ofN] at ik; cases ik with | tup h1 h2 => exact ⟨_, rfl⟩
      cases rk
      obtain ⟨bs, vs, us', hh, iks, ivs, dp, rv, l1, l3, hsz, hsm, hnd, D⟩ := nest_dict I m hp ec
      have rl : (rowsN (kvs.map (·.1)) bs us').length = kvs.length := by rw [rowsN_len (by simpa using l1) (by simpa using l3)]; simp
      have hk1 : (kvs.map (·.1)).length = bs.length := by simpa using l1
      have hv1 : (kvs.map (·.1)).length = us'.length := by simpa using l3
      refine ⟨kb, _, js, rfl, ⟨nested_of I.hok _ _ _ ik rfl, z1⟩, D, by rw [rl]; exact hsz, fun h' D' sb => ?_⟩
      have hvs : kvs.length = vs.length := l3.trans rv.length.symm
      rcases rowsN_at (k := .tup js) l1 ivs rv with ⟨e1, e2⟩ | ⟨z, zv, b', u', e1, e2, _⟩
      · rw [storedH_new e2, ← rowsN_append hk1 hv1] at D'
        obtain ⟨o, es, ep, ho, hx, hdt, he, _, hn2⟩ := D'
        have zk : (kvs.map (·.1) ++ [NestedKey.tup js]).zip (bs ++ [kb]) = ((kvs ++ [(NestedKey.tup js, y)]).map (·.1)).zip (bs ++ [kb]) := by rw [List.map_append]; rfl
        have lk : (kvs.map (·.1) ++ [NestedKey.tup js]).length = (bs ++ [kb]).length := by simp [l1]
        have fstk : ((kvs.map (·.1) ++ [NestedKey.tup js]).zip (bs ++ [kb])).map (·.1) = kvs.map (·.1) ++ [NestedKey.tup js] := map_zip_fst lk
        have new : ObjOk X.prog X.w (upd H p (nestO X.w p ((kvs.map (·.1) ++ [NestedKey.tup js]).zip (bs ++ [kb])) (vs ++ [yv]))) h' p (nestO X.w p ((kvs.map (·.1) ++ [NestedKey.tup js]).zip (bs ++ [kb])) (vs ++ [yv])) := by
          refine ⟨⟨?_, hsm, ?_, ?_, us' ++ [u2], rv.append (.cons ry .nil), o, es, ep, ho, hx, hdt, he.trans rowsN_entries.symm⟩, ⟨o, ho⟩, ?_⟩
          · simp only [List.length_zip, List.length_append, List.length_map, List.length_singleton]; omega
          · have := rv.length
            simp only [List.length_zip, List.length_append, List.length_map, List.length_singleton]; omega
          · rw [fstk]
            rw [rowsN_keys lk (by simp [l3])] at hn2
            exact hn2
          · rintro h1 h2 ⟨q1, q2, q3, q4, us, q5, o, es, ep, q6, q7⟩ k
            exact ⟨q1, q2, q3, q4, us, q5, o, es, ep, k o q6, q7⟩
        have I2 := I.write (e := p) (t' := s.toks + (nestedKind X.prog X.w).draws (.tup js)) (by rw [hh]; trivial) (.inl rfl) (fun b u hb hu' => (sb.2 b hb).trans hu') ⟨o, ho⟩ new
        have g := m.growSet (o := nestO X.w p ((kvs.map (·.1) ++ [NestedKey.tup js]).zip (bs ++ [kb])) (vs ++ [yv])) hp ec
        have ep : putN kvs (.tup js) y = kvs ++ [(.tup js, y)] := by unfold putN; rw [e1]; rfl
        refine ⟨_, q _ _ I2 g (m.set hp ec ?_)⟩
        rw [ep]
        refine ⟨bs ++ [kb], vs ++ [yv], by rw [upd_same, zk], ?_, ?_, ?_⟩
        · rw [List.map_append, List.map_append]
          exact (iks.mono (.refl _) g).append (.cons (ik.mono (.refl _) g) .nil)
        · rw [List.map_append]
          exact (ivs.mono (.refl _) g).append (.cons (iy.mono (.refl _) g) .nil)
        · intro kv hkv
          rcases List.mem_append.mp hkv with q | q
          · exact dp kv q
          · simp at q; subst q; exact z1
      · rw [storedH_old e2, putU_rows] at D'
        obtain ⟨o, es, ep, ho, hx, hdt, he, _, hn2⟩ := D'
        have fstk : ((kvs.map (·.1)).zip bs).map (·.1) = kvs.map (·.1) := map_zip_fst hk1
        have new : ObjOk X.prog X.w (upd H p (nestO X.w p ((kvs.map (·.1)).zip bs) (putU (.tup js) yv (kvs.map (·.1)) vs))) h' p (nestO X.w p ((kvs.map (·.1)).zip bs) (putU (.tup js) yv (kvs.map (·.1)) vs)) := by
          refine ⟨⟨?_, hsm, ?_, ?_, putU (.tup js) u2 (kvs.map (·.1)) us', putU_vals ry rv, o, es, ep, ho, hx, hdt, he.trans rowsN_entries.symm⟩, ⟨o, ho⟩, ?_⟩
          · simp only [List.length_zip, List.length_map]; omega
          · rw [putU_len]
            simp only [List.length_zip, List.length_map]; omega
          · rw [fstk]; exact hnd
          · rintro h1 h2 ⟨q1, q2, q3, q4, us, q5, o, es, ep, q6, q7⟩ k
            exact ⟨q1, q2, q3, q4, us, q5, o, es, ep, k o q6, q7⟩
        have I2 := I.write (e := p) (t' := s.toks + (nestedKind X.prog X.w).draws (.tup js)) (by rw [hh]; trivial) (.inl rfl) (fun b u hb hu' => (sb.2 b hb).trans hu') ⟨o, ho⟩ new
        have g := m.growSet (o := nestO X.w p ((kvs.map (·.1)).zip bs) (putU (.tup js) yv (kvs.map (·.1)) vs)) hp ec
        have ep : putN kvs (.tup js) y = kvs.map fun kv => if kv.1 = .tup js then (kv.1, y) else kv := by unfold putN; rw [e1]; rfl
        refine ⟨_, q _ _ I2 g (m.set hp ec ?_)⟩
        rw [ep]
        refine ⟨bs, putU (.tup js) yv (kvs.map (·.1)) vs, by rw [upd_same, putU_keys], ?_, putU_is (iy.mono (.refl _) g) (ivs.mono (.refl _) g), ?_⟩
        · have e5 : (kvs.map fun kv => if kv.1 = .tup js then (kv.1, y) else kv).map (fun kv => ofN kv.1) = kvs.map fun kv => ofN kv.1 := by
            rw [List.map_map]
            refine List.map_congr_left fun kv _ => ?_
            show ofN (if kv.1 = NestedKey.tup js then (kv.1, y) else kv).1 = ofN kv.1
            split <;> rfl
          rw [e5]
          exact iks.mono (.refl _) g
        · intro kv hkv
          obtain ⟨kv0, h0, rfl⟩ := List.mem_map.mp hkv
          have := dp kv0 h0
          split <;> exact this
    · cases e
  · cases e
/-! ### {k: v} -/
/-! ### list(d) -/
end
end AB
namespace AB
open PySem PySem.Spec PyProof.Rows L2
section
variable {τ : Sl} {M : Store} {Q : A → Store → Prop} {N : Sl → Store → Prop} {R : A → Store → Prop}
end
end AB
/-! PQ1: itertools.permutations(range(n), r), r at most 2 -/
namespace PQ
open PySem PySem.Spec PyProof.Rows L2 PM
open Sem (wp)
/-- how many rows come -/
def fct : Nat → Nat → Nat
  | 1, 0 => 1
  | 1, 1 => 1
  | 1, 2 => 0
  | 2, 0 => 1
  | 2, 1 => 2
  | 2, 2 => 2
  | 3, 0 => 1
  | 3, 1 => 3
  | 3, 2 => 6
  | _, _ => 0
/-- the places behind i steps -/
def ix : Nat → Nat → Nat → List Nat
  | 1, 0, 0 => [0]
  | 1, 1, 0 => [0]
  | 2, 0, 0 => [0, 1]
  | 2, 1, 0 => [0, 1]
  | 2, 1, 1 => [1, 0]
  | 2, 2, 0 => [0, 1]
  | 2, 2, 1 => [1, 0]
  | 3, 0, 0 => [0, 1, 2]
  | 3, 1, 0 => [0, 1, 2]
  | 3, 1, 1 => [1, 0, 2]
  | 3, 1, 2 => [2, 0, 1]
  | 3, 2, 0 => [0, 1, 2]
  | 3, 2, 1 => [0, 2, 1]
  | 3, 2, 2 => [1, 0, 2]
  | 3, 2, 3 => [1, 2, 0]
  | 3, 2, 4 => [2, 0, 1]
  | 3, 2, 5 => [2, 1, 0]
  | n, _, _ => List.range n
def cy : Nat → Nat → Nat → List Nat
  | 1, 0, 0 => []
  | 1, 1, 0 => [1]
  | 2, 0, 0 => []
  | 2, 1, 0 => [2]
  | 2, 1, 1 => [1]
  | 2, 2, 0 => [2, 1]
  | 2, 2, 1 => [1, 1]
  | 3, 0, 0 => []
  | 3, 1, 0 => [3]
  | 3, 1, 1 => [2]
  | 3, 1, 2 => [1]
  | 3, 2, 0 => [3, 2]
  | 3, 2, 1 => [3, 1]
  | 3, 2, 2 => [2, 2]
  | 3, 2, 3 => [2, 1]
  | 3, 2, 4 => [1, 2]
  | 3, 2, 5 => [1, 1]
  | n, r, _ => (List.range r).map fun i => n - i
def flag (n r i : Nat) : Nat := if n < r then 2 else if i = 0 then 0 else 1
@[irreducible] def nums (n r i : Nat) : List Value := ((ix n r i).map fun j : Nat => rawInt (j : Int)) ++ ((cy n r i).map fun j : Nat => rawInt (j : Int))
def rec (n r i : Nat) (pool : Addr) (last : Value) : Array Value := ([.ref pool, rawInt (flag n r i : Int), rawInt (r : Int), last] ++ nums n r (i - 1)).toArray
def At (h : Heap) (it pool : Addr) (n r i : Nat) : Prop := ∃ (last : Value) (ts : List Tok), ts.length = n ∧ pool ≠ it ∧ h.get? it = some { cls := .type "itertools.permutations", dict := none, data := .fields (rec n r i pool last), slots := #[] } ∧
  h.get? pool = some { cls := .type "tuple", dict := none, data := .seq (poolV ts).toArray, slots := #[] }
section
variable {prog : Program} {w : World} {A : Around} {E : Value → Shared → Prop} {s : Shared}
theorem pq_iter {it pool : Addr} {n r i : Nat} {Q : Value → Shared → Prop} (hit : At s.heap it pool n r i) (h : Q (.ref it) s) : wpAny (model prog w) A (pyIter (.ref it)) Q E s := by
  obtain ⟨last, ts, _, _, hit, _⟩ := hit
  have hT : s.TypeIs (.ref it) "itertools.permutations" := ⟨_, hit, rfl⟩
  refine wpAny_pyIter_slot hT slot_pm_iter (wpAny_call_entry slot_pm_iter hT entry_pm_iter ?_ (args_pm_iter _))
  show wpAny _ _ (ret (.ref it)) _ _ s
  exact wpAny_pure ⟨_, rfl, "itertools.permutations", _, hT, slot_pm_next.lookup, h⟩
/-- the row that comes next, as it is laid -/
def row (n r i : Nat) (ts : List Tok) : List Value := ((ix n r i).take r).map fun j => (poolV ts).toArray.getD j .none
theorem at_next {h' : Heap} {it pool t : Addr} {n r i : Nat} {ts : List Tok} {f : Array Value} (hl : ts.length = n) (hne : pool ≠ it) (hr : f = rec n r (i + 1) pool (.ref t))
    (h1 : h'.get? it = some (pmO f)) (h2 : h'.get? pool = some { cls := .type "tuple", dict := none, data := .seq (poolV ts).toArray, slots := #[] }) : At h' it pool n r (i + 1) :=
  ⟨.ref t, ts, hl, hne, hr ▸ h1, h2⟩
def Came (s : Shared) (it pool : Addr) (n r i : Nat) (Q : Option Value → Shared → Prop) : Prop :=
  ∀ h' ts t, t = s.heap.objs.size → ts.length = n → At h' it pool n r (i + 1) → (∀ b o, b ≠ it → s.heap.get? b = some o → h'.get? b = some o) → h'.get? t = some { cls := .type "tuple", data := .seq (row n r i ts).toArray } → Q (some (.ref t)) { s with heap := h' }
theorem item100 {it pool : Addr} {Q : Option Value → Shared → Prop} (hit : At s.heap it pool 1 0 0) (hQ : Came s it pool 1 0 0 Q) : wpAny (model prog w) A (callSpecial? (.ref it) "__next__") Q E s := by
  obtain ⟨last, ts, hl, hne, hit, hp⟩ := hit
  have hT : s.TypeIs (.ref it) "itertools.permutations" := ⟨_, hit, rfl⟩
  refine wpAny_callSpecial?_slot (name := Str.ofString "__next__") hT slot_pm_next (wpAny_call_entry slot_pm_next hT entry_pm_next ?_ (args_pm_next _))
  obtain ⟨hp0, g, d, tk, os⟩ := s
  have hl0 := hl
  match ts, hl with
  | [t0], _ =>
  unfold Builtin.«itertools.permutations.__next__»
  repeat (first
    | (with_reducible refine wpAny_field hit rfl (by rfl) ?_)
    | with_reducible refine wpAny_loadPart_at hit ?_
    | with_reducible refine wpAny_loadPart_at hp ?_
    | wp_step
    | dsimp only)
  have hit1 : (hp0.update it (Obj.mapFields fun x => x.setIfInBounds 1 (rawInt 1))).get? it = some (pmO (([.ref pool, rawInt 1, rawInt (0 : Nat), last] ++ nums 1 0 0).toArray)) := (Heap.get?_update_self _ hit rfl).trans (by simp [rec, flag, Obj.mapFields])
  have nit : it ≠ (hp0.update it (Obj.mapFields fun x => x.setIfInBounds 1 (rawInt 1))).objs.size := Nat.ne_of_lt (Heap.lt_size hit1)
  have k' : ∀ (o1 o3 : Obj → Obj) (ob : Obj) (b : Addr) (o : Obj), b ≠ it → hp0.get? b = some o → (((hp0.update it o1).push ob).update it o3).get? b = some o := fun o1 o3 ob b o hb ho => (Heap.get?_update_ne _ _ _ _ hb).trans (Heap.get?_push_of_some _ ((Heap.get?_update_ne _ _ _ _ hb).trans ho))
  exact ⟨_, rfl, hQ _ [t0] (hp0.update it (Obj.mapFields fun x => x.setIfInBounds 1 (rawInt 1))).objs.size (Heap.size_update ..) hl0 (at_next (t := (hp0.update it (Obj.mapFields fun x => x.setIfInBounds 1 (rawInt 1))).objs.size) hl0 hne (f := (([.ref pool, rawInt 1, rawInt (0 : Nat), last] ++ nums 1 0 0).toArray).setIfInBounds 3 (.ref (hp0.update it (Obj.mapFields fun x => x.setIfInBounds 1 (rawInt 1))).objs.size)) (by simp [rec, flag]) (Heap.get?_update_self _ (Heap.get?_push_of_some _ hit1) rfl) (k' _ _ _ _ _ hne hp)) (fun b o hb ho => k' _ _ _ b o hb ho) ((Heap.get?_update_ne _ _ _ _ nit.symm).trans (Heap.get?_push_size _ rfl))⟩
theorem item110 {it pool : Addr} {Q : Option Value → Shared → Prop} (hit : At s.heap it pool 1 1 0) (hQ : Came s it pool 1 1 0 Q) : wpAny (model prog w) A (callSpecial? (.ref it) "__next__") Q E s := by
  obtain ⟨last, ts, hl, hne, hit, hp⟩ := hit
  have hT : s.TypeIs (.ref it) "itertools.permutations" := ⟨_, hit, rfl⟩
  refine wpAny_callSpecial?_slot (name := Str.ofString "__next__") hT slot_pm_next (wpAny_call_entry slot_pm_next hT entry_pm_next ?_ (args_pm_next _))
  obtain ⟨hp0, g, d, tk, os⟩ := s
  have hl0 := hl
  match ts, hl with
  | [t0], _ =>
  unfold Builtin.«itertools.permutations.__next__»
  repeat (first
    | (with_reducible refine wpAny_field hit rfl (by rfl) ?_)
    | with_reducible refine wpAny_loadPart_at hit ?_
    | with_reducible refine wpAny_loadPart_at hp ?_
    | wp_step
    | dsimp only)
  have hit1 : (hp0.update it (Obj.mapFields fun x => x.setIfInBounds 1 (rawInt 1))).get? it = some (pmO (([.ref pool, rawInt 1, rawInt (1 : Nat), last] ++ nums 1 1 0).toArray)) := (Heap.get?_update_self _ hit rfl).trans (by simp [rec, flag, Obj.mapFields])
  refine fin_row2 (us' := row 1 1 0 [t0]) (by unfold row; first | (unfold rec nums; rfl) | rfl) hit1 (last := last) rfl (by simp [row, ix]) fun h' t ht h1 k h2 => ?_
  have k' : ∀ b o, b ≠ it → hp0.get? b = some o → h'.get? b = some o := fun b o hb ho => k b o hb ((Heap.get?_update_ne _ _ _ _ hb).trans ho)
  exact hQ h' [t0] t (ht.trans (Heap.size_update ..)) hl0 (at_next (t := t) hl0 hne (by simp [rec, flag]) h1 (k' _ _ hne hp)) k' h2
theorem item200 {it pool : Addr} {Q : Option Value → Shared → Prop} (hit : At s.heap it pool 2 0 0) (hQ : Came s it pool 2 0 0 Q) : wpAny (model prog w) A (callSpecial? (.ref it) "__next__") Q E s := by
  obtain ⟨last, ts, hl, hne, hit, hp⟩ := hit
  have hT : s.TypeIs (.ref it) "itertools.permutations" := ⟨_, hit, rfl⟩
  refine wpAny_callSpecial?_slot (name := Str.ofString "__next__") hT slot_pm_next (wpAny_call_entry slot_pm_next hT entry_pm_next ?_ (args_pm_next _))
  obtain ⟨hp0, g, d, tk, os⟩ := s
  have hl0 := hl
  match ts, hl with
  | [t0, t1], _ =>
  unfold Builtin.«itertools.permutations.__next__»
  repeat (first
    | (with_reducible refine wpAny_field hit rfl (by rfl) ?_)
    | with_reducible refine wpAny_loadPart_at hit ?_
    | with_reducible refine wpAny_loadPart_at hp ?_
    | wp_step
    | dsimp only)
  have hit1 : (hp0.update it (Obj.mapFields fun x => x.setIfInBounds 1 (rawInt 1))).get? it = some (pmO (([.ref pool, rawInt 1, rawInt (0 : Nat), last] ++ nums 2 0 0).toArray)) := (Heap.get?_update_self _ hit rfl).trans (by simp [rec, flag, Obj.mapFields])
  have nit : it ≠ (hp0.update it (Obj.mapFields fun x => x.setIfInBounds 1 (rawInt 1))).objs.size := Nat.ne_of_lt (Heap.lt_size hit1)
  have k' : ∀ (o1 o3 : Obj → Obj) (ob : Obj) (b : Addr) (o : Obj), b ≠ it → hp0.get? b = some o → (((hp0.update it o1).push ob).update it o3).get? b = some o := fun o1 o3 ob b o hb ho => (Heap.get?_update_ne _ _ _ _ hb).trans (Heap.get?_push_of_some _ ((Heap.get?_update_ne _ _ _ _ hb).trans ho))
  exact ⟨_, rfl, hQ _ [t0, t1] (hp0.update it (Obj.mapFields fun x => x.setIfInBounds 1 (rawInt 1))).objs.size (Heap.size_update ..) hl0 (at_next (t := (hp0.update it (Obj.mapFields fun x => x.setIfInBounds 1 (rawInt 1))).objs.size) hl0 hne (f := (([.ref pool, rawInt 1, rawInt (0 : Nat), last] ++ nums 2 0 0).toArray).setIfInBounds 3 (.ref (hp0.update it (Obj.mapFields fun x => x.setIfInBounds 1 (rawInt 1))).objs.size)) (by simp [rec, flag]) (Heap.get?_update_self _ (Heap.get?_push_of_some _ hit1) rfl) (k' _ _ _ _ _ hne hp)) (fun b o hb ho => k' _ _ _ b o hb ho) ((Heap.get?_update_ne _ _ _ _ nit.symm).trans (Heap.get?_push_size _ rfl))⟩
theorem item210 {it pool : Addr} {Q : Option Value → Shared → Prop} (hit : At s.heap it pool 2 1 0) (hQ : Came s it pool 2 1 0 Q) : wpAny (model prog w) A (callSpecial? (.ref it) "__next__") Q E s := by
  obtain ⟨last, ts, hl, hne, hit, hp⟩ := hit
  have hT : s.TypeIs (.ref it) "itertools.permutations" := ⟨_, hit, rfl⟩
  refine wpAny_callSpecial?_slot (name := Str.ofString "__next__") hT slot_pm_next (wpAny_call_entry slot_pm_next hT entry_pm_next ?_ (args_pm_next _))
  obtain ⟨hp0, g, d, tk, os⟩ := s
  have hl0 := hl
  match ts, hl with
  | [t0, t1], _ =>
  unfold Builtin.«itertools.permutations.__next__»
  repeat (first
    | (with_reducible refine wpAny_field hit rfl (by rfl) ?_)
    | with_reducible refine wpAny_loadPart_at hit ?_
    | with_reducible refine wpAny_loadPart_at hp ?_
    | wp_step
    | dsimp only)
  have hit1 : (hp0.update it (Obj.mapFields fun x => x.setIfInBounds 1 (rawInt 1))).get? it = some (pmO (([.ref pool, rawInt 1, rawInt (1 : Nat), last] ++ nums 2 1 0).toArray)) := (Heap.get?_update_self _ hit rfl).trans (by simp [rec, flag, Obj.mapFields])
  refine fin_row2 (us' := row 2 1 0 [t0, t1]) (by unfold row; first | (unfold rec nums; rfl) | rfl) hit1 (last := last) rfl (by simp [row, ix]) fun h' t ht h1 k h2 => ?_
  have k' : ∀ b o, b ≠ it → hp0.get? b = some o → h'.get? b = some o := fun b o hb ho => k b o hb ((Heap.get?_update_ne _ _ _ _ hb).trans ho)
  exact hQ h' [t0, t1] t (ht.trans (Heap.size_update ..)) hl0 (at_next (t := t) hl0 hne (by simp [rec, flag]) h1 (k' _ _ hne hp)) k' h2
theorem item211 {it pool : Addr} {Q : Option Value → Shared → Prop} (hit : At s.heap it pool 2 1 1) (hQ : Came s it pool 2 1 1 Q) : wpAny (model prog w) A (callSpecial? (.ref it) "__next__") Q E s := by
  obtain ⟨last, ts, hl, hne, hit, hp⟩ := hit
  have hT : s.TypeIs (.ref it) "itertools.permutations" := ⟨_, hit, rfl⟩
  refine wpAny_callSpecial?_slot (name := Str.ofString "__next__") hT slot_pm_next (wpAny_call_entry slot_pm_next hT entry_pm_next ?_ (args_pm_next _))
  obtain ⟨hp0, g, d, tk, os⟩ := s
  have hl0 := hl
  match ts, hl with
  | [t0, t1], _ =>
  unfold Builtin.«itertools.permutations.__next__»
  repeat (first
    | (with_reducible refine wpAny_field hit rfl (by rfl) ?_)
    | with_reducible refine wpAny_loadPart_at hit ?_
    | with_reducible refine wpAny_loadPart_at hp ?_
    | wp_step
    | dsimp only)
  split
  case h_1 idx cyc hx =>
    have e2 : some (idx, cyc) = some (ix 2 1 1, cy 2 1 1) := hx.symm.trans (by kernel_rfl)
    cases e2
    clear hx
    refine wpAny_bind ?_
    unfold Builtin.Itertools.itSetNumbersFrom
    refine wpAny_updateFields hit rfl ?_ (by show ((rec 2 1 1 pool last).extract 0 4 ++ _).size ≤ _; simp [rec, nums, ix, cy, sizeLine])
    have hit1 : (hp0.update it (Obj.mapFields fun fs => fs.extract 0 4 ++ (List.map (fun n : Nat => rawInt (n : Int)) (ix 2 1 1 ++ cy 2 1 1)).toArray)).get? it = some (pmO (([.ref pool, rawInt 1, rawInt (1 : Nat), last] ++ nums 2 1 1).toArray)) :=
      (Heap.get?_update_self _ hit rfl).trans (by simp [rec, flag, nums, ix, cy, Obj.mapFields])
    refine wpAny_bind (fin_row2 (us' := row 2 1 1 [t0, t1]) (by rfl) hit1 (last := last) rfl (by simp [row, ix]) fun h' t ht h1 k h2 => ?_)
    have k' : ∀ b o, b ≠ it → hp0.get? b = some o → h'.get? b = some o := fun b o hb ho => k b o hb ((Heap.get?_update_ne _ _ _ _ hb).trans ho)
    exact hQ h' [t0, t1] t (ht.trans (Heap.size_update ..)) hl0 (at_next (t := t) hl0 hne (by simp [rec, flag]) h1 (k' _ _ hne hp)) k' h2
  case h_2 hx =>
    exact absurd (hx.symm.trans (show _ = some (ix 2 1 1, cy 2 1 1) by kernel_rfl)) (fun z => nomatch z)
theorem item220 {it pool : Addr} {Q : Option Value → Shared → Prop} (hit : At s.heap it pool 2 2 0) (hQ : Came s it pool 2 2 0 Q) : wpAny (model prog w) A (callSpecial? (.ref it) "__next__") Q E s := by
  obtain ⟨last, ts, hl, hne, hit, hp⟩ := hit
  have hT : s.TypeIs (.ref it) "itertools.permutations" := ⟨_, hit, rfl⟩
  refine wpAny_callSpecial?_slot (name := Str.ofString "__next__") hT slot_pm_next (wpAny_call_entry slot_pm_next hT entry_pm_next ?_ (args_pm_next _))
  obtain ⟨hp0, g, d, tk, os⟩ := s
  have hl0 := hl
  match ts, hl with
  | [t0, t1], _ =>
  unfold Builtin.«itertools.permutations.__next__»
  repeat (first
    | (with_reducible refine wpAny_field hit rfl (by rfl) ?_)
    | with_reducible refine wpAny_loadPart_at hit ?_
    | with_reducible refine wpAny_loadPart_at hp ?_
    | wp_step
    | dsimp only)
  have hit1 : (hp0.update it (Obj.mapFields fun x => x.setIfInBounds 1 (rawInt 1))).get? it = some (pmO (([.ref pool, rawInt 1, rawInt (2 : Nat), last] ++ nums 2 2 0).toArray)) := (Heap.get?_update_self _ hit rfl).trans (by simp [rec, flag, Obj.mapFields])
  refine fin_row2 (us' := row 2 2 0 [t0, t1]) (by unfold row; first | (unfold rec nums; rfl) | rfl) hit1 (last := last) rfl (by simp [row, ix]) fun h' t ht h1 k h2 => ?_
  have k' : ∀ b o, b ≠ it → hp0.get? b = some o → h'.get? b = some o := fun b o hb ho => k b o hb ((Heap.get?_update_ne _ _ _ _ hb).trans ho)
  exact hQ h' [t0, t1] t (ht.trans (Heap.size_update ..)) hl0 (at_next (t := t) hl0 hne (by simp [rec, flag]) h1 (k' _ _ hne hp)) k' h2
theorem item221 {it pool : Addr} {Q : Option Value → Shared → Prop} (hit : At s.heap it pool 2 2 1) (hQ : Came s it pool 2 2 1 Q) : wpAny (model prog w) A (callSpecial? (.ref it) "__next__") Q E s := by
  obtain ⟨last, ts, hl, hne, hit, hp⟩ := hit
  have hT : s.TypeIs (.ref it) "itertools.permutations" := ⟨_, hit, rfl⟩
  refine wpAny_callSpecial?_slot (name := Str.ofString "__next__") hT slot_pm_next (wpAny_call_entry slot_pm_next hT entry_pm_next ?_ (args_pm_next _))
  obtain ⟨hp0, g, d, tk, os⟩ := s
  have hl0 := hl
  match ts, hl with
  | [t0, t1], _ =>
  unfold Builtin.«itertools.permutations.__next__»
  repeat (first
    | (with_reducible refine wpAny_field hit rfl (by rfl) ?_)
    | with_reducible refine wpAny_loadPart_at hit ?_
    | with_reducible refine wpAny_loadPart_at hp ?_
    | wp_step
    | dsimp only)
  split
  case h_1 idx cyc hx =>
    have e2 : some (idx, cyc) = some (ix 2 2 1, cy 2 2 1) := hx.symm.trans (by kernel_rfl)
    cases e2
    clear hx
    refine wpAny_bind ?_
    unfold Builtin.Itertools.itSetNumbersFrom
    refine wpAny_updateFields hit rfl ?_ (by show ((rec 2 2 1 pool last).extract 0 4 ++ _).size ≤ _; simp [rec, nums, ix, cy, sizeLine])
    have hit1 : (hp0.update it (Obj.mapFields fun fs => fs.extract 0 4 ++ (List.map (fun n : Nat => rawInt (n : Int)) (ix 2 2 1 ++ cy 2 2 1)).toArray)).get? it = some (pmO (([.ref pool, rawInt 1, rawInt (2 : Nat), last] ++ nums 2 2 1).toArray)) :=
      (Heap.get?_update_self _ hit rfl).trans (by simp [rec, flag, nums, ix, cy, Obj.mapFields])
    refine wpAny_bind (fin_row2 (us' := row 2 2 1 [t0, t1]) (by rfl) hit1 (last := last) rfl (by simp [row, ix]) fun h' t ht h1 k h2 => ?_)
    have k' : ∀ b o, b ≠ it → hp0.get? b = some o → h'.get? b = some o := fun b o hb ho => k b o hb ((Heap.get?_update_ne _ _ _ _ hb).trans ho)
    exact hQ h' [t0, t1] t (ht.trans (Heap.size_update ..)) hl0 (at_next (t := t) hl0 hne (by simp [rec, flag]) h1 (k' _ _ hne hp)) k' h2
  case h_2 hx =>
    exact absurd (hx.symm.trans (show _ = some (ix 2 2 1, cy 2 2 1) by kernel_rfl)) (fun z => nomatch z)
theorem item300 {it pool : Addr} {Q : Option Value → Shared → Prop} (hit : At s.heap it pool 3 0 0) (hQ : Came s it pool 3 0 0 Q) : wpAny (model prog w) A (callSpecial? (.ref it) "__next__") Q E s := by
  obtain ⟨last, ts, hl, hne, hit, hp⟩ := hit
  have hT : s.TypeIs (.ref it) "itertools.permutations" := ⟨_, hit, rfl⟩
  refine wpAny_callSpecial?_slot (name := Str.ofString "__next__") hT slot_pm_next (wpAny_call_entry slot_pm_next hT entry_pm_next ?_ (args_pm_next _))
  obtain ⟨hp0, g, d, tk, os⟩ := s
  have hl0 := hl
  match ts, hl with
  | [t0, t1, t2], _ =>
  unfold Builtin.«itertools.permutations.__next__»
  repeat (first
    | (with_reducible refine wpAny_field hit rfl (by rfl) ?_)
    | with_reducible refine wpAny_loadPart_at hit ?_
    | with_reducible refine wpAny_loadPart_at hp ?_
    | wp_step
    | dsimp only)
  have hit1 : (hp0.update it (Obj.mapFields fun x => x.setIfInBounds 1 (rawInt 1))).get? it = some (pmO (([.ref pool, rawInt 1, rawInt (0 : Nat), last] ++ nums 3 0 0).toArray)) := (Heap.get?_update_self _ hit rfl).trans (by simp [rec, flag, Obj.mapFields])
  have nit : it ≠ (hp0.update it (Obj.mapFields fun x => x.setIfInBounds 1 (rawInt 1))).objs.size := Nat.ne_of_lt (Heap.lt_size hit1)
  have k' : ∀ (o1 o3 : Obj → Obj) (ob : Obj) (b : Addr) (o : Obj), b ≠ it → hp0.get? b = some o → (((hp0.update it o1).push ob).update it o3).get? b = some o := fun o1 o3 ob b o hb ho => (Heap.get?_update_ne _ _ _ _ hb).trans (Heap.get?_push_of_some _ ((Heap.get?_update_ne _ _ _ _ hb).trans ho))
  exact ⟨_, rfl, hQ _ [t0, t1, t2] (hp0.update it (Obj.mapFields fun x => x.setIfInBounds 1 (rawInt 1))).objs.size (Heap.size_update ..) hl0 (at_next (t := (hp0.update it (Obj.mapFields fun x => x.setIfInBounds 1 (rawInt 1))).objs.size) hl0 hne (f := (([.ref pool, rawInt 1, rawInt (0 : Nat), last] ++ nums 3 0 0).toArray).setIfInBounds 3 (.ref (hp0.update it (Obj.mapFields fun x => x.setIfInBounds 1 (rawInt 1))).objs.size)) (by simp [rec, flag]) (Heap.get?_update_self _ (Heap.get?_push_of_some _ hit1) rfl) (k' _ _ _ _ _ hne hp)) (fun b o hb ho => k' _ _ _ b o hb ho) ((Heap.get?_update_ne _ _ _ _ nit.symm).trans (Heap.get?_push_size _ rfl))⟩
theorem item310 {it pool : Addr} {Q : Option Value → Shared → Prop} (hit : At s.heap it pool 3 1 0) (hQ : Came s it pool 3 1 0 Q) : wpAny (model prog w) A (callSpecial? (.ref it) "__next__") Q E s := by
  obtain ⟨last, ts, hl, hne, hit, hp⟩ := hit
  have hT : s.TypeIs (.ref it) "itertools.permutations" := ⟨_, hit, rfl⟩
  refine wpAny_callSpecial?_slot (name := Str.ofString "__next__") hT slot_pm_next (wpAny_call_entry slot_pm_next hT entry_pm_next ?_ (args_pm_next _))
  obtain ⟨hp0, g, d, tk, os⟩ := s
  have hl0 := hl
  match ts, hl with
  | [t0, t1, t2], _ =>
  unfold Builtin.«itertools.permutations.__next__»
  repeat (first
    | (with_reducible refine wpAny_field hit rfl (by rfl) ?_)
    | with_reducible refine wpAny_loadPart_at hit ?_
    | with_reducible refine wpAny_loadPart_at hp ?_
    | wp_step
    | dsimp only)
  have hit1 : (hp0.update it (Obj.mapFields fun x => x.setIfInBounds 1 (rawInt 1))).get? it = some (pmO (([.ref pool, rawInt 1, rawInt (1 : Nat), last] ++ nums 3 1 0).toArray)) := (Heap.get?_update_self _ hit rfl).trans (by simp [rec, flag, Obj.mapFields])
  refine fin_row2 (us' := row 3 1 0 [t0, t1, t2]) (by unfold row; first | (unfold rec nums; rfl) | rfl) hit1 (last := last) rfl (by simp [row, ix]) fun h' t ht h1 k h2 => ?_
  have k' : ∀ b o, b ≠ it → hp0.get? b = some o → h'.get? b = some o := fun b o hb ho => k b o hb ((Heap.get?_update_ne _ _ _ _ hb).trans ho)
  exact hQ h' [t0, t1, t2] t (ht.trans (Heap.size_update ..)) hl0 (at_next (t := t) hl0 hne (by simp [rec, flag]) h1 (k' _ _ hne hp)) k' h2
theorem item311 {it pool : Addr} {Q : Option Value → Shared → Prop} (hit : At s.heap it pool 3 1 1) (hQ : Came s it pool 3 1 1 Q) : wpAny (model prog w) A (callSpecial? (.ref it) "__next__") Q E s := by
  obtain ⟨last, ts, hl, hne, hit, hp⟩ := hit
  have hT : s.TypeIs (.ref it) "itertools.permutations" := ⟨_, hit, rfl⟩
  refine wpAny_callSpecial?_slot (name := Str.ofString "__next__") hT slot_pm_next (wpAny_call_entry slot_pm_next hT entry_pm_next ?_ (args_pm_next _))
  obtain ⟨hp0, g, d, tk, os⟩ := s
  have hl0 := hl
  match ts, hl with
  | [t0, t1, t2], _ =>
  unfold Builtin.«itertools.permutations.__next__»
  repeat (first
    | (with_reducible refine wpAny_field hit rfl (by rfl) ?_)
    | with_reducible refine wpAny_loadPart_at hit ?_
    | with_reducible refine wpAny_loadPart_at hp ?_
    | wp_step
    | dsimp only)
  split
  case h_1 idx cyc hx =>
    have e2 : some (idx, cyc) = some (ix 3 1 1, cy 3 1 1) := hx.symm.trans (by kernel_rfl)
    cases e2
    clear hx
    refine wpAny_bind ?_
    unfold Builtin.Itertools.itSetNumbersFrom
    refine wpAny_updateFields hit rfl ?_ (by show ((rec 3 1 1 pool last).extract 0 4 ++ _).size ≤ _; simp [rec, nums, ix, cy, sizeLine])
    have hit1 : (hp0.update it (Obj.mapFields fun fs => fs.extract 0 4 ++ (List.map (fun n : Nat => rawInt (n : Int)) (ix 3 1 1 ++ cy 3 1 1)).toArray)).get? it = some (pmO (([.ref pool, rawInt 1, rawInt (1 : Nat), last] ++ nums 3 1 1).toArray)) :=
      (Heap.get?_update_self _ hit rfl).trans (by simp [rec, flag, nums, ix, cy, Obj.mapFields])
    refine wpAny_bind (fin_row2 (us' := row 3 1 1 [t0, t1, t2]) (by rfl) hit1 (last := last) rfl (by simp [row, ix]) fun h' t ht h1 k h2 => ?_)
    have k' : ∀ b o, b ≠ it → hp0.get? b = some o → h'.get? b = some o := fun b o hb ho => k b o hb ((Heap.get?_update_ne _ _ _ _ hb).trans ho)
    exact hQ h' [t0, t1, t2] t (ht.trans (Heap.size_update ..)) hl0 (at_next (t := t) hl0 hne (by simp [rec, flag]) h1 (k' _ _ hne hp)) k' h2
  case h_2 hx =>
    exact absurd (hx.symm.trans (show _ = some (ix 3 1 1, cy 3 1 1) by kernel_rfl)) (fun z => nomatch z)
theorem item312 {it pool : Addr} {Q : Option Value → Shared → Prop} (hit : At s.heap it pool 3 1 2) (hQ : Came s it pool 3 1 2 Q) : wpAny (model prog w) A (callSpecial? (.ref it) "__next__") Q E s := by
  obtain ⟨last, ts, hl, hne, hit, hp⟩ := hit
  have hT : s.TypeIs (.ref it) "itertools.permutations" := ⟨_, hit, rfl⟩
  refine wpAny_callSpecial?_slot (name := Str.ofString "__next__") hT slot_pm_next (wpAny_call_entry slot_pm_next hT entry_pm_next ?_ (args_pm_next _))
  obtain ⟨hp0, g, d, tk, os⟩ := s
  have hl0 := hl
  match ts, hl with
  | [t0, t1, t2], _ =>
  unfold Builtin.«itertools.permutations.__next__»
  repeat (first
    | (with_reducible refine wpAny_field hit rfl (by rfl) ?_)
    | with_reducible refine wpAny_loadPart_at hit ?_
    | with_reducible refine wpAny_loadPart_at hp ?_
    | wp_step
    | dsimp only)
  split
  case h_1 idx cyc hx =>
    have e2 : some (idx, cyc) = some (ix 3 1 2, cy 3 1 2) := hx.symm.trans (by kernel_rfl)
    cases e2
    clear hx
    refine wpAny_bind ?_
    unfold Builtin.Itertools.itSetNumbersFrom
    refine wpAny_updateFields hit rfl ?_ (by show ((rec 3 1 2 pool last).extract 0 4 ++ _).size ≤ _; simp [rec, nums, ix, cy, sizeLine])
    have hit1 : (hp0.update it (Obj.mapFields fun fs => fs.extract 0 4 ++ (List.map (fun n : Nat => rawInt (n : Int)) (ix 3 1 2 ++ cy 3 1 2)).toArray)).get? it = some (pmO (([.ref pool, rawInt 1, rawInt (1 : Nat), last] ++ nums 3 1 2).toArray)) :=
      (Heap.get?_update_self _ hit rfl).trans (by simp [rec, flag, nums, ix, cy, Obj.mapFields])
    refine wpAny_bind (fin_row2 (us' := row 3 1 2 [t0, t1, t2]) (by rfl) hit1 (last := last) rfl (by simp [row, ix]) fun h' t ht h1 k h2 => ?_)
    have k' : ∀ b o, b ≠ it → hp0.get? b = some o → h'.get? b = some o := fun b o hb ho => k b o hb ((Heap.get?_update_ne _ _ _ _ hb).trans ho)
    exact hQ h' [t0, t1, t2] t (ht.trans (Heap.size_update ..)) hl0 (at_next (t := t) hl0 hne (by simp [rec, flag]) h1 (k' _ _ hne hp)) k' h2
  case h_2 hx =>
    exact absurd (hx.symm.trans (show _ = some (ix 3 1 2, cy 3 1 2) by kernel_rfl)) (fun z => nomatch z)
theorem item320 {it pool : Addr} {Q : Option Value → Shared → Prop} (hit : At s.heap it pool 3 2 0) (hQ : Came s it pool 3 2 0 Q) : wpAny (model prog w) A (callSpecial? (.ref it) "__next__") Q E s := by
  obtain ⟨last, ts, hl, hne, hit, hp⟩ := hit
  have hT : s.TypeIs (.ref it) "itertools.permutations" := ⟨_, hit, rfl⟩
  refine wpAny_callSpecial?_slot (name := Str.ofString "__next__") hT slot_pm_next (wpAny_call_entry slot_pm_next hT entry_pm_next ?_ (args_pm_next _))
  obtain ⟨hp0, g, d, tk, os⟩ := s
  have hl0 := hl
  match ts, hl with
  | [t0, t1, t2], _ =>
  unfold Builtin.«itertools.permutations.__next__»
  repeat (first
    | (with_reducible refine wpAny_field hit rfl (by rfl) ?_)
    | with_reducible refine wpAny_loadPart_at hit ?_
    | with_reducible refine wpAny_loadPart_at hp ?_
    | wp_step
    | dsimp only)
  have hit1 : (hp0.update it (Obj.mapFields fun x => x.setIfInBounds 1 (rawInt 1))).get? it = some (pmO (([.ref pool, rawInt 1, rawInt (2 : Nat), last] ++ nums 3 2 0).toArray)) := (Heap.get?_update_self _ hit rfl).trans (by simp [rec, flag, Obj.mapFields])
  refine fin_row2 (us' := row 3 2 0 [t0, t1, t2]) (by unfold row; first | (unfold rec nums; rfl) | rfl) hit1 (last := last) rfl (by simp [row, ix]) fun h' t ht h1 k h2 => ?_
  have k' : ∀ b o, b ≠ it → hp0.get? b = some o → h'.get? b = some o := fun b o hb ho => k b o hb ((Heap.get?_update_ne _ _ _ _ hb).trans ho)
  exact hQ h' [t0, t1, t2] t (ht.trans (Heap.size_update ..)) hl0 (at_next (t := t) hl0 hne (by simp [rec, flag]) h1 (k' _ _ hne hp)) k' h2
theorem item321 {it pool : Addr} {Q : Option Value → Shared → Prop} (hit : At s.heap it pool 3 2 1) (hQ : Came s it pool 3 2 1 Q) : wpAny (model prog w) A (callSpecial? (.ref it) "__next__") Q E s := by
  obtain ⟨last, ts, hl, hne, hit, hp⟩ := hit
  have hT : s.TypeIs (.ref it) "itertools.permutations" := ⟨_, hit, rfl⟩
  refine wpAny_callSpecial?_slot (name := Str.ofString "__next__") hT slot_pm_next (wpAny_call_entry slot_pm_next hT entry_pm_next ?_ (args_pm_next _))
  obtain ⟨hp0, g, d, tk, os⟩ := s
  have hl0 := hl
  match ts, hl with
  | [t0, t1, t2], _ =>
  unfold Builtin.«itertools.permutations.__next__»
  repeat (first
    | (with_reducible refine wpAny_field hit rfl (by rfl) ?_)
    | with_reducible refine wpAny_loadPart_at hit ?_
    | with_reducible refine wpAny_loadPart_at hp ?_
    | wp_step
    | dsimp only)
  split
  case h_1 idx cyc hx =>
    have e2 : some (idx, cyc) = some (ix 3 2 1, cy 3 2 1) := hx.symm.trans (by kernel_rfl)
    cases e2
    clear hx
    refine wpAny_bind ?_
    unfold Builtin.Itertools.itSetNumbersFrom
    refine wpAny_updateFields hit rfl ?_ (by show ((rec 3 2 1 pool last).extract 0 4 ++ _).size ≤ _; simp [rec, nums, ix, cy, sizeLine])
    have hit1 : (hp0.update it (Obj.mapFields fun fs => fs.extract 0 4 ++ (List.map (fun n : Nat => rawInt (n : Int)) (ix 3 2 1 ++ cy 3 2 1)).toArray)).get? it = some (pmO (([.ref pool, rawInt 1, rawInt (2 : Nat), last] ++ nums 3 2 1).toArray)) :=
      (Heap.get?_update_self _ hit rfl).trans (by simp [rec, flag, nums, ix, cy, Obj.mapFields])
    refine wpAny_bind (fin_row2 (us' := row 3 2 1 [t0, t1, t2]) (by rfl) hit1 (last := last) rfl (by simp [row, ix]) fun h' t ht h1 k h2 => ?_)
    have k' : ∀ b o, b ≠ it → hp0.get? b = some o → h'.get? b = some o := fun b o hb ho => k b o hb ((Heap.get?_update_ne _ _ _ _ hb).trans ho)
    exact hQ h' [t0, t1, t2] t (ht.trans (Heap.size_update ..)) hl0 (at_next (t := t) hl0 hne (by simp [rec, flag]) h1 (k' _ _ hne hp)) k' h2
  case h_2 hx =>
    exact absurd (hx.symm.trans (show _ = some (ix 3 2 1, cy 3 2 1) by kernel_rfl)) (fun z => nomatch z)
theorem item322 {it pool : Addr} {Q : Option Value → Shared → Prop} (hit : At s.heap it pool 3 2 2) (hQ : Came s it pool 3 2 2 Q) : wpAny (model prog w) A (callSpecial? (.ref it) "__next__") Q E s := by
  obtain ⟨last, ts, hl, hne, hit, hp⟩ := hit
  have hT : s.TypeIs (.ref it) "itertools.permutations" := ⟨_, hit, rfl⟩
  refine wpAny_callSpecial?_slot (name := Str.ofString "__next__") hT slot_pm_next (wpAny_call_entry slot_pm_next hT entry_pm_next ?_ (args_pm_next _))
  obtain ⟨hp0, g, d, tk, os⟩ := s
  have hl0 := hl
  match ts, hl with
  | [t0, t1, t2], _ =>
  unfold Builtin.«itertools.permutations.__next__»
  repeat (first
    | (with_reducible refine wpAny_field hit rfl (by rfl) ?_)
    | with_reducible refine wpAny_loadPart_at hit ?_
    | with_reducible refine wpAny_loadPart_at hp ?_
    | wp_step
    | dsimp only)
  split
  case h_1 idx cyc hx =>
    have e2 : some (idx, cyc) = some (ix 3 2 2, cy 3 2 2) := hx.symm.trans (by kernel_rfl)
    cases e2
    clear hx
    refine wpAny_bind ?_
    unfold Builtin.Itertools.itSetNumbersFrom
    refine wpAny_updateFields hit rfl ?_ (by show ((rec 3 2 2 pool last).extract 0 4 ++ _).size ≤ _; simp [rec, nums, ix, cy, sizeLine])
    have hit1 : (hp0.update it (Obj.mapFields fun fs => fs.extract 0 4 ++ (List.map (fun n : Nat => rawInt (n : Int)) (ix 3 2 2 ++ cy 3 2 2)).toArray)).get? it = some (pmO (([.ref pool, rawInt 1, rawInt (2 : Nat), last] ++ nums 3 2 2).toArray)) :=
      (Heap.get?_update_self _ hit rfl).trans (by simp [rec, flag, nums, ix, cy, Obj.mapFields])
    refine wpAny_bind (fin_row2 (us' := row 3 2 2 [t0, t1, t2]) (by rfl) hit1 (last := last) rfl (by simp [row, ix]) fun h' t ht h1 k h2 => ?_)
    have k' : ∀ b o, b ≠ it → hp0.get? b = some o → h'.get? b = some o := fun b o hb ho => k b o hb ((Heap.get?_update_ne _ _ _ _ hb).trans ho)
    exact hQ h' [t0, t1, t2] t (ht.trans (Heap.size_update ..)) hl0 (at_next (t := t) hl0 hne (by simp [rec, flag]) h1 (k' _ _ hne hp)) k' h2
  case h_2 hx =>
    exact absurd (hx.symm.trans (show _ = some (ix 3 2 2, cy 3 2 2) by kernel_rfl)) (fun z => nomatch z)
theorem item323 {it pool : Addr} {Q : Option Value → Shared → Prop} (hit : At s.heap it pool 3 2 3) (hQ : Came s it pool 3 2 3 Q) : wpAny (model prog w) A (callSpecial? (.ref it) "__next__") Q E s := by
  obtain ⟨last, ts, hl, hne, hit, hp⟩ := hit
  have hT : s.TypeIs (.ref it) "itertools.permutations" := ⟨_, hit, rfl⟩
  refine wpAny_callSpecial?_slot (name := Str.ofString "__next__") hT slot_pm_next (wpAny_call_entry slot_pm_next hT entry_pm_next ?_ (args_pm_next _))
  obtain ⟨hp0, g, d, tk, os⟩ := s
  have hl0 := hl
  match ts, hl with
  | [t0, t1, t2], _ =>
  unfold Builtin.«itertools.permutations.__next__»
  repeat (first
    | (with_reducible refine wpAny_field hit rfl (by rfl) ?_)
    | with_reducible refine wpAny_loadPart_at hit ?_
    | with_reducible refine wpAny_loadPart_at hp ?_
    | wp_step
    | dsimp only)
  split
  case h_1 idx cyc hx =>
    have e2 : some (idx, cyc) = some (ix 3 2 3, cy 3 2 3) := hx.symm.trans (by kernel_rfl)
    cases e2
    clear hx
    refine wpAny_bind ?_
    unfold Builtin.Itertools.itSetNumbersFrom
    refine wpAny_updateFields hit rfl ?_ (by show ((rec 3 2 3 pool last).extract 0 4 ++ _).size ≤ _; simp [rec, nums, ix, cy, sizeLine])
    have hit1 : (hp0.update it (Obj.mapFields fun fs => fs.extract 0 4 ++ (List.map (fun n : Nat => rawInt (n : Int)) (ix 3 2 3 ++ cy 3 2 3)).toArray)).get? it = some (pmO (([.ref pool, rawInt 1, rawInt (2 : Nat), last] ++ nums 3 2 3).toArray)) :=
      (Heap.get?_update_self _ hit rfl).trans (by simp [rec, flag, nums, ix, cy, Obj.mapFields])
    refine wpAny_bind (fin_row2 (us' := row 3 2 3 [t0, t1, t2]) (by rfl) hit1 (last := last) rfl (by simp [row, ix]) fun h' t ht h1 k h2 => ?_)
    have k' : ∀ b o, b ≠ it → hp0.get? b = some o → h'.get? b = some o := fun b o hb ho => k b o hb ((Heap.get?_update_ne _ _ _ _ hb).trans ho)
    exact hQ h' [t0, t1, t2] t (ht.trans (Heap.size_update ..)) hl0 (at_next (t := t) hl0 hne (by simp [rec, flag]) h1 (k' _ _ hne hp)) k' h2
  case h_2 hx =>
    exact absurd (hx.symm.trans (show _ = some (ix 3 2 3, cy 3 2 3) by kernel_rfl)) (fun z => nomatch z)
theorem item324 {it pool : Addr} {Q : Option Value → Shared → Prop} (hit : At s.heap it pool 3 2 4) (hQ : Came s it pool 3 2 4 Q) : wpAny (model prog w) A (callSpecial? (.ref it) "__next__") Q E s := by
  obtain ⟨last, ts, hl, hne, hit, hp⟩ := hit
  have hT : s.TypeIs (.ref it) "itertools.permutations" := ⟨_, hit, rfl⟩
  refine wpAny_callSpecial?_slot (name := Str.ofString "__next__") hT slot_pm_next (wpAny_call_entry slot_pm_next hT entry_pm_next ?_ (args_pm_next _))
  obtain ⟨hp0, g, d, tk, os⟩ := s
  have hl0 := hl
  match ts, hl with
  | [t0, t1, t2], _ =>
  unfold Builtin.«itertools.permutations.__next__»
  repeat (first
    | (with_reducible refine wpAny_field hit rfl (by rfl) ?_)
    | with_reducible refine wpAny_loadPart_at hit ?_
    | with_reducible refine wpAny_loadPart_at hp ?_
    | wp_step
    | dsimp only)
  split
  case h_1 idx cyc hx =>
    have e2 : some (idx, cyc) = some (ix 3 2 4, cy 3 2 4) := hx.symm.trans (by kernel_rfl)
    cases e2
    clear hx
    refine wpAny_bind ?_
    unfold Builtin.Itertools.itSetNumbersFrom
    refine wpAny_updateFields hit rfl ?_ (by show ((rec 3 2 4 pool last).extract 0 4 ++ _).size ≤ _; simp [rec, nums, ix, cy, sizeLine])
    have hit1 : (hp0.update it (Obj.mapFields fun fs => fs.extract 0 4 ++ (List.map (fun n : Nat => rawInt (n : Int)) (ix 3 2 4 ++ cy 3 2 4)).toArray)).get? it = some (pmO (([.ref pool, rawInt 1, rawInt (2 : Nat), last] ++ nums 3 2 4).toArray)) :=
      (Heap.get?_update_self _ hit rfl).trans (by simp [rec, flag, nums, ix, cy, Obj.mapFields])
    refine wpAny_bind (fin_row2 (us' := row 3 2 4 [t0, t1, t2]) (by rfl) hit1 (last := last) rfl (by simp [row, ix]) fun h' t ht h1 k h2 => ?_)
    have k' : ∀ b o, b ≠ it → hp0.get? b = some o → h'.get? b = some o := fun b o hb ho => k b o hb ((Heap.get?_update_ne _ _ _ _ hb).trans ho)
    exact hQ h' [t0, t1, t2] t (ht.trans (Heap.size_update ..)) hl0 (at_next (t := t) hl0 hne (by simp [rec, flag]) h1 (k' _ _ hne hp)) k' h2
  case h_2 hx =>
    exact absurd (hx.symm.trans (show _ = some (ix 3 2 4, cy 3 2 4) by kernel_rfl)) (fun z => nomatch z)
theorem item325 {it pool : Addr} {Q : Option Value → Shared → Prop} (hit : At s.heap it pool 3 2 5) (hQ : Came s it pool 3 2 5 Q) : wpAny (model prog w) A (callSpecial? (.ref it) "__next__") Q E s := by
  obtain ⟨last, ts, hl, hne, hit, hp⟩ := hit
  have hT : s.TypeIs (.ref it) "itertools.permutations" := ⟨_, hit, rfl⟩
  refine wpAny_callSpecial?_slot (name := Str.ofString "__next__") hT slot_pm_next (wpAny_call_entry slot_pm_next hT entry_pm_next ?_ (args_pm_next _))
  obtain ⟨hp0, g, d, tk, os⟩ := s
  have hl0 := hl
  match ts, hl with
  | [t0, t1, t2], _ =>
  unfold Builtin.«itertools.permutations.__next__»
  repeat (first
    | (with_reducible refine wpAny_field hit rfl (by rfl) ?_)
    | with_reducible refine wpAny_loadPart_at hit ?_
    | with_reducible refine wpAny_loadPart_at hp ?_
    | wp_step
    | dsimp only)
  split
  case h_1 idx cyc hx =>
    have e2 : some (idx, cyc) = some (ix 3 2 5, cy 3 2 5) := hx.symm.trans (by kernel_rfl)
    cases e2
    clear hx
    refine wpAny_bind ?_
    unfold Builtin.Itertools.itSetNumbersFrom
    refine wpAny_updateFields hit rfl ?_ (by show ((rec 3 2 5 pool last).extract 0 4 ++ _).size ≤ _; simp [rec, nums, ix, cy, sizeLine])
    have hit1 : (hp0.update it (Obj.mapFields fun fs => fs.extract 0 4 ++ (List.map (fun n : Nat => rawInt (n : Int)) (ix 3 2 5 ++ cy 3 2 5)).toArray)).get? it = some (pmO (([.ref pool, rawInt 1, rawInt (2 : Nat), last] ++ nums 3 2 5).toArray)) :=
      (Heap.get?_update_self _ hit rfl).trans (by simp [rec, flag, nums, ix, cy, Obj.mapFields])
    refine wpAny_bind (fin_row2 (us' := row 3 2 5 [t0, t1, t2]) (by rfl) hit1 (last := last) rfl (by simp [row, ix]) fun h' t ht h1 k h2 => ?_)
    have k' : ∀ b o, b ≠ it → hp0.get? b = some o → h'.get? b = some o := fun b o hb ho => k b o hb ((Heap.get?_update_ne _ _ _ _ hb).trans ho)
    exact hQ h' [t0, t1, t2] t (ht.trans (Heap.size_update ..)) hl0 (at_next (t := t) hl0 hne (by simp [rec, flag]) h1 (k' _ _ hne hp)) k' h2
  case h_2 hx =>
    exact absurd (hx.symm.trans (show _ = some (ix 3 2 5, cy 3 2 5) by kernel_rfl)) (fun z => nomatch z)
theorem stop10 {it pool : Addr} {Q : Option Value → Shared → Prop} (hh : A.handled = none) (hit : At s.heap it pool 1 0 1)
    (hE : ∀ h' e, (∀ b o, b ≠ it → s.heap.get? b = some o → h'.get? b = some o) → (∃ o, h'.get? e = some o ∧ o.cls = .type "StopIteration") → E (.ref e) { s with heap := h' }) : wpAny (model prog w) A (callSpecial? (.ref it) "__next__") Q E s := by
  obtain ⟨last, ts, hl, hne, hit, hp⟩ := hit
  have hT : s.TypeIs (.ref it) "itertools.permutations" := ⟨_, hit, rfl⟩
  refine wpAny_callSpecial?_slot (name := Str.ofString "__next__") hT slot_pm_next (wpAny_call_entry slot_pm_next hT entry_pm_next ?_ (args_pm_next _))
  obtain ⟨hp0, g, d, tk, os⟩ := s
  have hl0 := hl
  match ts, hl with
  | [t0], _ =>
  unfold Builtin.«itertools.permutations.__next__»
  repeat (first
    | (with_reducible refine wpAny_field hit rfl (by rfl) ?_)
    | with_reducible refine wpAny_loadPart_at hit ?_
    | with_reducible refine wpAny_loadPart_at hp ?_
    | wp_step
    | dsimp only)
  simp only [raiseNew]
  refine wpAny_bind (wpAny_handled ?_)
  first | rw [show A.in1.handled = none from hh] | rw [hh]
  refine wpAny_bind (wpAny_pure (wpAny_throw ?_))
  exact hE _ _ (((Heap.SameBut.update ..).extBut.push _).push _) ⟨_, Heap.get?_push_size _ rfl, rfl⟩
theorem stop11 {it pool : Addr} {Q : Option Value → Shared → Prop} (hh : A.handled = none) (hit : At s.heap it pool 1 1 1)
    (hE : ∀ h' e, (∀ b o, b ≠ it → s.heap.get? b = some o → h'.get? b = some o) → (∃ o, h'.get? e = some o ∧ o.cls = .type "StopIteration") → E (.ref e) { s with heap := h' }) : wpAny (model prog w) A (callSpecial? (.ref it) "__next__") Q E s := by
  obtain ⟨last, ts, hl, hne, hit, hp⟩ := hit
  have hT : s.TypeIs (.ref it) "itertools.permutations" := ⟨_, hit, rfl⟩
  refine wpAny_callSpecial?_slot (name := Str.ofString "__next__") hT slot_pm_next (wpAny_call_entry slot_pm_next hT entry_pm_next ?_ (args_pm_next _))
  obtain ⟨hp0, g, d, tk, os⟩ := s
  have hl0 := hl
  match ts, hl with
  | [t0], _ =>
  unfold Builtin.«itertools.permutations.__next__»
  repeat (first
    | (with_reducible refine wpAny_field hit rfl (by rfl) ?_)
    | with_reducible refine wpAny_loadPart_at hit ?_
    | with_reducible refine wpAny_loadPart_at hp ?_
    | wp_step
    | dsimp only)
  split
  case h_1 idx cyc hx =>
    have e2 : some (idx, cyc) = none := hx.symm.trans (by kernel_rfl)
    cases e2
  case h_2 hx =>
    refine wpAny_bind (wpAny_setField hit rfl (by simp [rec]) ?_)
    unfold Builtin.Itertools.itStop
    refine wpAny_bind ?_
    simp only [newExc, newTuple]
    refine wpAny_bind (wpAny_newObj_type ?_ (by size_fits))
    refine wpAny_bind (m := firstArgMember _ _) (wpAny_of_eq (a := Value.none) (by first | rfl | (simp only [firstArgMember]; rfl)) ?_)
    refine wpAny_newObj_type ?_ (by size_fits)
    simp only [raiseNew]
    refine wpAny_bind (wpAny_handled ?_)
    first | rw [show A.in1.handled = none from hh] | rw [hh]
    refine wpAny_bind (wpAny_pure (wpAny_throw ?_))
    exact hE _ _ (((Heap.SameBut.update ..).extBut.push _).push _) ⟨_, Heap.get?_push_size _ rfl, rfl⟩
theorem stop12 {it pool : Addr} {Q : Option Value → Shared → Prop} (hh : A.handled = none) (hit : At s.heap it pool 1 2 0)
    (hE : ∀ h' e, (∀ b o, b ≠ it → s.heap.get? b = some o → h'.get? b = some o) → (∃ o, h'.get? e = some o ∧ o.cls = .type "StopIteration") → E (.ref e) { s with heap := h' }) : wpAny (model prog w) A (callSpecial? (.ref it) "__next__") Q E s := by
  obtain ⟨last, ts, hl, hne, hit, hp⟩ := hit
  have hT : s.TypeIs (.ref it) "itertools.permutations" := ⟨_, hit, rfl⟩
  refine wpAny_callSpecial?_slot (name := Str.ofString "__next__") hT slot_pm_next (wpAny_call_entry slot_pm_next hT entry_pm_next ?_ (args_pm_next _))
  obtain ⟨hp0, g, d, tk, os⟩ := s
  have hl0 := hl
  match ts, hl with
  | [t0], _ =>
  unfold Builtin.«itertools.permutations.__next__»
  repeat (first
    | (with_reducible refine wpAny_field hit rfl (by rfl) ?_)
    | with_reducible refine wpAny_loadPart_at hit ?_
    | with_reducible refine wpAny_loadPart_at hp ?_
    | wp_step
    | dsimp only)
  simp only [raiseNew]
  refine wpAny_bind (wpAny_handled ?_)
  first | rw [show A.in1.handled = none from hh] | rw [hh]
  refine wpAny_bind (wpAny_pure (wpAny_throw ?_))
  exact hE _ _ (fun b o hb ho => Heap.get?_push_of_some _ (Heap.get?_push_of_some _ ho)) ⟨_, Heap.get?_push_size _ rfl, rfl⟩
theorem stop20 {it pool : Addr} {Q : Option Value → Shared → Prop} (hh : A.handled = none) (hit : At s.heap it pool 2 0 1)
    (hE : ∀ h' e, (∀ b o, b ≠ it → s.heap.get? b = some o → h'.get? b = some o) → (∃ o, h'.get? e = some o ∧ o.cls = .type "StopIteration") → E (.ref e) { s with heap := h' }) : wpAny (model prog w) A (callSpecial? (.ref it) "__next__") Q E s := by
  obtain ⟨last, ts, hl, hne, hit, hp⟩ := hit
  have hT : s.TypeIs (.ref it) "itertools.permutations" := ⟨_, hit, rfl⟩
  refine wpAny_callSpecial?_slot (name := Str.ofString "__next__") hT slot_pm_next (wpAny_call_entry slot_pm_next hT entry_pm_next ?_ (args_pm_next _))
  obtain ⟨hp0, g, d, tk, os⟩ := s
  have hl0 := hl
  match ts, hl with
  | [t0, t1], _ =>
  unfold Builtin.«itertools.permutations.__next__»
  repeat (first
    | (with_reducible refine wpAny_field hit rfl (by rfl) ?_)
    | with_reducible refine wpAny_loadPart_at hit ?_
    | with_reducible refine wpAny_loadPart_at hp ?_
    | wp_step
    | dsimp only)
  simp only [raiseNew]
  refine wpAny_bind (wpAny_handled ?_)
  first | rw [show A.in1.handled = none from hh] | rw [hh]
  refine wpAny_bind (wpAny_pure (wpAny_throw ?_))
  exact hE _ _ (((Heap.SameBut.update ..).extBut.push _).push _) ⟨_, Heap.get?_push_size _ rfl, rfl⟩
theorem stop21 {it pool : Addr} {Q : Option Value → Shared → Prop} (hh : A.handled = none) (hit : At s.heap it pool 2 1 2)
    (hE : ∀ h' e, (∀ b o, b ≠ it → s.heap.get? b = some o → h'.get? b = some o) → (∃ o, h'.get? e = some o ∧ o.cls = .type "StopIteration") → E (.ref e) { s with heap := h' }) : wpAny (model prog w) A (callSpecial? (.ref it) "__next__") Q E s := by
  obtain ⟨last, ts, hl, hne, hit, hp⟩ := hit
  have hT : s.TypeIs (.ref it) "itertools.permutations" := ⟨_, hit, rfl⟩
  refine wpAny_callSpecial?_slot (name := Str.ofString "__next__") hT slot_pm_next (wpAny_call_entry slot_pm_next hT entry_pm_next ?_ (args_pm_next _))
  obtain ⟨hp0, g, d, tk, os⟩ := s
  have hl0 := hl
  match ts, hl with
  | [t0, t1], _ =>
  unfold Builtin.«itertools.permutations.__next__»
  repeat (first
    | (with_reducible refine wpAny_field hit rfl (by rfl) ?_)
    | with_reducible refine wpAny_loadPart_at hit ?_
    | with_reducible refine wpAny_loadPart_at hp ?_
    | wp_step
    | dsimp only)
  split
  case h_1 idx cyc hx =>
    have e2 : some (idx, cyc) = none := hx.symm.trans (by kernel_rfl)
    cases e2
  case h_2 hx =>
    refine wpAny_bind (wpAny_setField hit rfl (by simp [rec]) ?_)
    unfold Builtin.Itertools.itStop
    refine wpAny_bind ?_
    simp only [newExc, newTuple]
    refine wpAny_bind (wpAny_newObj_type ?_ (by size_fits))
    refine wpAny_bind (m := firstArgMember _ _) (wpAny_of_eq (a := Value.none) (by first | rfl | (simp only [firstArgMember]; rfl)) ?_)
    refine wpAny_newObj_type ?_ (by size_fits)
    simp only [raiseNew]
    refine wpAny_bind (wpAny_handled ?_)
    first | rw [show A.in1.handled = none from hh] | rw [hh]
    refine wpAny_bind (wpAny_pure (wpAny_throw ?_))
    exact hE _ _ (((Heap.SameBut.update ..).extBut.push _).push _) ⟨_, Heap.get?_push_size _ rfl, rfl⟩
theorem stop22 {it pool : Addr} {Q : Option Value → Shared → Prop} (hh : A.handled = none) (hit : At s.heap it pool 2 2 2)
    (hE : ∀ h' e, (∀ b o, b ≠ it → s.heap.get? b = some o → h'.get? b = some o) → (∃ o, h'.get? e = some o ∧ o.cls = .type "StopIteration") → E (.ref e) { s with heap := h' }) : wpAny (model prog w) A (callSpecial? (.ref it) "__next__") Q E s := by
  obtain ⟨last, ts, hl, hne, hit, hp⟩ := hit
  have hT : s.TypeIs (.ref it) "itertools.permutations" := ⟨_, hit, rfl⟩
  refine wpAny_callSpecial?_slot (name := Str.ofString "__next__") hT slot_pm_next (wpAny_call_entry slot_pm_next hT entry_pm_next ?_ (args_pm_next _))
  obtain ⟨hp0, g, d, tk, os⟩ := s
  have hl0 := hl
  match ts, hl with
  | [t0, t1], _ =>
  unfold Builtin.«itertools.permutations.__next__»
  repeat (first
    | (with_reducible refine wpAny_field hit rfl (by rfl) ?_)
    | with_reducible refine wpAny_loadPart_at hit ?_
    | with_reducible refine wpAny_loadPart_at hp ?_
    | wp_step
    | dsimp only)
  split
  case h_1 idx cyc hx =>
    have e2 : some (idx, cyc) = none := hx.symm.trans (by kernel_rfl)
    cases e2
  case h_2 hx =>
    refine wpAny_bind (wpAny_setField hit rfl (by simp [rec]) ?_)
    unfold Builtin.Itertools.itStop
    refine wpAny_bind ?_
    simp only [newExc, newTuple]
    refine wpAny_bind (wpAny_newObj_type ?_ (by size_fits))
    refine wpAny_bind (m := firstArgMember _ _) (wpAny_of_eq (a := Value.none) (by first | rfl | (simp only [firstArgMember]; rfl)) ?_)
    refine wpAny_newObj_type ?_ (by size_fits)
    simp only [raiseNew]
    refine wpAny_bind (wpAny_handled ?_)
    first | rw [show A.in1.handled = none from hh] | rw [hh]
    refine wpAny_bind (wpAny_pure (wpAny_throw ?_))
    exact hE _ _ (((Heap.SameBut.update ..).extBut.push _).push _) ⟨_, Heap.get?_push_size _ rfl, rfl⟩
theorem stop30 {it pool : Addr} {Q : Option Value → Shared → Prop} (hh : A.handled = none) (hit : At s.heap it pool 3 0 1)
    (hE : ∀ h' e, (∀ b o, b ≠ it → s.heap.get? b = some o → h'.get? b = some o) → (∃ o, h'.get? e = some o ∧ o.cls = .type "StopIteration") → E (.ref e) { s with heap := h' }) : wpAny (model prog w) A (callSpecial? (.ref it) "__next__") Q E s := by
  obtain ⟨last, ts, hl, hne, hit, hp⟩ := hit
  have hT : s.TypeIs (.ref it) "itertools.permutations" := ⟨_, hit, rfl⟩
  refine wpAny_callSpecial?_slot (name := Str.ofString "__next__") hT slot_pm_next (wpAny_call_entry slot_pm_next hT entry_pm_next ?_ (args_pm_next _))
  obtain ⟨hp0, g, d, tk, os⟩ := s
  have hl0 := hl
  match ts, hl with
  | [t0, t1, t2], _ =>
  unfold Builtin.«itertools.permutations.__next__»
  repeat (first
    | (with_reducible refine wpAny_field hit rfl (by rfl) ?_)
    | with_reducible refine wpAny_loadPart_at hit ?_
    | with_reducible refine wpAny_loadPart_at hp ?_
    | wp_step
    | dsimp only)
  simp only [raiseNew]
  refine wpAny_bind (wpAny_handled ?_)
  first | rw [show A.in1.handled = none from hh] | rw [hh]
  refine wpAny_bind (wpAny_pure (wpAny_throw ?_))
  exact hE _ _ (((Heap.SameBut.update ..).extBut.push _).push _) ⟨_, Heap.get?_push_size _ rfl, rfl⟩
theorem stop31 {it pool : Addr} {Q : Option Value → Shared → Prop} (hh : A.handled = none) (hit : At s.heap it pool 3 1 3)
    (hE : ∀ h' e, (∀ b o, b ≠ it → s.heap.get? b = some o → h'.get? b = some o) → (∃ o, h'.get? e = some o ∧ o.cls = .type "StopIteration") → E (.ref e) { s with heap := h' }) : wpAny (model prog w) A (callSpecial? (.ref it) "__next__") Q E s := by
  obtain ⟨last, ts, hl, hne, hit, hp⟩ := hit
  have hT : s.TypeIs (.ref it) "itertools.permutations" := ⟨_, hit, rfl⟩
  refine wpAny_callSpecial?_slot (name := Str.ofString "__next__") hT slot_pm_next (wpAny_call_entry slot_pm_next hT entry_pm_next ?_ (args_pm_next _))
  obtain ⟨hp0, g, d, tk, os⟩ := s
  have hl0 := hl
  match ts, hl with
  | [t0, t1, t2], _ =>
  unfold Builtin.«itertools.permutations.__next__»
  repeat (first
    | (with_reducible refine wpAny_field hit rfl (by rfl) ?_)
    | with_reducible refine wpAny_loadPart_at hit ?_
    | with_reducible refine wpAny_loadPart_at hp ?_
    | wp_step
    | dsimp only)
  split
  case h_1 idx cyc hx =>
    have e2 : some (idx, cyc) = none := hx.symm.trans (by kernel_rfl)
    cases e2
  case h_2 hx =>
    refine wpAny_bind (wpAny_setField hit rfl (by simp [rec]) ?_)
    unfold Builtin.Itertools.itStop
    refine wpAny_bind ?_
    simp only [newExc, newTuple]
    refine wpAny_bind (wpAny_newObj_type ?_ (by size_fits))
    refine wpAny_bind (m := firstArgMember _ _) (wpAny_of_eq (a := Value.none) (by first | rfl | (simp only [firstArgMember]; rfl)) ?_)
    refine wpAny_newObj_type ?_ (by size_fits)
    simp only [raiseNew]
    refine wpAny_bind (wpAny_handled ?_)
    first | rw [show A.in1.handled = none from hh] | rw [hh]
    refine wpAny_bind (wpAny_pure (wpAny_throw ?_))
    exact hE _ _ (((Heap.SameBut.update ..).extBut.push _).push _) ⟨_, Heap.get?_push_size _ rfl, rfl⟩
theorem stop32 {it pool : Addr} {Q : Option Value → Shared → Prop} (hh : A.handled = none) (hit : At s.heap it pool 3 2 6)
    (hE : ∀ h' e, (∀ b o, b ≠ it → s.heap.get? b = some o → h'.get? b = some o) → (∃ o, h'.get? e = some o ∧ o.cls = .type "StopIteration") → E (.ref e) { s with heap := h' }) : wpAny (model prog w) A (callSpecial? (.ref it) "__next__") Q E s := by
  obtain ⟨last, ts, hl, hne, hit, hp⟩ := hit
  have hT : s.TypeIs (.ref it) "itertools.permutations" := ⟨_, hit, rfl⟩
  refine wpAny_callSpecial?_slot (name := Str.ofString "__next__") hT slot_pm_next (wpAny_call_entry slot_pm_next hT entry_pm_next ?_ (args_pm_next _))
  obtain ⟨hp0, g, d, tk, os⟩ := s
  have hl0 := hl
  match ts, hl with
  | [t0, t1, t2], _ =>
  unfold Builtin.«itertools.permutations.__next__»
  repeat (first
    | (with_reducible refine wpAny_field hit rfl (by rfl) ?_)
    | with_reducible refine wpAny_loadPart_at hit ?_
    | with_reducible refine wpAny_loadPart_at hp ?_
    | wp_step
    | dsimp only)
  split
  case h_1 idx cyc hx =>
    have e2 : some (idx, cyc) = none := hx.symm.trans (by kernel_rfl)
    cases e2
  case h_2 hx =>
    refine wpAny_bind (wpAny_setField hit rfl (by simp [rec]) ?_)
    unfold Builtin.Itertools.itStop
    refine wpAny_bind ?_
    simp only [newExc, newTuple]
    refine wpAny_bind (wpAny_newObj_type ?_ (by size_fits))
    refine wpAny_bind (m := firstArgMember _ _) (wpAny_of_eq (a := Value.none) (by first | rfl | (simp only [firstArgMember]; rfl)) ?_)
    refine wpAny_newObj_type ?_ (by size_fits)
    simp only [raiseNew]
    refine wpAny_bind (wpAny_handled ?_)
    first | rw [show A.in1.handled = none from hh] | rw [hh]
    refine wpAny_bind (wpAny_pure (wpAny_throw ?_))
    exact hE _ _ (((Heap.SameBut.update ..).extBut.push _).push _) ⟨_, Heap.get?_push_size _ rfl, rfl⟩
theorem pq_item {it pool : Addr} {Q : Option Value → Shared → Prop} (n r i : Nat) (h : i < fct n r) (a : At s.heap it pool n r i) (b : Came s it pool n r i Q) : wpAny (model prog w) A (callSpecial? (.ref it) "__next__") Q E s := by
  have hn : (n = 1 ∨ n = 2 ∨ n = 3) ∧ (r = 0 ∨ r = 1 ∨ r = 2) := by
    unfold fct at h
    split at h <;> first | omega | simp
  rcases hn with ⟨rfl | rfl | rfl, rfl | rfl | rfl⟩
  · have h : i < 1 := h
    obtain rfl : i = 0 := by omega
    exact item100 a b
  · have h : i < 1 := h
    obtain rfl : i = 0 := by omega
    exact item110 a b
  · have h : i < 0 := h
    omega
  · have h : i < 1 := h
    obtain rfl : i = 0 := by omega
    exact item200 a b
  · have h : i < 2 := h
    rcases (by omega : i = 0 ∨ i = 1) with rfl | rfl
    · exact item210 a b
    · exact item211 a b
  · have h : i < 2 := h
    rcases (by omega : i = 0 ∨ i = 1) with rfl | rfl
    · exact item220 a b
    · exact item221 a b
  · have h : i < 1 := h
    obtain rfl : i = 0 := by omega
    exact item300 a b
  · have h : i < 3 := h
    rcases (by omega : i = 0 ∨ i = 1 ∨ i = 2) with rfl | rfl | rfl
    · exact item310 a b
    · exact item311 a b
    · exact item312 a b
  · have h : i < 6 := h
    rcases (by omega : i = 0 ∨ i = 1 ∨ i = 2 ∨ i = 3 ∨ i = 4 ∨ i = 5) with rfl | rfl | rfl | rfl | rfl | rfl
    · exact item320 a b
    · exact item321 a b
    · exact item322 a b
    · exact item323 a b
    · exact item324 a b
    · exact item325 a b
theorem pq_stop {it pool : Addr} {Q : Option Value → Shared → Prop} (hh : A.handled = none) (n r : Nat) (h1 : 1 ≤ n) (h3 : n ≤ 3) (h2 : r ≤ 2) (hit : At s.heap it pool n r (fct n r))
    (hE : ∀ h' e, (∀ b o, b ≠ it → s.heap.get? b = some o → h'.get? b = some o) → (∃ o, h'.get? e = some o ∧ o.cls = .type "StopIteration") → E (.ref e) { s with heap := h' }) : wpAny (model prog w) A (callSpecial? (.ref it) "__next__") Q E s := by
  rcases (by omega : n = 1 ∨ n = 2 ∨ n = 3) with rfl | rfl | rfl
  · rcases (by omega : r = 0 ∨ r = 1 ∨ r = 2) with rfl | rfl | rfl
    · exact stop10 hh hit hE
    · exact stop11 hh hit hE
    · exact stop12 hh hit hE
  · rcases (by omega : r = 0 ∨ r = 1 ∨ r = 2) with rfl | rfl | rfl
    · exact stop20 hh hit hE
    · exact stop21 hh hit hE
    · exact stop22 hh hit hE
  · rcases (by omega : r = 0 ∨ r = 1 ∨ r = 2) with rfl | rfl | rfl
    · exact stop30 hh hit hE
    · exact stop31 hh hit hE
    · exact stop32 hh hit hE
end
end PQ
namespace PQ
open PySem PySem.Spec PyProof.Rows L2 PM
open Sem (wp)
theorem At.keep {h h' : Heap} {it pool : Addr} {n r i : Nat} (a : At h it pool n r i) (k : ∀ b ∈ [it, pool], ∀ o, h.get? b = some o → h'.get? b = some o) : At h' it pool n r i := by
  obtain ⟨l, ts, h1, h2, h3, h4⟩ := a
  exact ⟨l, ts, h1, h2, k _ (by simp) _ h3, k _ (by simp) _ h4⟩
/-- the order, as values -/
def rowV (n r i : Nat) : List V := ((ix n r i).take r).map fun j : Nat => V.int (j : Int)
theorem ix_low : ∀ n r i, ∀ j ∈ ix n r i, j < n := by
  intro n r i
  unfold ix
  split <;> simp
theorem row_vals {n r i : Nat} {ts : List Tok} (hl : ts.length = n) : Vals (rowV n r i) (row n r i ts) := by
  have low : ∀ j ∈ (ix n r i).take r, j < n := fun j hj => ix_low n r i j (List.mem_of_mem_take hj)
  unfold rowV row
  generalize (ix n r i).take r = l at low ⊢
  induction l with
  | nil => exact .nil
  | cons j l ih =>
    refine .cons ?_ (ih fun k hk => low k (List.mem_cons_of_mem _ hk))
    have hj : j < ts.length := by rw [hl]; exact low j (List.mem_cons_self ..)
    refine ⟨ts[j], ?_⟩
    unfold poolV
    simp [Array.getD, hj]
theorem row_len {n r i : Nat} (ts : List Tok) : (row n r i ts).length ≤ r := by
  unfold row
  rw [List.length_map, List.length_take]
  omega
/-- what a for walks over -/
def ItPq (n r : Nat) : It :=
  { go := fun i _ => i < fct n r, yld := fun i H x H' => ∃ a, x = .ref a ∧ H a = none ∧ H' = upd H a (.tup (rowV n r i)), stop := fun i _ => fct n r ≤ i }
theorem turn_pq {P : Program} {w : World} {K : PySem.W.Frag} {tg : Expr} {n r : Nat} (h1 : 1 ≤ n) (h3 : n ≤ 3) (h2 : r ≤ 2) (it pool : Addr) : Turn P w K tg (ItPq n r) [it, pool] it (fun i h => At h it pool n r i ∧ i ≤ fct n r) where
  mem := by simp
  obj := by
    intro i h a b hb
    replace a := a.1
    obtain ⟨l, ts, _, _, e1, e2⟩ := a
    have e : b = it ∨ b = pool := by simpa using hb
    rcases e with rfl | rfl
    · exact ⟨_, e1, fun v z => by cases z⟩
    · exact ⟨_, e2, fun v z => by cases z⟩
  keep := fun i h h' a k => ⟨a.1.keep k, a.2⟩
  item := by
    intro X hP hw hK hc i pins s σ H E I hf st hg
    subst hP hw hK
    replace st := st.1
    unfold pyNext
    refine wpAny_bind (wpAny_attempt (pq_item n r i hg st fun h' ts t ht hl a' k hT => ?_))
    have na : t ≠ it := fun z => by
      obtain ⟨l, ts', _, _, e1, _⟩ := st
      have := Heap.lt_size e1
      rw [← z, ht] at this; exact absurd this (Nat.lt_irrefl _)
    have hm : ∀ b o, b ∉ [it, pool] → s.heap.get? b = some o → h'.get? b = some o := fun b o hb => k b o (fun z => hb (by simp [z]))
    have new : ObjOk X.prog X.w (upd H t (.tup (rowV n r i))) h' t (.tup (rowV n r i)) :=
      ⟨by have := row_len (n := n) (r := r) (i := i) ts; have e := (row_vals (r := r) (i := i) hl).length; rw [e, sizeLine_eq]; omega, row n r i ts, row_vals hl, ⟨_, hT, rfl, _, rfl⟩⟩
    have I1 : Inv X pins σ (upd H t (.tup (rowV n r i))) { s with heap := h', toks := s.toks } := I.turnedNew (ch := [it, pool]) hm hf (Nat.le_of_eq ht.symm) new
    refine wpAny_pure ⟨_, rfl, ?_⟩
    obtain ⟨l, ts', _, _, e1, _⟩ := id a'
    refine go_of (show h'.get? it = some _ from e1) rfl rfl (by decide) ?_
    refine ⟨.ref t, _, I1, rfl, ⟨t, rfl, I.hok.fresh (Nat.le_of_eq ht.symm), rfl⟩, ⟨a', hg⟩, fun b hb => ?_⟩
    have nb : b ≠ t := fun z => by
      obtain ⟨l, ts', _, _, e1, e2⟩ := st
      have e : b = it ∨ b = pool := by simpa using hb
      have lt : b < s.heap.objs.size := by
        rcases e with rfl | rfl
        · exact Heap.lt_size e1
        · exact Heap.lt_size e2
      rw [z, ht] at lt; exact absurd lt (Nat.lt_irrefl _)
    rw [upd_ne nb]; exact (hf b hb).1
  done := by
    intro X hP hw hK hc i pins s σ H E I hf st hg
    subst hP hw hK
    have hg : i = fct n r := Nat.le_antisymm st.2 hg
    replace st := st.1
    subst hg
    unfold pyNext
    refine wpAny_bind (wpAny_attempt (pq_stop (I.ok.hd hc) n r h1 h3 h2 st fun h' e k hx => ?_))
    obtain ⟨f0, f1, f2, f3, f4, f5⟩ := hf it (by simp)
    obtain ⟨o, ho, hcl⟩ := hx
    have hTe : (⟨h', s.gens, s.drawn, s.toks, s.os⟩ : Shared).TypeIs (.ref e) "StopIteration" := ⟨_, ho, hcl⟩
    refine wpAny_bind (wpAny_isInstance (b := true) hTe (by rw [isSubtype_type]; kernel_rfl) ?_)
    exact wpAny_pure ⟨rfl, I.turned (t' := s.toks) k f0 f1 f3 f4 f5⟩
  self := fun A i s Q E st h => pq_iter st.1 h
end PQ
namespace PQ
open PySem PySem.Spec PyProof.Rows L2 PM
open Sem (wp)
theorem bind_pq (v u : Value) : Builtin.Itertools.itBindNamed "permutations" ["iterable", "r"] 1 2 [v, u] [] = (pure [some v, some u] : Sem (List (Option Value))) := by first | kernel_rfl | rfl
theorem typeCall_pq (a b : Value) : checkTypeCall "itertools.permutations" ⟨[a, b], []⟩ = pure () := by kernel_rfl
theorem newCall_pq (a b : Value) : checkBuiltinCall "itertools.permutations.__new__" ⟨[.type "itertools.permutations", a, b], []⟩ = pure () := by kernel_rfl
theorem laid_pq {h : Heap} {n k : Nat} {ts : List Tok} {r : Array Value} (hl : ts.length = n) (hr : r = rec n k 0 h.objs.size .none) :
    At ((h.push { cls := .type "tuple", data := .seq (poolV ts).toArray }).push { cls := .type "itertools.permutations", dict := none, data := .fields r }) (h.push { cls := .type "tuple", data := .seq (poolV ts).toArray }).objs.size h.objs.size n k 0 := by
  refine ⟨.none, ts, hl, ?_, ?_, ?_⟩
  · rw [Heap.size_push]; exact Nat.ne_of_lt (Nat.lt_succ_self _)
  · subst hr
    exact Heap.get?_push_size _ rfl
  · exact Heap.get?_push_of_some _ (Heap.get?_push_size _ rfl)
section
variable {prog : Program} {w : World} {A : Around} {E : Value → Shared → Prop} {R : Result → Shared → Prop} {s : Shared} {r : Addr} {b : Int} {t u v z : Tok} {n k : Nat}
theorem code_pq_new {Q : Value → Shared → Prop} (hh : A.handled = none) (hr : IsRange s.heap r 0 (n : Int) 1 t u v) (h1 : 1 ≤ n) (h3 : n ≤ 3) (h2 : k ≤ 2)
    (h : ∀ (hm h' : Heap) (tk : Nat) (it pool : Addr), (∀ b o, s.heap.get? b = some o → hm.get? b = some o) → (∀ b o, hm.get? b = some o → h'.get? b = some o) → hm.objs.size ≤ it → hm.objs.size ≤ pool → At h' it pool n k 0 → Q (.ref it) { s with heap := h', toks := tk }) :
    wpAny (model prog w) A (Builtin.«itertools.permutations.__new__» ⟨[.type "itertools.permutations", .ref r, .int (k : Int) z], []⟩) (fun fin s' => ∃ v, fin = Fin.done (.ret v) ∧ Q v s') E s := by
  obtain ⟨hp, g, d, tk, os⟩ := s
  have hsub := sub_pm
  have hdic := noDict_pm
  have hTI : (⟨hp, g, d, tk, os⟩ : Shared).TypeIs (.ref r) "range" := ⟨_, hr, rfl⟩
  have hsz : Builtin.Range.rangeSize 0 (n : Int) 1 = (n : Int) := (rangeSize_nat 0 (n : Int)).trans (by omega)
  have hsm : Builtin.Range.small 0 (n : Int) 1 = true := small_one (by omega) (by omega) (by omega) (by omega)
  unfold Builtin.«itertools.permutations.__new__»
  repeat (first
    | (with_reducible refine collect_range hh hr hsm hsz (Nat.le_trans h3 (by decide)) ?_)
    | (with_reducible refine wpAny_of_eq sub_pm ?_)
    | (with_reducible refine wpAny_of_eq (bind_pq (.ref r) (.int (k : Int) z)) ?_)
    | wp_step
    | (rw [str_pm])
    | simp only [List.head?_cons, Option.some_or, List.getElem?_cons_succ, List.getElem?_cons_zero, List.length_cons, List.length_nil, List.forIn_nil]
    | dsimp only)
  intro h' tk' acc hk hi
  obtain ⟨ts, hl, ea⟩ := pool_of hi
  rw [ea]
  have len : (poolV ts).length = n := (poolV_len ts).trans hl
  dsimp only [Option.getD]
  refine wpAny_bind (wpAny_holding ?_)
  refine wpAny_bind (wpAny_of_eq (a := some (k : Int)) rfl ?_)
  dsimp only
  rw [if_neg (by simp; omega)]
  refine wpAny_pure ?_
  rw [len]
  rw [if_neg (by omega)]
  rw [if_neg (show ¬ (Builtin.Itertools.itTooMany (k : Int) = true) by rcases (by omega : k = 0 ∨ k = 1 ∨ k = 2) with rfl | rfl | rfl <;> decide)]
  unfold newTuple
  refine wpAny_bind (wpAny_newObj_type ?_ (by show (poolV ts).toArray.size ≤ sizeLine; rw [List.size_toArray, len, sizeLine_eq]; omega))
  unfold Builtin.Itertools.itNewRecord
  rw [hdic]
  refine wpAny_bind (m := if (!false) = true then _ else _) ?_
  rw [if_pos (by decide)]
  refine wpAny_newObj_type ?_ (by show Array.size _ ≤ _; simp [sizeLine]; omega)
  refine wpAny_pure ⟨_, rfl, h h' _ tk' _ h'.objs.size hk (fun b o e => ?_) ?_ (Nat.le_refl _) (laid_pq hl ?_)⟩
  · exact Heap.get?_push_of_some _ (Heap.get?_push_of_some _ e)
  · show h'.objs.size ≤ (h'.push _).objs.size
    rw [Heap.size_push]; exact Nat.le_succ _
  · rcases (by omega : n = 1 ∨ n = 2 ∨ n = 3) with rfl | rfl | rfl <;> rcases (by omega : k = 0 ∨ k = 1 ∨ k = 2) with rfl | rfl | rfl <;> (unfold rec nums; rfl)
theorem call_pq {Q : Value → Shared → Prop} (hh : A.handled = none) (hr : IsRange s.heap r 0 (n : Int) 1 t u v) (h1 : 1 ≤ n) (h3 : n ≤ 3) (h2 : k ≤ 2)
    (h : ∀ (hm h' : Heap) (tk : Nat) (it pool : Addr), (∀ b o, s.heap.get? b = some o → hm.get? b = some o) → (∀ b o, hm.get? b = some o → h'.get? b = some o) → hm.objs.size ≤ it → hm.objs.size ≤ pool → At h' it pool n k 0 → Q (.ref it) { s with heap := h', toks := tk }) :
    wpAny (model prog w) A (call (.type "itertools.permutations") [.ref r, .int (k : Int) z]) Q E s := by
  refine callType_codes (Q₁ := fun obj s₁ => s₁.TypeIs obj "itertools.permutations" ∧ Q obj s₁) called_pm (typeCall_pq (.ref r) (.int (k : Int) z)) F.entry_object_init ?_ fun obj s₁ h₁ => ?_
  · refine codeAny_of_tree ?_
    show wpAny _ A.in1.in1 (do checkBuiltinCall "itertools.permutations.__new__" ⟨[.type "itertools.permutations", .ref r, .int (k : Int) z], []⟩; again (.builtin "itertools.permutations.__new__" ⟨[.type "itertools.permutations", .ref r, .int (k : Int) z], []⟩)) _ _ s
    refine wpAny_bind (wpAny_of_eq (newCall_pq (.ref r) (.int (k : Int) z)) (wpAny_pure ⟨plainId_quiet plain_pm_new _, codeAny_builtin entry_pm_new ?_⟩))
    rw [Around.under_plainId plain_pm_new _]
    refine wpAny_mono (code_pq_new (A := A.in1.in1) (Q := fun v s' => s'.TypeIs v "itertools.permutations" ∧ Q v s') hh hr h1 h3 h2 fun hm h' tk it pool k1 k2 l1 l2 a => (show (⟨h', s.gens, s.drawn, tk, s.os⟩ : Shared).TypeIs (.ref it) "itertools.permutations" ∧ Q (.ref it) ⟨h', s.gens, s.drawn, tk, s.os⟩ from ⟨?_, h hm h' tk it pool k1 k2 l1 l2 a⟩)) (fun fin s' hf => ?_) fun _ _ z => z
    · obtain ⟨l, ts, _, _, e1, _⟩ := a
      exact ⟨_, e1, rfl⟩
    · obtain ⟨v, rfl, q⟩ := hf
      exact q
  · exact ⟨h₁.1, F.args_object_init_3 obj _ _, object_init_meets called_pm.init.lookup called_pm.made (by decide) prog w A.in1 _ s₁ ⟨h₁.1, rfl, h₁.2⟩⟩
end
end PQ
/-! AB59: permutations(range(n), r) in a comprehension, xs.insert(i, y), list(reversed(xs)) -/
namespace AB
open PySem PySem.Spec PyProof.Rows L2
section
variable {X : Cx} {W : WR} {pos : Pos} {a b e : Expr} {f : EF} {fs : EFs} {pins : List (Addr × Obj)} {σ : L2.St} {H : Hp} {s : Shared}
/-! ### permutations(range(n), r) -/
def perm2A (n r : Nat) : List A := (List.range (PQ.fct n r)).map fun i => .tup (((PQ.ix n r i).take r).map fun j : Nat => A.int (j : Int))
def perm2Of (b : Option (Option A)) (p : Int × Int) (M : Store) : EO Src := match b with
  | some (some (.int k)) => if p.1 = 0 ∧ 1 ≤ p.2 ∧ p.2 ≤ 3 ∧ 0 ≤ k ∧ k ≤ 2 then .ok (.snap (perm2A p.2.toNat k.toNat)) M else .bad
  | _ => .bad
def iPerm2 (i : Nat) (fr : ER) : EI := fun τ M => (fr τ M).bind fun p M1 => perm2Of τ[i]? p M1
theorem rowV2_is {ρ : List Addr} {H : Hp} (n r i : Nat) : IsAll ρ H (((PQ.ix n r i).take r).map fun j : Nat => A.int (j : Int)) (PQ.rowV n r i) := by
  unfold PQ.rowV
  generalize (PQ.ix n r i).take r = l
  induction l with
  | nil => exact .nil
  | cons j l ih => exact .cons (.int _) ih
theorem srcJ_pq {w : Amb} {ρ : List Addr} {H : Hp} {n r : Nat} : SrcJ w ρ H (.snap (perm2A n r)) (PQ.ItPq n r) := by
  intro ρ2 H2 M2 i x g m
  by_cases hi : i < PQ.fct n r
  · have e : (perm2A n r)[i]? = some (.tup (((PQ.ix n r i).take r).map fun j : Nat => A.int (j : Int))) := by unfold perm2A; simp [hi]
    simp only [Src.at, e]
    refine ⟨hi, fun v H3 ⟨a, e1, hn, e2⟩ => ?_⟩
    subst e1 e2
    exact ⟨.new hn, m.new hn, .tup upd_same (rowV2_is n r i)⟩
  · have e : (perm2A n r)[i]? = none := by unfold perm2A; simp; omega
    simp only [Src.at, e]
    exact Nat.le_of_not_lt hi
/-- a name's value, nothing being changed -/
theorem var_at {R : Value → Shared → Prop} {i : Nat} {x : Str} {pos : Pos} (I : L2.Inv X pins σ H s) (hN : X.N[i]? = some x) (hv : Vis X.env.scope x) (h : ∃ v, σ[i]? = some (some v) ∧ ∀ u, RelV v u → R u s) (hd : (x == ("__debug__" : Str)) = false := by decide) (hcd : (x == ("__classdict__" : Str)) = false := by decide) : wpAny (model X.prog X.w) X.A (eval (.Name x pos) X.env) R X.xe s := by
  obtain ⟨v, e, h⟩ := h
  obtain ⟨m, hn, hl⟩ := I.loc
  obtain ⟨u, r, l⟩ := hl i x v hN e hv
  have fin : R u s := h u r
  rcases l with ⟨hk, hm⟩ | ⟨hk, c, hc, hcell⟩
  · exact wpAny_Name (wpAny_loadName_local I.ok.kind hk hn hm fin) hd
  · rcases hk with hk | hk
    · exact wpAny_Name (wpAny_loadName_cell I.ok.kind hk hc hcell fin) hd
    · exact wpAny_Name (wpAny_loadName_free I.ok.kind hk hc hcell fin hcd) hd
theorem ai_perm2 (i : Nat) {tg : Expr} {x y : Str} {p py : Pos} {fr : ER} (hc : X.calm = true) (hm : X.mg x = some (.type "itertools.permutations")) (he : AR X W e fr) (hN : X.N[i]? = some y := by rfl) (hv : Vis X.env.scope y := by first | exact Or.inl rfl | exact Or.inr (Or.inl rfl) | exact Or.inr (Or.inr rfl)) (hyd : (y == ("__debug__" : Str)) = false := by decide) (hycd : (y == ("__classdict__" : Str)) = false := by decide)
    (hg : Gl X x := by rfl) (hd : (x == ("__debug__" : Str)) = false := by decide) (na : starEach [e, .Name y py] X.env = (false, eval e X.env) :: starEach [.Name y py] X.env := by rfl) (na2 : starEach [.Name y py] X.env = (false, eval (.Name y py) X.env) :: starEach [] X.env := by rfl) :
    AI X W tg (.Call (.Name x p) [e, .Name y py] [] pos) (iPerm2 i fr) := ⟨fun pins s σ H R I h => by
  have h1 := seqG relR h
  refine Call_ (ld_glob I hg hm (PyProof.Rows.callWith_type1 (args_cons (thn (he pins s σ H (fun a b H1 => tK (X.gx W.Tb) W relR (relJ (X.am W.Tb)) (fun τ p M1 => perm2Of τ[i]? p M1) σ R (a, b) H1) I h1) fun xv s1 ⟨r, a, b, t, u, v, H1, ex, hr, I1, q⟩ => args_cons ?_ na2) na) na rfl) hd)
  obtain ⟨τ, M, ρ, c, rs, rm, ic, r⟩ := q
  have ic : c = (a, b) := ic
  subst ic ex
  have r2 : RE (X.gx W.Tb) W σ ρ H1 (relJ (X.am W.Tb)) (perm2Of τ[i]? (a, b) M) R := r
  clear r
  unfold perm2Of at r2
  split at r2
  · rename_i k ek
    split at r2
    · rename_i hz
      obtain ⟨hz1, h1, h3, h0, h2⟩ := hz
      have hz1 : a = 0 := hz1
      have h1 : 1 ≤ b := h1
      have h3 : b ≤ 3 := h3
      subst hz1
      obtain ⟨n, rfl⟩ : ∃ n : Nat, b = (n : Int) := ⟨b.toNat, by omega⟩
      obtain ⟨k, rfl⟩ : ∃ j : Nat, k = (j : Int) := ⟨k.toNat, by omega⟩
      obtain ⟨w, ew, iw⟩ := rs.get ek
      cases iw
      refine var_at I1 hN hv ⟨_, ew, fun u2 ru => args_nil ?_⟩ hyd hycd
      obtain ⟨z, rfl⟩ := ru
      refine PQ.call_pq (I1.ok.hd hc) hr (by omega) (by omega) (by omega) fun hm h' tk it pool k1 k2 l1 l2 at0 => ?_
      have I2 : L2.Inv X pins σ H1 { s1 with heap := h', toks := tk } := I1.kept (t' := tk) fun b o e => k2 b o (k1 b o e)
      have Im : L2.Inv X pins σ H1 { s1 with heap := hm, toks := tk } := I1.kept (t' := tk) k1
      refine PQ.pq_iter (s := { s1 with heap := h', toks := tk }) at0 ?_
      refine ⟨it, [it, pool], _, _, H1, rfl, I2, PQ.turn_pq (n := n) (r := k) (by omega) (by omega) (by omega) it pool, ⟨at0, Nat.zero_le _⟩, fun b hb => ?_, RE.okv (a := Src.snap (perm2A n k)) (M := M) (rel := relJ (X.am W.Tb)) r2 (.refl _) (.refl _) rm srcJ_pq⟩
      have e : b = it ∨ b = pool := by simpa using hb
      have hle : hm.objs.size ≤ b := by
        rcases e with rfl | rfl
        · exact l1
        · exact l2
      have f := Im.fpOk (b := b) (H' := H1) hle (Im.hok.fresh hle)
      exact f
    · exact r2.elim
  · exact r2.elim⟩
/-! ### xs.insert(i, y) -/
end
end AB
/-! AB61: tuples whose object is known: tuple(xs), len, index, walks -/
namespace AB
open PySem PySem.Spec PyProof.Rows L2
section
variable {X : Cx} {W : WR} {pos : Pos} {a b e : Expr} {es : List Expr} {f : EF} {fs : EFs}
/-! ### tuple(xs) -/
/-! ### len -/
/-! ### index -/
def isF : A → Bool
  | .ftp _ => true
  | _ => false
/-! ### walks -/
end
end AB
/-! AB62: backward steps for AB61 -/
namespace AB
open PySem PySem.Spec PyProof.Rows L2
section
variable {τ : Sl} {M : Store}
end
end AB
/-! AB63: a tuple so many times, also none -/
namespace AB
open PySem PySem.Spec PyProof.Rows L2
section
variable {X : Cx} {Tb : Tbl}
end
end AB
/-! AB64: range(a, b) that is kept -/
namespace AB
open PySem PySem.Spec PyProof.Rows L2
section
variable {X : Cx} {W : WR}
end
section
variable {X : Cx} {W : WR}
end
end AB
/-! AB65: min(l, key=lambda x: ..) that can be reckoned -/
namespace AB
open PySem PySem.Spec PyProof.Rows L2
section
variable {X : Cx} {W : WR} {e : Expr} {f g : EF}
end
end AB
/-! AB66: x[i], y[j] = a, b for lists; min of a list of tuples of ints; for k, v in d.items(); sorted(d) by tuples -/
namespace AB
open PySem PySem.Spec PyProof.Rows L2
section
variable {X : Cx} {W : WR} {pos : Pos} {a b : Expr} {fs : EFs}
end
/-! ### min of tuples of ints -/
def dT (is : List Int) : PyData := .tuple (is.map PyData.int)
section
variable {X : Cx} {W : WR}
end
/-! ### min(.., key=..) that can be reckoned -/
end AB
/-! AB67: for k, v in d.items(): the dict is locked, and stays so; sorted(d) of a dict by tuples of ints -/
namespace AB
open PySem PySem.Spec PyProof.Rows L2
section
variable {X : Cx} {W : WR} {pos : Pos} {e : Expr} {f : EF}
end
end AB
/-! AB68: what a statement has made is let go: the cells behind the old ones, and the slots that tell of them -/
namespace AB
open PySem PySem.Spec PyProof.Rows L2
mutual
def refsLt (n : Nat) : A → Bool
  | .lst l => decide (l < n)
  | .dct l => decide (l < n)
  | .obj l => decide (l < n)
  | .tup xs => refsLts n xs
  | .ftp xs => refsLts n xs
  | _ => true
def refsLts (n : Nat) : List A → Bool
  | [] => true
  | x :: xs => refsLt n x && refsLts n xs
end
section
variable {ρ ρ1 : List Addr} {H H1 : Hp}
theorem Ext.same (x : Ext ρ ρ1) {i : Nat} {a a1 : Addr} (h : ρ[i]? = some a) (h1 : ρ1[i]? = some a1) : ρ[i]? = some a1 := by
  rw [x.get h] at h1
  cases h1
  exact h
theorem Ext.low (x : Ext ρ ρ1) {i : Nat} {a1 : Addr} (hi : i < ρ.length) (h1 : ρ1[i]? = some a1) : ρ[i]? = some a1 :=
  x.same (List.getElem?_eq_getElem hi) h1
mutual
theorem Is.back (x : Ext ρ ρ1) : ∀ {t : A} {v v1 : V}, Is ρ H t v → Is ρ1 H1 t v1 → Is ρ H1 t v1 := fun {t v v1} a b => by
  cases b with
  | non => exact .non
  | bl k => exact .bl k
  | int k => exact .int k
  | str k => exact .str k
  | tup h1 r1 => cases a with | tup _ r => exact .tup h1 (IsAll.back x r r1)
  | lst h1 => cases a with | lst h => exact .lst (x.same h h1)
  | dct h1 => cases a with | dct h => exact .dct (x.same h h1)
  | ty k => exact .ty k
  | obj h1 => cases a with | obj h => exact .obj (x.same h h1)
  | rng h1 => exact .rng h1
  | ftp h1 c1 d1 r1 => cases a with | ftp _ _ _ r => exact .ftp h1 c1 d1 (IsAll.back x r r1)
theorem IsAll.back (x : Ext ρ ρ1) : ∀ {ts : List A} {vs vs1 : List V}, IsAll ρ H ts vs → IsAll ρ1 H1 ts vs1 → IsAll ρ H1 ts vs1 := fun {ts vs vs1} a b => by
  cases b with
  | nil => exact .nil
  | cons r1 rs1 => cases a with | cons r rs => exact .cons (Is.back x r r1) (IsAll.back x rs rs1)
end
mutual
theorem Is.low (x : Ext ρ ρ1) : ∀ {t : A} {v : V}, refsLt ρ.length t = true → Is ρ1 H t v → Is ρ H t v
  | _, _, _, .non => .non
  | _, _, _, .bl b => .bl b
  | _, _, _, .int i => .int i
  | _, _, _, .str s => .str s
  | _, _, e, .tup h r => .tup h (IsAll.low x (by rw [refsLt] at e; exact e) r)
  | _, _, e, .lst h => .lst (x.low (by rw [refsLt] at e; exact of_decide_eq_true e) h)
  | _, _, e, .dct h => .dct (x.low (by rw [refsLt] at e; exact of_decide_eq_true e) h)
  | _, _, _, .ty n => .ty n
  | _, _, e, .obj h => .obj (x.low (by rw [refsLt] at e; exact of_decide_eq_true e) h)
  | _, _, _, .rng h => .rng h
  | _, _, e, .ftp h c d r => .ftp h c d (IsAll.low x (by rw [refsLt] at e; exact e) r)
theorem IsAll.low (x : Ext ρ ρ1) : ∀ {ts : List A} {vs : List V}, refsLts ρ.length ts = true → IsAll ρ1 H ts vs → IsAll ρ H ts vs
  | _, _, _, .nil => .nil
  | _, _, e, .cons r rs => by
    rw [refsLts, Bool.and_eq_true] at e
    exact .cons (Is.low x e.1 r) (IsAll.low x e.2 rs)
end
theorem RC.back {w : Amb} {a : Addr} (x : Ext ρ ρ1) : ∀ {c : Cell}, RC w ρ H a c → RC w ρ1 H1 a c → RC w ρ H1 a c
  | .lst _, ⟨_, _, i⟩, ⟨vs, e, i1⟩ => ⟨vs, e, i.back x i1⟩
  | .frz _, ⟨_, _, i⟩, ⟨vs, e, i1⟩ => ⟨vs, e, i.back x i1⟩
  | .dK _, ⟨_, _, i⟩, ⟨vs, e, i1⟩ => ⟨vs, e, i.back x i1⟩
  | .dT _, ⟨_, _, i⟩, ⟨vs, e, i1⟩ => ⟨vs, e, i.back x i1⟩
  | .dN _, ⟨_, _, _, i, j, _⟩, ⟨bs, vs, e, i1, j1, d⟩ => ⟨bs, vs, e, i.back x i1, j.back x j1, d⟩
  | .st _, _, ⟨S, e, h⟩ => ⟨S, e, h⟩
  | .obj, _, _ => trivial
  | .xd _, ⟨_, _, i⟩, ⟨vs, e, i1⟩ => ⟨vs, e, i.back x i1⟩
  | .fk _, ⟨_, _, _, i⟩, ⟨od, vs, e, i1⟩ => ⟨od, vs, e, i.back x i1⟩
  | .fT _, ⟨_, _, _, i⟩, ⟨od, vs, e, i1⟩ => ⟨od, vs, e, i.back x i1⟩
  | .ins _ _, ⟨_, _, _, _, _, _, i⟩, ⟨Ca, dx, vs, h0, e, e2, i1⟩ => ⟨Ca, dx, vs, h0, e, e2, i.back x i1⟩
theorem RM.back {w : Amb} {M M1 : Store} (x : Ext ρ ρ1) (m : RM w ρ H M) (m1 : RM w ρ1 H1 M1) (e : M1.take M.length = M) : RM w ρ H1 M := by
  have up : ∀ {i : Nat} {c : Cell}, M[i]? = some c → M1[i]? = some c := fun {i c} h => by
    have hi := (List.getElem?_eq_some_iff.mp h).1
    rw [← e, List.getElem?_take_of_lt hi] at h
    exact h
  refine ⟨m.len, fun i j a c d h1 h2 h3 h4 h5 h6 => m1.nd i j a c d (x.get h1) (x.get h2) (up h3) (up h4) h5 h6, fun i a c h1 h2 => (m.at_ i a c h1 h2).back x (m1.at_ i a c (x.get h1) (up h2)), m1.tabs, fun i j a c xs h1 h2 h3 h4 h5 => ?_, fun i j a c d h1 h2 h3 h4 h5 h6 => m1.fu i j a c d (x.get h1) (x.get h2) (up h3) (up h4) h5 h6⟩
  obtain ⟨_, _, i0⟩ := m.fz i j a c xs h1 h2 h3 h4 h5
  obtain ⟨vs, f1, i1⟩ := m1.fz i j a c xs (x.get h1) (x.get h2) (up h3) (up h4) h5
  exact ⟨vs, f1, i0.back x i1⟩
end
section
variable {X : Cx} {W : WR}
end
end AB
/-! AB69: a lambda with one default, a number, handed to a def and called there with nothing -/
namespace AB
open PySem PySem.Spec PyProof.Rows L2
section
variable {X : Cx} {pins : List (Addr × Obj)} {σ : L2.St} {H HZ : Hp} {s s1 : Shared}
theorem stack_lt (I : Inv X pins σ H s) : ∀ {b : Addr}, b ∈ frs X.stack → b < s.heap.objs.size := fun {b} hb => by
  obtain ⟨_, o, ho, _⟩ := Heap.FunFrames.mem I.stack hb
  exact Heap.lt_size ho
theorem lam_makeD {T : List (Addr × Str)} {c P : Addr} {params : Arguments} {body : Expr} {scope : Scope} {pos dpos : Pos} {dj : Nat} {dn : Int} {E Q : Value → Shared → Prop} (I : Inv X pins σ H s) (hB : LamX.TabB X.base X.mg c P) (hcode : X.env.code = .ref c)
    (hmem : (P, X.env.qual ++ "<lambda>") ∈ T) (hun : ∀ p ∈ T, p.1 = P → p.2 = X.env.qual ++ "<lambda>") (hT : LamX.Tabs T H) (hdef : params.defaults = [.Constant (.int dn) dj dpos]) (hkw : params.kw_defaults = [])
    (has : ∀ y ∈ scope.names, y.2 = .free → ∃ c, X.env.cells.lookup y.1 = some c)
    (h : ∀ (f c' Td : Addr) (t : Tok) (doc pm ctv : Value) (H1 : Hp) (s' : Shared), Inv X pins σ H1 s' → LamX.ExtN H H1 → LamX.Tabs T H1 →
      s'.heap.get? f = some (PySem.W.kdv_obj "<lambda>" (X.env.qual ++ "<lambda>") params (.expr body) scope (cloFrom X.env.cells scope.names []) (.ref Td) doc pm c' ctv) → H1 f = none → f ∉ frs X.stack → H1 c' = some (LamX.CodeO c' (X.env.qual ++ "<lambda>")) →
      s'.heap.get? Td = some (PySem.W.kdv_tup [.int dn t]) → H1 Td = none → Td ∉ frs X.stack → Q (.ref f) s') :
    wpAny (model X.prog X.w) X.A (eval (.Lambda params body scope pos) X.env) Q E s := by
  refine PySem.W.kdv_lam (by rw [hdef]; rfl) hkw ?_
  rw [hdef]
  refine PySem.W.kdv_all1 ?_
  refine wpAny_Constant_int (wpAny_evalAll_nil ?_)
  rw [makeFunction_eq]
  have hk0 : ∀ l : List Arg, (l.zip ([] : List (Option Value))).filterMap (fun x => match x with | (a, d) => d.map fun v => (a.arg, v)) = [] := fun l => by rw [List.zip_nil_right]; rfl
  dsimp only
  rw [if_neg (by simp)]
  refine wpAny_bind (wpAny_newTextTuple ?_)
  rw [if_pos (by simp)]
  refine wpAny_bind (wpAny_pure ?_)
  rw [if_pos (by rfl)]
  refine wpAny_bind (wpAny_pure ?_)
  obtain ⟨ps, hP, htok, hhit⟩ := hT _ hmem
  let s2 : Shared := { s with heap := s.heap.push { cls := .type "tuple", data := .seq [Value.int dn s.toks].toArray }, toks := s.toks + 1 }
  have kp2 : ∀ b o, s.heap.get? b = some o → s2.heap.get? b = some o := fun b o e => Heap.get?_push_of_some _ e
  have I2 : Inv X pins σ H s2 := I.kept (t' := s.toks + 1) kp2
  have tT : s2.heap.get? s.heap.objs.size = some (PySem.W.kdv_tup [.int dn s.toks]) := Heap.get?_push_size _ rfl
  have bs : ∀ b o, X.base.get? b = some o → s2.heap.get? b = some o := fun b o e => (I2.env0.bs b o e).1
  have ns : s2.heap.Ns mainGlobals X.mg := by
    obtain ⟨o, es, ep, h1, h2⟩ := I2.ok.mod.glob
    exact ⟨o, es, ep, bs _ _ h1, h2⟩
  have bat : s2.heap.BuiltinsAt X.mg P := by
    obtain ⟨bm, o, h1, h2, h3, h4, h5, h6⟩ := hB.bm
    exact ⟨bm, o, h1, h2, h3, h4, bs _ _ h5, h6⟩
  have hP2 : s2.heap.get? P = some (PySem.W.tabObj ps) := I2.hok _ _ hP
  have Tn : H s.heap.objs.size = none := I.hok.fresh (Nat.le_refl _)
  have Ts : s.heap.objs.size ∉ frs X.stack := fun z => Nat.lt_irrefl _ (stack_lt I z)
  have hS2 : s2.heap.objs.size = s.heap.objs.size + 1 := size_push' ..
  have TP : s.heap.objs.size ≠ P := fun z => by rw [z, hP] at Tn; cases Tn
  show wpAny _ _ _ _ _ s2
  cases ha : codeAmong pos ps.toList with
  | none =>
    refine PySem.W.kdv_makeTail (closure_ok has) I.ok.glob ns hcode (hB.code.keeps bs) hP2 htok ha hB.gP bat fun c' ctv doc h' tk ext le lt rec htab => ?_
    have rec' : ∃ oc vs t, h'.get? c' = some oc ∧ oc.data = .fields vs ∧ vs[1]? = some (.str (X.env.qual ++ "<lambda>") t) := by
      obtain ⟨c1, oc, vs, t, e1, e2, e3, e4⟩ := rec
      cases e1
      exact ⟨oc, vs, t, e2, e3, e4⟩
    have J := LamX.inv_table (t' := tk) (more := #[rawInt ↑pos.line, rawInt ↑pos.col, Value.ref c']) I2 hP (fun b o hb e => ext b o hb e) htab le rec'
    have J2 : Inv X pins σ (upd (upd H P (.tbl (ps ++ #[rawInt ↑pos.line, rawInt ↑pos.col, Value.ref c']))) c' (LamX.CodeO c' (X.env.qual ++ "<lambda>"))) { s2 with heap := h'.push (PySem.W.kdv_obj "<lambda>" (X.env.qual ++ "<lambda>") params (.expr body) scope (cloFrom X.env.cells scope.names []) (.ref s.heap.objs.size) doc ((X.mg "__name__").getD .none) c' ctv), toks := tk } := J.kept (t' := tk) fun b o e => Heap.get?_push_of_some _ e
    have cn : H c' = none := I2.hok.fresh le
    have cP : c' ≠ P := fun z => by rw [z, hP] at cn; cases cn
    have fn : (upd (upd H P (.tbl (ps ++ #[rawInt ↑pos.line, rawInt ↑pos.col, Value.ref c']))) c' (LamX.CodeO c' (X.env.qual ++ "<lambda>"))) h'.objs.size = none := J.hok.fresh (Nat.le_refl _)
    have T1 : LamX.Tabs T (upd (upd H P (.tbl (ps ++ #[rawInt ↑pos.line, rawInt ↑pos.col, Value.ref c']))) c' (LamX.CodeO c' (X.env.qual ++ "<lambda>"))) := by
      intro p hp
      by_cases e : p.1 = P
      · rw [e, hun p hp e]
        refine ⟨_, by rw [upd_ne (Ne.symm cP), upd_same], ?_, fun pos2 cv hcv => ?_⟩
        · simpa using TriplesOk_snoc pos.line pos.col (.ref c') _ htok
        · have hcv : codeAmong pos2 (ps.toList ++ [rawInt ↑pos.line, rawInt ↑pos.col, Value.ref c']) = some cv := by simpa using hcv
          rcases LamX.among_app _ htok hcv with z | z
          · obtain ⟨c2, e2, e3⟩ := hhit pos2 cv z
            refine ⟨c2, e2, ?_⟩
            have n1 : c2 ≠ c' := fun z => by rw [z, cn] at e3; cases e3
            have n2 : c2 ≠ P := fun z => by rw [z, hP] at e3; exact LamX.codeO_ne _ (Option.some.inj e3).symm
            rw [upd_ne n1, upd_ne n2]
            exact e3
          · exact ⟨c', z, upd_same⟩
      · obtain ⟨ps2, h1, h2, h3⟩ := hT p hp
        have n0 : p.1 ≠ c' := fun z => by rw [z, cn] at h1; cases h1
        refine ⟨ps2, by rw [upd_ne n0, upd_ne e]; exact h1, h2, fun pos2 cv hcv => ?_⟩
        obtain ⟨c2, e2, e3⟩ := h3 pos2 cv hcv
        have n1 : c2 ≠ c' := fun z => by rw [z, cn] at e3; cases e3
        have n2 : c2 ≠ P := fun z => by rw [z, hP] at e3; exact LamX.codeO_ne _ (Option.some.inj e3).symm
        exact ⟨c2, e2, by rw [upd_ne n1, upd_ne n2]; exact e3⟩
    have eN : LamX.ExtN H (upd (upd H P (.tbl (ps ++ #[rawInt ↑pos.line, rawInt ↑pos.col, Value.ref c']))) c' (LamX.CodeO c' (X.env.qual ++ "<lambda>"))) := by
      intro b o e hno
      have n1 : b ≠ c' := fun z => by rw [z, cn] at e; cases e
      have n2 : b ≠ P := fun z => by rw [z, hP] at e; exact hno _ (Option.some.inj e).symm
      rw [upd_ne n1, upd_ne n2]
      exact e
    have hTd : h'.get? s.heap.objs.size = some (PySem.W.kdv_tup [.int dn s.toks]) := ext _ _ TP tT
    have Tc : s.heap.objs.size ≠ c' := by omega
    refine h _ c' s.heap.objs.size s.toks doc _ ctv _ _ J2 eN T1 (Heap.get?_push_size _ rfl) fn (fun z => Nat.lt_irrefl _ (stack_lt J z)) upd_same (Heap.get?_push_of_some _ hTd) (by rw [upd_ne Tc, upd_ne TP]; exact Tn) Ts
  | some cv =>
    obtain ⟨c', e1, e2⟩ := hhit pos cv ha
    subst e1
    refine PySem.W.kdv_makeTailHit (closure_ok has) I.ok.glob ns hcode (hB.code.keeps bs) hP2 htok ha bat fun ctv doc h' tk kp le => ?_
    have J : Inv X pins σ H { s2 with heap := h', toks := tk } := I2.kept (t' := tk) kp
    have J2 : Inv X pins σ H { s2 with heap := h'.push (PySem.W.kdv_obj "<lambda>" (X.env.qual ++ "<lambda>") params (.expr body) scope (cloFrom X.env.cells scope.names []) (.ref s.heap.objs.size) doc ((X.mg "__name__").getD .none) c' ctv), toks := tk } := J.kept (t' := tk) fun b o e => Heap.get?_push_of_some _ e
    exact h _ c' s.heap.objs.size s.toks doc _ ctv _ _ J2 (fun _ _ e _ => e) hT (Heap.get?_push_size _ rfl) (J.hok.fresh (Nat.le_refl _)) (fun z => Nat.lt_irrefl _ (stack_lt J z)) e2 (Heap.get?_push_of_some _ (kp _ _ tT)) Tn Ts
/-- the lambda's object, and its default, as they stand -/
def LamAtD (X : Cx) (s : Shared) (H : Hp) (params : Arguments) (body : Expr) (scope : Scope) (dn : Int) (f c' Td : Addr) (t : Tok) (doc pm ctv : Value) : Prop :=
  s.heap.get? f = some (PySem.W.kdv_obj "<lambda>" (X.env.qual ++ "<lambda>") params (.expr body) scope (cloFrom X.env.cells scope.names []) (.ref Td) doc pm c' ctv) ∧ H f = none ∧ f ∉ frs X.stack ∧ H c' = some (LamX.CodeO c' (X.env.qual ++ "<lambda>")) ∧ s.heap.get? Td = some (PySem.W.kdv_tup [.int dn t]) ∧ H Td = none ∧ Td ∉ frs X.stack
theorem act_okD {Eg : XK} {Ng : List Str} {qg : Str} {sg : Scope} {g f c' Td : Addr} {cdg doc pm ctv : Value} {params : Arguments} {body : Expr} {scope : Scope} {k l : Nat} {x0 : Str} {dn : Int} {td : Tok} {Tb : Tbl} {r ρm : List Addr} {τ : Sl} {flam : EF}
    (I : Inv X pins σ H s) (L : LamP X.env.scope scope [x0]) (hla : LamAtD X s H params body scope dn f c' Td td doc pm ctv) (hdis : ∀ x ∈ [x0], x ∉ X.N) (hx : Ext ρm r) (hl : r[l]? = some f) (hs : RS0 ρm H τ σ)
    (hbind : ∀ v : Value, ∃ k : Option (Array Value) → Sem (List (Str × Value)), bindArgs (PySem.W.kdv_fn "<lambda>" (X.env.qual ++ "<lambda>") params (.expr body) scope (cloFrom X.env.cells scope.names []) (.ref Td) doc pm (.ref c') ctv) ⟨[], []⟩ = seqItems? (.ref Td) >>= k ∧ k (some #[v]) = pure [(x0, v)])
    (hr : Room (k + 1) (X.A.deeper (envOfC qg sg s.heap.objs.size g cdg)))
    (hbody : ∀ (A : Around) (outer : List Env) (s : Shared) (H : Hp) (E : XK), Room k (A.deeper (LamX.lamEnv X scope s.heap.objs.size f c')) → AE (lamCxP X A outer s H E scope f c' [x0]) (wE E Tb) body flam) :
    ActOk (cxOf (L2.CX X.prog X.w) X.prog X.w X.K X.mg X.base Ng qg sg g cdg X.A X.stack s H Eg) Tb r H l 0 (lamA (τ ++ [some (.int dn)]) flam) := by
  intro W pn xe a i p1 p2 es fs hT hWr hWh tk ha hN hv hd hcd hsh
  refine ⟨fun pinsZ sZ σZ HZ Q IZ h => ?_⟩
  obtain ⟨hf, hfn, hfr, hco, hTd, hTn, hTr⟩ := hla
  obtain ⟨τZ, M, ρ, rs, rm, rr⟩ := h
  unfold eAct at rr
  split at rr
  · rename_i j ej
    split at rr
    · rename_i ejl
      subst ejl
      obtain ⟨v0, hv0, iv⟩ := rs.get ej
      have ef : v0 = .ref f := by
        cases iv with
        | obj hj =>
          have q := rs.ext
          rw [hWr] at q
          have := q.get hl
          rw [hj] at this
          cases this
          rfl
      subst ef
      refine wpAny_Call_Name_kw (thn ((pe_var (X := (cxOf (L2.CX X.prog X.w) X.prog X.w X.K X.mg X.base Ng qg sg g cdg X.A X.stack s H Eg).tr pn xe) (pos := p1) (i := i) hN hv hd hcd).run pinsZ sZ σZ HZ (fun v H1 => v = .ref f ∧ H1 = HZ) IZ ⟨.ref f, hv0, rfl, rfl⟩) fun u s1 ⟨v, H1, I1, r1, q1⟩ => ?_)
      obtain ⟨ev, eH⟩ := q1
      subst ev
      rw [eH] at I1
      obtain rfl : u = Value.ref f := r1
      have ofn : ∀ {s1 : Shared} {H1 : Hp}, Inv ((cxOf (L2.CX X.prog X.w) X.prog X.w X.K X.mg X.base Ng qg sg g cdg X.A X.stack s H Eg).tr pn xe) pinsZ σZ H1 s1 → s1.heap.get? f = some (PySem.W.kdv_obj "<lambda>" (X.env.qual ++ "<lambda>") params (.expr body) scope (cloFrom X.env.cells scope.names []) (.ref Td) doc pm c' ctv) :=
        fun I1 => I1.base.keep f _ hf hfn hfr (fun z => nomatch (show f ∈ ([] : List Addr) from z))
      have oft : ∀ {s1 : Shared} {H1 : Hp}, Inv ((cxOf (L2.CX X.prog X.w) X.prog X.w X.K X.mg X.base Ng qg sg g cdg X.A X.stack s H Eg).tr pn xe) pinsZ σZ H1 s1 → s1.heap.get? Td = some (PySem.W.kdv_tup [.int dn td]) :=
        fun I1 => I1.base.keep Td _ hTd hTn hTr (fun z => nomatch (show Td ∈ ([] : List Addr) from z))
      -- the call itself
      have fin : ∀ (s2 : Shared) (H2 : Hp) (M2 : Store) (ρ2 : List Addr), Inv ((cxOf (L2.CX X.prog X.w) X.prog X.w X.K X.mg X.base Ng qg sg g cdg X.A X.stack s H Eg).tr pn xe) pinsZ σZ H2 s2 →
          RS W ρ2 H2 τZ σZ → RM (X.am W.Tb) ρ2 H2 M2 → RE (X.gx W.Tb) W σZ ρ2 H2 Is (flam (τ ++ [some (.int dn)]) M2) Q →
          wpAny (model X.prog X.w) (X.A.deeper (envOfC qg sg s.heap.objs.size g cdg)) (call (.ref f) []) (EP ((cxOf (L2.CX X.prog X.w) X.prog X.w X.K X.mg X.base Ng qg sg g cdg X.A X.stack s H Eg).tr pn xe) pinsZ σZ Q) xe s2 := by
        intro s2 H2 M2 ρ2 I2 rs2 rm2 rr2
        have of2 := ofn I2
        have un : Un (frs X.stack) [] H H2 s.heap s2.heap := I2.base
        have hg := rs2.grow
        rw [hWh] at hg
        have hx2 := rs2.ext
        rw [hWr] at hx2
        have hc2 : H2 c' = some (LamX.CodeO c' (X.env.qual ++ "<lambda>")) := hg _ _ (.code _ _) hco
        obtain ⟨⟨oc, ws, t, hoc, hdc, hvc⟩, _, _⟩ := I2.hok c' _ hc2
        obtain ⟨kk, hk1, hk2⟩ := hbind (.int dn td)
        have rc : codeAny (model X.prog X.w) (X.A.deeper (envOfC qg sg s.heap.objs.size g cdg)) (.call (.ref f) ⟨[], []⟩) (CR (L2.CX X.prog X.w) (envOfC qg sg s.heap.objs.size g cdg :: X.stack) X.prog X.w H2 s2 Q (fun cls d H' => W cls d σZ H')) s2 := by
          refine PySem.W.kla_callFunE hr.depth of2 rfl L.co L.gen rfl ⟨c', oc, ws, t, rfl, hoc, hdc, hvc⟩ ?_
          refine PySem.W.kdv_binds (s := s2) (L := Td + 1) (T₀ := Td) (h₀ := { objs := #[] }) (news := [(Td, PySem.W.kdv_tup [.int dn td])]) (dv := [.int dn td]) (binds := [(x0, .int dn td)]) (k := kk) (fun p hp => ?_) (List.mem_singleton.mpr rfl) rfl hk1 hk2 _ _ _ _ ?_
          · rw [List.mem_singleton.mp hp]
            refine ⟨oft I2, Nat.ne_of_lt (Nat.lt_succ_self _), ?_⟩
            simp [Heap.get?]
          refine wpAny_newFunctionEnv (fun y hy => L.cell y hy) (fun y hy => L.par _ (by rw [List.mem_singleton.mp hy]; exact List.mem_singleton.mpr rfl)) (fun h₁ hns hsb => ⟨I2.nolimit.fresh _ hsb, ?_⟩) L.kind
          show codeAny _ _ (.expr body (LamX.lamEnv X scope s2.heap.objs.size f c')) _ _
          have kp : ∀ b o, s2.heap.get? b = some o → h₁.get? b = some o := fun b o e => hsb.extBut b o (Nat.ne_of_lt (Heap.lt_size e)) (Heap.get?_push_of_some _ e)
          have J : Inv (lamCxP X (X.A.deeper (envOfC qg sg s.heap.objs.size g cdg)) (envOfC qg sg s.heap.objs.size g cdg :: X.stack) s2 H2 (fun cls d H' => W cls d σZ H') scope f c' [x0]) [] (σ ++ ([V.int dn] : List V).map some) H2 { s2 with heap := h₁, toks := s2.toks + 1 } :=
            lam_startP (us := [.int dn td]) (vs := [.int dn]) I L I2.env0 hr.hd un hdis rfl (.cons ⟨_, rfl⟩ .nil) hns kp
          refine PySem.W.kla_codeExpr (wpAny_mono ((hbody _ _ s2 H2 (fun cls d H' => W cls d σZ H') (hr.deeper _)).run [] _ _ H2 Q J ?_) (fun v s' hq => ?_) fun e s' hq => hq)
          · refine ⟨τ ++ [some (.int dn)], M2, ρ2, RS.base (RS0.app (hs.mono (hx.trans hx2) hg) (as := [.int dn]) (.cons (.int dn) .nil)), by rw [← hT]; exact rm2, ?_⟩
            subst hT
            exact RE.conv (fun _ _ _ h => h) rr2
          · obtain ⟨w', H', J', rv, q⟩ := hq
            exact ⟨w', H', J'.os, J'.bare, J'.base, J'.hok, rv, q⟩
        refine wpAny_call (codeAny_mono rc fun r' s' hq => ?_)
        cases r' with
        | error e => exact tk e s' (XE.of_call I2 (fun _ _ _ h => h) hq)
        | ok fl =>
          cases fl with
          | ret u => exact I2.after hq
          | next => exact False.elim hq
          | brk => exact False.elim hq
          | cont => exact False.elim hq
      rcases hsh with ⟨e1, e2⟩ | ⟨e, es', e1, e2, e3⟩
      · subst e1 e2
        refine PySem.W.callWith_F0 ⟨_, _, _, _, ofn I1⟩ ?_
        refine fin s1 HZ M ρ I1 rs rm ?_
        have rr : RE (X.gx W.Tb) W σZ ρ HZ Is (lamA (τ ++ [some (.int dn)]) flam [] M) Q := rr
        unfold lamA at rr
        simpa using rr
      · subst e1
        have hta : tG (X.gx W.Tb) W IsAll fs σZ HZ (fun vs H2 => ∃ as M2 ρ2, RS W ρ2 H2 τZ σZ ∧ RM (X.am W.Tb) ρ2 H2 M2 ∧ IsAll ρ2 H2 as vs ∧ RE (X.gx W.Tb) W σZ ρ2 H2 Is (if as.length = 0 then lamA (τ ++ [some (.int dn)]) flam as M2 else .bad) Q) := by
          refine ⟨τZ, M, ρ, rs, rm, ?_⟩
          cases ef : fs τZ M with
          | ok as M2 =>
            rw [ef] at rr
            exact fun vs H2 ρ2 x2 g2 m2 i2 => ⟨as, M2, ρ2, rs.mono x2 g2, m2, i2, RE.mono rr x2 g2⟩
          | ex en M2 => rw [ef] at rr; exact rr
          | bad => rw [ef] at rr; exact rr
        refine PySem.W.callWith_F ⟨_, _, _, _, ofn I1⟩ (thn (ha.run p2 pinsZ s1 σZ HZ _ I1 hta) fun us s2 ⟨vs, H2, I2, rv, as, M2, ρ2, rs2, rm2, ia, rr2⟩ => ⟨⟨_, _, _, _, ofn I2⟩, ?_⟩) e2 e3
        split at rr2
        · rename_i hn
          have : as = [] := List.eq_nil_of_length_eq_zero hn
          subst this
          cases ia
          cases rv
          refine fin s2 H2 M2 ρ2 I2 rs2 rm2 ?_
          unfold lamA at rr2
          simpa using rr2
        · exact rr2.elim
    · exact rr.elim
  · exact rr.elim
end
/-- x(lambda a=d: body) -/
def eLamD (len : Nat) (d : Int) (S : Nat → On' → SF) (flam : EF) : EF := fun τ M => defA len (S M.length (lamA (τ ++ [some (.int d)]) flam)) [.obj M.length] (M ++ [.obj])
theorem ae_lamD {X : Cx} {W : WR} {x : Str} {kG kl k len : Nat} {S : Nat → On' → SF} {params : Arguments} {body : Expr} {scope : Scope} {x0 : Str} {p pos lpos dpos : Pos} {dj : Nat} {dn : Int} {flam : EF} {c P : Addr}
    (G : FnL X.prog X.w X.K X.mg W.Tb X.base x kG 1 0 len S) (hr : Room k X.A) (tk : Takes X W.w) (LI : LamI X W.Tb c P) (L : LamP X.env.scope scope [x0])
    (hbody : ∀ (A : Around) (outer : List Env) (s s' : Shared) (H : Hp) (E : XK) (f c' : Addr), Room kl (A.deeper (LamX.lamEnv X scope s'.heap.objs.size f c')) → AE (lamCxP X A outer s' H E scope f c' [x0]) (wE E W.Tb) body flam)
    (hdis : ∀ x ∈ [x0], x ∉ X.N) (hk1 : kG + 1 ≤ k := by omega) (hk2 : kl + 1 ≤ kG := by omega)
    (hbind : ∀ (qq : Str) (cl : List (Str × Addr)) (Td : Addr) (doc pm cv ctv v : Value), ∃ k : Option (Array Value) → Sem (List (Str × Value)), bindArgs (PySem.W.kdv_fn "<lambda>" qq params (.expr body) scope cl (.ref Td) doc pm cv ctv) ⟨[], []⟩ = seqItems? (.ref Td) >>= k ∧ k (some #[v]) = pure [(x0, v)])
    (hdef : params.defaults = [.Constant (.int dn) dj dpos] := by rfl) (hkw : params.kw_defaults = [] := by rfl)
    (hg : Gl X x := by rfl) (hdb : (x == ("__debug__" : Str)) = false := by decide) :
    AE X W (.Call (.Name x p) [.Lambda params body scope lpos] [] pos) (eLamD len dn S flam) := by
  obtain ⟨fa, fd, st, N, qs, F, Sc, hmg, hlen, hn, hb, hS⟩ := G.ex
  refine ⟨fun pins s σ H Q I h => ?_⟩
  refine wpAny_Call_Name_kw (ld_glob I hg hmg ?_ hdb)
  obtain ⟨τ, M, ρ, rs, rm, r⟩ := h
  have r : RE (X.gx W.Tb) W σ ρ H Is (defA len (S M.length (lamA (τ ++ [some (.int dn)]) flam)) [.obj M.length] (M ++ [.obj])) Q := r
  refine PySem.W.callWith_K (h₀ := X.base) I.ok.mod.kin F.kp ?_ (by rfl) (by rfl)
  show wpAny _ _ (spliced ((false, eval (.Lambda params body scope lpos) X.env) :: backTo pos (starEach [] X.env))) _ _ s
  refine Calls.spliced_cons (lam_makeD I LI.tb LI.code LI.mem LI.un rm.tabs hdef hkw (L.has I.ok) fun f c' Td t doc pm ctv H2 s1 I2 eN T2 hf hfn hfr hco hTd hTn hTr => Calls.spliced_nil ⟨I2.kIn, ?_⟩)
  have la : LamAtD X s1 H2 params body scope dn f c' Td t doc pm ctv := ⟨hf, hfn, hfr, hco, hTd, hTn, hTr⟩
  have g12 : Grow H H2 := .ofT eN
  have rm2 : RM (X.am W.Tb) (ρ ++ [f]) H2 (M ++ [.obj]) := (rm.growT eN T2).name f
  have i2 : IsAll (ρ ++ [f]) H2 [.obj M.length] [.ref f] := .cons (.obj (by rw [← rm.len]; simp)) .nil
  have rv2 : Vals [V.ref f] [Value.ref f] := .cons rfl .nil
  have hvl : [V.ref f].length = qs.length := by rw [hn]; rfl
  obtain ⟨oc, od, kV, doc2, pm2, an, cdv, ct, osl, rfl, lk, hcd⟩ := F.ex
  have rc : codeAny (model X.prog X.w) X.A (.call (.ref fa) ⟨[.ref f], []⟩) (CR (L2.CX X.prog X.w) X.stack X.prog X.w H2 s1 Q (fun cls d H' => W cls d σ H')) s1 := by
    have bt := hb s1 [.ref f] I2.kIn (by rw [List.append_nil, ← rv2.length]; exact hvl)
    rw [List.append_nil] at bt
    refine LamX.run_ofS (k := kG) lk hcd Sc (hr.mono hk1) I2.env0 bt rv2 hvl fun hr' => ?_
    have act := act_okD (Eg := fun cls d H' => W cls d σ H') (Ng := N) (qg := x) (sg := defScope st) (g := fa) (cdg := cdv) (l := M.length) (r := ρ ++ [f]) (Tb := W.Tb) I2 L la hdis (.snoc ρ f) (by rw [← rm.len]; simp) (rs.mono (.refl _) g12).s (fun v => hbind _ _ _ _ _ _ _ v) (hr'.mono hk2) fun A outer s' H' E' hr2 => hbody A outer s1 s' H' E' f c' hr2
    have act : ActOk (cxOf (L2.CX X.prog X.w) X.prog X.w X.K X.mg X.base N x (defScope st) fa cdv X.A X.stack s1 H2 (fun cls d H' => W cls d σ H')) W.Tb (ρ ++ [f]) H2 M.length 0 (lamA (τ ++ [some (.int dn)]) flam) := act
    refine ⟨_, hS cdv X.A X.stack s1 H2 _ M.length (ρ ++ [f]) (lamA (τ ++ [some (.int dn)]) flam) hr' act, startA N.length [A.obj M.length], M ++ [Cell.obj], ρ ++ [f], ⟨.refl _, .refl _, start_ok i2 N⟩, rm2, ?_⟩
    have r2 := RE.mono r (.snoc ρ f) g12
    unfold defA at r2
    rw [hlen]
    cases eS : S M.length (lamA (τ ++ [some (.int dn)]) flam) (startA len [.obj M.length]) (M ++ [.obj]) with
    | nx τ1 M1 => rw [eS] at r2; exact fun σ' H' ρ' x g m _ => r2 .non H' ρ' x g m .non
    | rt a M1 => rw [eS] at r2; exact r2
    | ex en τ1 M1 => rw [eS] at r2; exact fun c d σ' H' ρ' x g m _ ix => r2 c d H' ρ' x g m ix
    | bk τ1 M1 => rw [eS] at r2; exact r2.elim
    | ct τ1 M1 => rw [eS] at r2; exact r2.elim
    | bad => rw [eS] at r2; exact r2.elim
  refine wpAny_call (codeAny_mono rc fun r s2 hq => ?_)
  cases r with
  | error e => exact tk e s2 (XE.of_call I2 (fun _ _ _ h => h) hq)
  | ok fl =>
    cases fl with
    | ret u => exact I2.after hq
    | next => exact False.elim hq
    | brk => exact False.elim hq
    | cont => exact False.elim hq
end AB
/-! AB70: xs.count(True), isinstance(e, ValueError), what a statement has made is let go but one list of flat things -/
namespace AB
open PySem PySem.Spec PyProof.Rows L2
def bools? : List A → Option (List Bool)
  | [] => some []
  | .bl b :: r => (bools? r).map (b :: ·)
  | _ :: _ => none
theorem bools_of : ∀ {as : List A} {bs : List Bool}, bools? as = some bs → as = bs.map A.bl
  | [], _, e => by cases e; rfl
  | a :: as, bs, e => by
    cases a with
    | bl b =>
      simp only [bools?] at e
      obtain ⟨cs, h1, rfl⟩ := Option.map_eq_some_iff.mp e
      rw [bools_of h1]; rfl
    | _ => simp only [bools?] at e; cases e
def oCountB : OM := fun x as M => match x, as with
  | .lst l, [.bl k] => match listAt M l with
    | some xs => match bools? xs with
      | some bs => some (.int (Spec.countIn (.bool k) (bs.map PyData.bool)), M)
      | none => none
    | none => none
  | _, _ => none
section
variable {X : Cx} {W : WR} {a e : Expr} {f : EF} {fs : EFs}
theorem mt_countB : MtR X "list.count" (rm (X.am W.Tb) oCountB) := by
  intro pins s σ H x xs v us Q I rx rxs h
  obtain ⟨a, as, M, ρ, ia, is, m, ro⟩ := h
  unfold oCountB at ro
  split at ro
  · rename_i l k
    cases is with
    | cons i1 is =>
      cases is
      cases ia with
      | lst hl =>
        cases i1
        split at ro
        · rename_i ys el
          split at ro
          · rename_i bs eb
            obtain ⟨vs, hq, iv⟩ := m.list hl el
            obtain ⟨its, rv, hL, hz⟩ := I.list hq
            cases rx
            cases rxs with
            | cons r1 r2 =>
              cases r2
              cases r1
              have ra : ∀ (bs : List Bool) (vs : List V) (its : List Value), IsAll ρ H (bs.map A.bl) vs → Vals vs its → ReadsAll s.heap its (bs.map PyData.bool) [] := by
                intro bs
                induction bs with
                | nil => intro vs its i r; cases i; cases r; exact .nil
                | cons b bs ih =>
                  intro vs its i r
                  cases i with
                  | cons i1 i2 =>
                    cases i1
                    cases r with
                    | cons r1 r2 =>
                      cases r1
                      exact .cons (as := []) (bs := []) (.bool b) (ih _ _ i2 r2)
              rw [bools_of eb] at iv
              refine PyProof.Rows.count_list_bools hL.isList (ra bs _ _ iv rv) (List.all_eq_true.mpr fun x hx => ?_) ?_
              · obtain ⟨b, _, rfl⟩ := List.mem_map.mp hx
                rfl
              · exact ⟨.int _, H, I.tok _, ⟨_, rfl⟩, RO.val (ρ := ρ) (M := M) ro m (.int _)⟩
          · exact ro.elim
        · exact ro.elim
  · exact ro.elim
theorem ae_count {apos cpos : Pos} (ho : AE X W a f) (ha : AA X W [e] fs) (hbase : attributeBase a "count" X.env (eval a X.env) = eval a X.env := by rfl)
    (hfew : ((backTo cpos (starEach [e] X.env)).all (fun x => !x.1) && (backToKw cpos (keywordEach [] X.env)).all (fun x => x.1.isSome)
      && decide ([e].length + ([] : List Keyword).length + (if ([] : List Keyword).isEmpty then 0 else 1) < 30)) = true := by rfl)
    (hline : (apos.endLine == cpos.line) = true := by rfl) (hs : starEach [e] X.env = (false, eval e X.env) :: starEach [] X.env := by rfl) (hplain : (backTo cpos (starEach [] X.env)).any (·.1) = false := by rfl) :
    AE X W (.Call (.Attribute a "count" apos) [e] [] cpos) (eMeth oCountB f fs) := ae_meth PySem.F.slot_list_count PySem.F.type_list_count mt_countB ho ha hbase hfew hline hs hplain
end
/-! ### isinstance(e, T), T a class of Python's own -/
def IsTabV (K : PySem.W.Frag) (mg : Str → Option Value) (T : String) (xs : List (Str × Bool)) : Prop := ∀ n b, xs.lookup n = some b → ∃ C, mg n = some (.ref C) ∧ ExcC K C ∧ PySem.W.kitOne K (.ref C) (.type T) = some b
section
variable {X : Cx} {pos : Pos} {a : Addr} {oe : Obj} {cls : Value} {d : Option Addr} {pn : List (Addr × Obj)} {e : Exn} {l : Nat} {r : List Addr} {h : Hp} {w : WX} {Tb : Tbl}
theorem ae_isEV (i : Nat) {n c : Str} {T : String} {xs : List (Str × Bool)} {p p1 p2 : Pos} (hh : Held X r e l a cls d) (hz : Zc cls d oe) (hf : ∃ vs, oe.data = .fields vs) (hT : IsTabV X.K X.mg T xs) (hm : X.mg "isinstance" = none) (hm2 : X.mg c = none) (hN : X.N[i]? = some n) (hv : Vis X.env.scope n)
    (hgi : Gl X "isinstance" := by rfl) (hgc : Gl X c := by rfl) (hb : bootBuiltins c = some (.type T) := by decide +kernel) (hcn : c ≠ "__name__" := by decide) (hd1 : (n == ("__debug__" : Str)) = false := by decide) (hd2 : (n == ("__classdict__" : Str)) = false := by decide) (hd3 : (c == ("__debug__" : Str)) = false := by decide)
    (hs1 : starEach [.Name n p1, .Name c p2] X.env = (false, eval (.Name n p1) X.env) :: starEach [.Name c p2] X.env := by rfl) (hs2 : starEach [.Name c p2] X.env = (false, eval (.Name c p2) X.env) :: starEach [] X.env := by rfl) (hpl : (backTo pos (starEach [.Name c p2] X.env)).any (·.1) = false := by rfl) :
    AE (X.suite a ((a, oe) :: pn)) ⟨w, Tb, r, h⟩ (.Call (.Name "isinstance" p) [.Name n p1, .Name c p2] [] pos) (eIsE xs e l i) := by
  refine ⟨fun pins s σ H Q I q => ?_⟩
  obtain ⟨τ, M, ρ, rs, rm, o⟩ := q
  unfold eIsE at o
  split at o
  · rename_i k ei
    split at o
    · rename_i hk
      obtain ⟨rfl, hdk⟩ := hk
      split at o
      · rename_i b el
        obtain ⟨C, hC, hE, hkit⟩ := hT _ _ el
        obtain ⟨C', hC', hcl⟩ := hh.cls
        have hCC : C' = C := by
          have := hC'.symm.trans hC
          cases this; rfl
        subst hCC
        subst hcl
        obtain ⟨v, hv1, iv⟩ := rs.get ei
        have hva : v = .ref a := by
          cases iv with
          | obj hl =>
            have := hl.symm.trans (rs.ext.get hh.at_)
            cases this; rfl
        subst hva
        have P := pe_callB (X := X.suite a ((a, oe) :: pn)) (call_isX hE hz hf) hgi hm (by rfl) (pa_cons (pe_var (pos := p1) hN hv hd1 hd2) (pa_cons (pe_bltn (v := V.ty T) (pos := p2) hgc hm2 hb rfl hcn hd3) pa_nil hs2) hs1) (p := p) (pos := pos) (by decide) (by decide) hs1 hpl
        refine P.run pins s σ H Q I ⟨_, hv1, V.ty T, .type T, b, rfl, fun u hu => hu, hkit, dct_ok hh rs.ext rm hdk, o _ H ρ (.refl _) (.refl _) rm (.bl b)⟩
      · exact o.elim
    · exact o.elim
  · exact o.elim
end
/-! ### one list is kept -/
/-- the old cells: as they were, or lists that tell of old cells alone -/
def OkC (M M2 : Store) : Prop := M2.length = M.length ∧ ∀ (j : Nat) (c : Cell), M2[j]? = some c → M[j]? = some c ∨ ∃ xs, c = .lst xs ∧ refsLts M.length xs = true
theorem OkC.refl (M : Store) : OkC M M := ⟨rfl, fun _ _ h => .inl h⟩
section
variable {ρ ρ1 : List Addr} {H H1 : Hp}
theorem snocA {α : Type} {l : List α} {a b : α} {i : Nat} (h : (l ++ [a])[i]? = some b) : (i < l.length ∧ l[i]? = some b) ∨ (i = l.length ∧ b = a) := by
  by_cases hi : i < l.length
  · rw [List.getElem?_append_left hi] at h
    exact .inl ⟨hi, h⟩
  · rw [List.getElem?_append_right (by omega)] at h
    have : i - l.length = 0 := by
      have := (List.getElem?_eq_some_iff.mp h).1
      simp at this
      omega
    rw [this] at h
    exact .inr ⟨by omega, by simpa using h.symm⟩
theorem RM.backK {w : Amb} {M M1 : Store} {l : Nat} {xs : List A} (x : Ext ρ ρ1) (m : RM w ρ H M) (m1 : RM w ρ1 H1 M1) (ok : OkC M (M1.take M.length)) (hl : M1[l]? = some (.lst xs)) (hn : M.length ≤ l) (hr : refsLts M.length xs = true) :
    ∃ a, ρ1[l]? = some a ∧ RM w (ρ ++ [a]) H1 (M1.take M.length ++ [.lst xs]) := by
  have hl1 := (List.getElem?_eq_some_iff.mp hl).1
  obtain ⟨a, ha⟩ : ∃ a, ρ1[l]? = some a := ⟨_, List.getElem?_eq_getElem (by rw [m1.len]; exact hl1)⟩
  refine ⟨a, ha, ?_⟩
  have up : ∀ {i : Nat} {c : Cell}, (M1.take M.length)[i]? = some c → M1[i]? = some c := fun {i c} h => by
    have hi := (List.getElem?_eq_some_iff.mp h).1
    rw [List.length_take] at hi
    rw [List.getElem?_take_of_lt (by omega)] at h
    exact h
  obtain ⟨ok1, ok2⟩ := ok
  have low : ∀ {i : Nat} {b : Addr} {c : Cell}, ρ[i]? = some b → (M1.take M.length)[i]? = some c → RC w ρ H1 b c := fun {i b c} h1 h2 => by
    rcases ok2 i c h2 with z | ⟨ys, rfl, z⟩
    · exact (m.at_ i b c h1 z).back x (m1.at_ i b c (x.get h1) (up h2))
    · obtain ⟨vs, e, i1⟩ := m1.at_ i b _ (x.get h1) (up h2)
      exact ⟨vs, e, i1.low x (by rw [m.len]; exact z)⟩
  have new : RC w ρ H1 a (.lst xs) := by
    obtain ⟨vs, e, i1⟩ := m1.at_ l a _ ha hl
    exact ⟨vs, e, i1.low x (by rw [m.len]; exact hr)⟩
  have rcm : ∀ {b : Addr} {c : Cell}, RC w ρ H1 b c → RC w (ρ ++ [a]) H1 b c := fun {b c} h => RC.mono (.snoc ρ a) (.refl _) rfl h
  have gA : ∀ {i : Nat} {b : Addr}, (ρ ++ [a])[i]? = some b → (i < M.length ∧ ρ[i]? = some b) ∨ (i = M.length ∧ b = a) := fun {i b} h => by
    have := snocA h
    rw [m.len] at this
    exact this
  have gC : ∀ {i : Nat} {c : Cell}, (M1.take M.length ++ [.lst xs])[i]? = some c → (i < M.length ∧ (M1.take M.length)[i]? = some c) ∨ (i = M.length ∧ c = .lst xs) := fun {i c} h => by
    have := snocA h
    rw [ok1] at this
    exact this
  -- every cell is one of the later store's
  have both : ∀ {i : Nat} {b : Addr} {c : Cell}, (ρ ++ [a])[i]? = some b → (M1.take M.length ++ [.lst xs])[i]? = some c → ∃ j, ρ1[j]? = some b ∧ M1[j]? = some c ∧ ((i < M.length ∧ j = i) ∨ (i = M.length ∧ j = l)) := fun {i b c} h1 h2 => by
    rcases gA h1 with ⟨z1, z2⟩ | ⟨z1, z2⟩
    · rcases gC h2 with ⟨z3, z4⟩ | ⟨z3, z4⟩
      · exact ⟨i, x.get z2, up z4, .inl ⟨z1, rfl⟩⟩
      · omega
    · rcases gC h2 with ⟨z3, z4⟩ | ⟨z3, z4⟩
      · omega
      · subst z2 z4
        exact ⟨l, ha, hl, .inr ⟨z1, rfl⟩⟩
  refine ⟨by simp [m.len, ok1], fun i j b c d h1 h2 h3 h4 h5 h6 => ?_, fun i b c h1 h2 => ?_, m1.tabs, fun i j b c ys h1 h2 h3 h4 h5 => ?_, fun i j b c d h1 h2 h3 h4 h5 h6 => ?_⟩
  · obtain ⟨i1, p1, p2, p3⟩ := both h1 h3
    obtain ⟨j1, q1, q2, q3⟩ := both h2 h4
    have e := m1.nd i1 j1 b c d p1 q1 p2 q2 h5 h6
    omega
  · rcases gA h1 with ⟨z1, z2⟩ | ⟨z1, z2⟩
    · rcases gC h2 with ⟨z3, z4⟩ | ⟨z3, z4⟩
      · exact rcm (low z2 z4)
      · omega
    · rcases gC h2 with ⟨z3, z4⟩ | ⟨z3, z4⟩
      · omega
      · subst z2 z4
        exact rcm new
  · obtain ⟨i1, p1, p2, p3⟩ := both h1 h3
    obtain ⟨j1, q1, q2, q3⟩ := both h2 h4
    obtain ⟨vs, f1, f2⟩ := m1.fz i1 j1 b c ys p1 q1 p2 q2 h5
    rcases gA h2 with ⟨z1, z2⟩ | ⟨z1, z2⟩
    · rcases gC h4 with ⟨z3, z4⟩ | ⟨z3, z4⟩
      · rcases ok2 j _ z4 with y | ⟨_, y, _⟩
        · obtain ⟨_, _, i0⟩ := m.at_ j b _ z2 y
          exact ⟨vs, f1, (i0.back x f2).mono (.snoc ρ a) (.refl _)⟩
        · cases y
      · omega
    · rcases gC h4 with ⟨z3, z4⟩ | ⟨z3, z4⟩
      · omega
      · cases z4
  · obtain ⟨i1, p1, p2, p3⟩ := both h1 h3
    obtain ⟨j1, q1, q2, q3⟩ := both h2 h4
    have e := m1.fu i1 j1 b c d p1 q1 p2 q2 h5 h6
    omega
end
open Classical in
noncomputable def gkO (i : Nat) (τ : Sl) (M : Store) : SO → SO
  | .nx τ' M' => match τ'[i]? with
    | some (some (.lst l)) => match M'[l]? with
      | some (.lst xs) => if OkC M (M'.take M.length) ∧ M.length ≤ l ∧ refsLts M.length xs = true ∧ τ'.set i none = τ.set i none then .nx (τ.set i (some (.lst M.length))) (M'.take M.length ++ [.lst xs]) else .bad
      | _ => .bad
    | _ => .bad
  | _ => .bad
noncomputable def gkS (i : Nat) (f : SF) : SF := fun τ M => gkO i τ M (f τ M)
section
variable {X : Cx} {W : WR}
theorem RS0.back {ρ ρ1 : List Addr} {H H1 : Hp} (x : Ext ρ ρ1) : ∀ {τ : Sl} {σ σ1 : L2.St}, RS0 ρ H τ σ → RS0 ρ1 H1 τ σ1 → RS0 ρ H1 τ σ1
  | _, _, _, .nil, .nil => .nil
  | _, _, _, .no r, .no r1 => .no (RS0.back x r r1)
  | _, _, _, .yes i r, .yes i1 r1 => .yes (i.back x i1) (RS0.back x r r1)
theorem RS0.backS {ρ ρ1 : List Addr} {H H1 : Hp} (x : Ext ρ ρ1) : ∀ {i : Nat} {τ τ' : Sl} {σ σ1 : L2.St}, RS0 ρ H τ σ → RS0 ρ1 H1 τ' σ1 → τ'.set i none = τ.set i none → RS0 ρ H1 (τ.set i none) σ1
  | _, _, _, _, _, .nil, .nil, _ => .nil
  | _, _, _, _, _, .nil, .no _, e => by simp at e
  | _, _, _, _, _, .nil, .yes _ _, e => by simp at e
  | 0, _, _, _, _, .no r, .nil, e => by cases e
  | 0, _, _, _, _, .yes _ r, .nil, e => by cases e
  | _ + 1, _, _, _, _, .no r, .nil, e => by cases e
  | _ + 1, _, _, _, _, .yes _ r, .nil, e => by cases e
  | 0, _, _, _, _, .no r, .no r1, e => by injection e with _ e; subst e; exact .no (r.back x r1)
  | 0, _, _, _, _, .no r, .yes _ r1, e => by injection e with _ e; subst e; exact .no (r.back x r1)
  | 0, _, _, _, _, .yes _ r, .no r1, e => by injection e with _ e; subst e; exact .no (r.back x r1)
  | 0, _, _, _, _, .yes _ r, .yes _ r1, e => by injection e with _ e; subst e; exact .no (r.back x r1)
  | i + 1, _, _, _, _, .no r, .no r1, e => by injection e with _ e; exact .no (RS0.backS x r r1 e)
  | i + 1, _, _, _, _, .no r, .yes _ r1, e => by injection e with e1 e; cases e1
  | i + 1, _, _, _, _, .yes _ r, .no r1, e => by injection e with e1 e; cases e1
  | i + 1, _, _, _, _, .yes j r, .yes j1 r1, e => by
    injection e with e1 e
    cases e1
    exact .yes (j.back x j1) (RS0.backS x r r1 e)
theorem RS0.setL {ρ : List Addr} {H : Hp} {a : Addr} {n : Nat} (hn : ρ[n]? = some a) : ∀ {i : Nat} {τ : Sl} {σ : L2.St}, RS0 ρ H (τ.set i none) σ → σ[i]? = some (some (.ref a)) → RS0 ρ H (τ.set i (some (.lst n))) σ
  | _, [], _, .nil, e => by simp at e
  | 0, _ :: _, _, .no r, e => by
    simp at e
    subst e
    exact .yes (.lst hn) r
  | i + 1, _ :: _, _, .no r, e => .no (RS0.setL hn r (by simpa using e))
  | i + 1, _ :: _, _, .yes j r, e => .yes j (RS0.setL hn r (by simpa using e))
theorem gkO_cases {i : Nat} {τ : Sl} {M : Store} {o : SO} : gkO i τ M o = .bad ∨ ∃ τ' M' l xs, o = .nx τ' M' ∧ τ'[i]? = some (some (.lst l)) ∧ M'[l]? = some (.lst xs) ∧ OkC M (M'.take M.length) ∧ M.length ≤ l ∧ refsLts M.length xs = true ∧ τ'.set i none = τ.set i none ∧ gkO i τ M o = .nx (τ.set i (some (.lst M.length))) (M'.take M.length ++ [.lst xs]) := by
  cases o with
  | nx τ' M' =>
    unfold gkO
    dsimp only
    split
    · rename_i l el
      split
      · rename_i xs exs
        split
        · rename_i hk
          exact .inr ⟨τ', M', l, xs, rfl, el, exs, hk.1, hk.2.1, hk.2.2.1, hk.2.2.2, rfl⟩
        · exact .inl rfl
      · exact .inl rfl
    · exact .inl rfl
  | _ => exact .inl rfl
theorem ass_gk (i : Nat) {st : Stmt} {rest : List Stmt} {f t : SF} (h1 : AS X W st f) (h2 : ASs X W rest t) : ASs X W (st :: rest) (sSeq (gkS i f) t) := (pss_cons h1 h2).pre fun D σ H h => by
  obtain ⟨τ, M, ρ, rs, rm, r⟩ := h
  refine ⟨τ, M, ρ, rs, rm, ?_⟩
  have r : RSO (X.gx W.Tb) W D ρ H (match gkO i τ M (f τ M) with
    | .nx τ1 M1 => t τ1 M1
    | o => o) := r
  rcases gkO_cases (i := i) (τ := τ) (M := M) (o := f τ M) with e | ⟨τ', M', l, xs, e, el, exs, ok, hn, hr, hτ, e2⟩
  · rw [e] at r
    exact r.elim
  · rw [e2] at r
    rw [e]
    intro σ1 H1 ρ1 x g m i1
    obtain ⟨a, ha, m2⟩ := rm.backK x m ok exs hn hr
    obtain ⟨v, hv, iv⟩ := i1.get el
    have hva : v = .ref a := by
      cases iv with
      | lst hl =>
        rw [ha] at hl
        cases hl
        rfl
    subst hva
    refine ⟨_, _, ρ ++ [a], ⟨rs.ext.trans (.snoc ρ a), i1.grow, ?_⟩, m2, RSO.mono r (.snoc ρ a) g⟩
    exact RS0.setL (by rw [← rm.len]; simp) ((rs.s.backS x i1.s hτ).mono (.snoc ρ a) (.refl H1)) hv
end
/-- what is to be reckoned of it -/
def gkV (i : Nat) (M : Store) : SO → Option (Sl × Store)
  | .nx τ' M' => match τ'[i]? with
    | some (some (.lst l)) => match M'[l]? with
      | some (.lst xs) => if (decide (M.length ≤ l) && refsLts M.length xs) = true then some (τ'.set i none, M'.take M.length ++ [.lst xs]) else none
      | _ => none
    | _ => none
  | _ => none
theorem gk_v {i : Nat} {f : SF} {τ : Sl} {M M2 : Store} {xs : List A} (h : gkV i M (f τ M) = some (τ.set i none, M2 ++ [.lst xs])) (ok : OkC M M2) : gkS i f τ M = .nx (τ.set i (some (.lst M.length))) (M2 ++ [.lst xs]) := by
  unfold gkS
  generalize f τ M = o at h
  cases o with
  | nx τ' M' =>
    unfold gkV at h
    unfold gkO
    dsimp only at h ⊢
    split at h
    · rename_i l el
      split at h
      · rename_i ys ey
        split at h
        · rename_i hk
          rw [Bool.and_eq_true, decide_eq_true_eq] at hk
          injection h with h
          injection h with h3 h4
          obtain ⟨h5, h6⟩ := List.append_inj' h4 rfl
          rw [if_pos ⟨by rw [h5]; exact ok, hk.1, hk.2, h3⟩, h4]
        · cases h
      · cases h
    · cases h
  | _ => cases h
end AB
/-! AB71: which exceptions are of a class of Python's own -/
namespace AB
open PySem PySem.Spec PyProof.Rows L2
theorem kit_type {K : PySem.W.Frag} {C : Addr} {T : String} {b : Bool} (hm : PySem.W.kitMeta T = true) (h : PySem.W.subIn K (.ref C) (.type T) = some b) : PySem.W.kitOne K (.ref C) (.type T) = some b := by
  unfold PySem.W.kitOne
  rw [if_neg (by simp)]
  show (if PySem.W.kitMeta T = true then PySem.W.subIn K (.ref C) (.type T) else none) = some b
  rw [if_pos hm]
  exact h
theorem isTabV_nil {K : PySem.W.Frag} {mg : Str → Option Value} {T : String} : IsTabV K mg T [] := fun n b h => by cases h
theorem isTabV_cons {K : PySem.W.Frag} {mg : Str → Option Value} {T : String} {x : Str} {b : Bool} {xs : List (Str × Bool)} {C : Addr} (g : mg x = some (.ref C)) (E : ExcC K C) (e : PySem.W.kitOne K (.ref C) (.type T) = some b) (h : IsTabV K mg T xs) : IsTabV K mg T ((x, b) :: xs) := fun n b' q => by
  rw [List.lookup_cons] at q
  cases hn : n == x with
  | true => rw [hn] at q; cases q; rw [eq_of_beq hn]; exact ⟨C, g, E, e⟩
  | false => rw [hn] at q; exact h n b' q
/-! ### x not in a written table, where it is known of some keys that they are not there -/
def KNos (K : PySem.W.Frag) (d : Addr) (nos : List Str) : Prop := ∀ z ∈ nos, PySem.W.nsIn K d z = some none
def inTN (tbl : List (Str × List Str)) (nos : List Str) (c : A) (M : Store) : EO A := match c with
  | .str z => match tbl.lookup z with
    | some _ => .ok (.bl false) M
    | none => if nos.contains z = true then .ok (.bl true) M else .bad
  | _ => .bad
def eInTN (tbl : List (Str × List Str)) (nos : List Str) (f : EF) : EF := fun τ M => (f τ M).bind (inTN tbl nos)
section
variable {X : Cx} {W : WR} {pos : Pos} {a : Expr} {f : EF}
theorem inTN_tK {tbl : List (Str × List Str)} {nos : List Str} {d : Addr} (kt : ∀ z ts, tbl.lookup z = some ts → ∃ p, PySem.W.nsIn X.K d z = some (some (.ref p)) ∧ KTup X.K p ts) (kn : KNos X.K d nos) {σ : L2.St} {H : Hp} {Q : VK} (h : tG (X.gx W.Tb) W Is (eInTN tbl nos f) σ H Q) :
    tG (X.gx W.Tb) W Is f σ H fun x H1 => ∃ (z : Str) (r : Option Value), x = .str z ∧ V.ref d = .ref d ∧ PySem.W.nsIn X.K d z = some r ∧ Q (.bl (!r.isSome)) H1 := by
  refine (seqG Is h).imp fun x H1 h1 => ?_
  obtain ⟨τ, M, ρ, c, rs, rm, i, r⟩ := h1
  unfold inTN at r
  dsimp only at r
  split at r
  · rename_i z
    cases i
    split at r
    · rename_i ts e
      obtain ⟨p, e1, _⟩ := kt z ts e
      exact ⟨z, _, rfl, rfl, e1, r.okv (.refl _) (.refl _) rm (.bl _)⟩
    · split at r
      · rename_i hz
        exact ⟨z, none, rfl, rfl, kn z (List.contains_iff_mem.mp hz), r.okv (.refl _) (.refl _) rm (.bl _)⟩
      · exact r.elim
  · exact r.elim
theorem at_ninTN {x : Str} {d : Addr} {p : Pos} {tbl : List (Str × List Str)} {nos : List Str} (hm : X.mg x = some (.ref d)) (k : KTab X.K X.w d tbl) (kn : KNos X.K d nos) (ha : AE X W a f) (hg : Gl X x := by rfl) (hd : (x == ("__debug__" : Str)) = false := by decide) (hb : behindInMarks .NotIn (.Name x p) = false := by with_unfolding_all rfl) : AT X W (.Compare a [.NotIn] [.Name x p] pos) (eB (eInTN tbl nos f)) := by
  obtain ⟨⟨es, n, D⟩, kt⟩ := k
  refine (pt_cmpR (op_notIn_kd D) ha (pe_glob hg hm (x := x) (v := V.ref d) rfl hd) hb).pre fun σ H Q h => inTN_tK kt kn (bool_tK h)
end
end AB
namespace ZM
open PySem PySem.Spec PyProof.Rows L2 RZ
theorem zipM_next_item {prog : Program} {w : World} {A : Around} {E : Value → Shared → Prop} {s : Shared} {z TI TO i1 i2 l1 l2 : Addr} {k1 k2 : Nat} {xs ys : Array Value} {x y a b : Value} {Q : Value → Shared → Prop}
    (D : ZipApart z TI TO i1 i2 l1 l2) (hz : IsZip s.heap z TI TO .none) (hTI : IsPair s.heap TI (.ref i1) (.ref i2)) (hTO : IsPair s.heap TO a b) (h1 : s.heap.IsListIter i1 l1 k1) (h2 : s.heap.IsTupleIter i2 l2 k2) (hl1 : s.heap.IsList l1 xs) (hl2 : s.heap.IsTuple l2 ys) (hx : xs[k1]? = some x) (hy : ys[k2]? = some y)
    (hQ : ∀ h' : Heap, IsZip h' z TI TO (rawInt s.heap.objs.size) → IsPair h' TO x y → h'.IsListIter i1 l1 (k1 + 1) → h'.IsTupleIter i2 l2 (k2 + 1) → IsPair h' s.heap.objs.size x y → h'.objs.size = s.heap.objs.size + 1 →
      (∀ (c : Addr) (o : Obj), c ≠ z → c ≠ TO → c ≠ i1 → c ≠ i2 → s.heap.get? c = some o → h'.get? c = some o) → Q (.ref s.heap.objs.size) { s with heap := h' }) :
    wpAny (model prog w) A (Builtin.«zip.__next__» { pos := [.ref z] }) (fun fin s' => ∃ v, fin = Fin.done (.ret v) ∧ Q v s') E s := by
  unfold Builtin.«zip.__next__»
  show wpAny _ _ (field (.ref z) 2 >>= _) _ _ _
  refine wpAny_bind (wpAny_field hz rfl rfl ?_)
  show wpAny _ _ (field (.ref z) 3 >>= _) _ _ _
  refine wpAny_bind (wpAny_field hz rfl rfl (wpAny_bind (wpAny_seqItems hTI rfl ?_)))
  show wpAny _ _ (Builtin.SmallTypes.ownedTupleIsFree (.ref z) >>= _) _ _ _
  refine wpAny_bind ?_
  show wpAny _ _ (field (.ref z) 0 >>= _) _ _ _
  refine wpAny_bind (wpAny_field hz rfl rfl (wpAny_pure ?_))
  rw [if_pos (by simp)]
  refine wpAny_bind (wpAny_rule (wpAny_bind (wpAny_field hz rfl rfl (wpAny_bind (wpAny_setField_rec hz (by simp) fun h₁ hz₁ hs₁ => ?_)))))
  show wpAny _ _ ((forIn [(Value.ref i1, 0), (Value.ref i2, 1)] _ _) >>= _) _ _ _
  rw [List.forIn_cons]
  refine wpAny_bind (wpAny_bind (wpAny_bind (wpAny_onRaise ?_)))
  refine wpAny_bind (wpAny_nextOf_list_item (h1.extBut hs₁.extBut D.i1z) (hl1.extBut hs₁.extBut D.l1z) hx fun h₂ h1₂ hs₂ => wpAny_pure ?_)
  have hTO₂ := hs₂.extBut TO _ D.TOi1 (hs₁.extBut TO _ D.TOz hTO)
  refine wpAny_bind (wpAny_seqItems hTO₂ rfl ?_)
  refine wpAny_bind (wpAny_updateSeq_pair hTO₂ fun h₃ hTO₃ hs₃ => ?_)
  have hTO₃ : IsPair h₃ TO x b := hTO₃
  refine wpAny_bind (wpAny_letGo (wpAny_pure ?_))
  show wpAny _ _ ((forIn [(Value.ref i2, 1)] _ _)) _ _ _
  rw [List.forIn_cons]
  refine wpAny_bind (wpAny_bind (wpAny_onRaise ?_))
  refine wpAny_bind (nextOf_tuple_item (((h2.extBut hs₁.extBut D.i2z).extBut hs₂.extBut (Ne.symm D.i12)).extBut hs₃.extBut (Ne.symm D.TOi2)) (((hl2.extBut hs₁.extBut D.l2z).extBut hs₂.extBut D.l2i1).extBut hs₃.extBut D.l2TO) hy fun h₄ h2₄ hs₄ => wpAny_pure ?_)
  have hTO₄ := hs₄.extBut TO _ D.TOi2 hTO₃
  refine wpAny_bind (wpAny_seqItems hTO₄ rfl ?_)
  refine wpAny_bind (wpAny_updateSeq_pair hTO₄ fun h₅ hTO₅ hs₅ => ?_)
  have hTO₅ : IsPair h₅ TO x y := hTO₅
  refine wpAny_bind (wpAny_letGo (wpAny_pure ?_))
  refine wpAny_pure ?_
  show wpAny _ _ (seqItems? (.ref TO) >>= _) _ _ _
  refine wpAny_bind (wpAny_seqItems hTO₅ rfl ?_)
  refine wpAny_bind (wpAny_newTuple ?_)
  have hsz : h₅.objs.size = s.heap.objs.size := by rw [hs₅.1, hs₄.1, hs₃.1, hs₂.1, hs₁.1]
  have hz₅ : h₅.get? z = some { cls := Value.type "zip", data := Data.fields #[Value.ellipsis, Value.bool false, Value.bool false, Value.ref TI, Value.ref TO] } :=
    hs₅.extBut z _ (Ne.symm D.TOz) (hs₄.extBut z _ (Ne.symm D.i2z) (hs₃.extBut z _ (Ne.symm D.TOz) (hs₂.extBut z _ (Ne.symm D.i1z) hz₁)))
  have h1₅ : h₅.IsListIter i1 l1 (k1 + 1) := ((h1₂.extBut hs₃.extBut (Ne.symm D.TOi1)).extBut hs₄.extBut D.i12).extBut hs₅.extBut (Ne.symm D.TOi1)
  have h2₅ : h₅.IsTupleIter i2 l2 (k2 + 1) := h2₄.extBut hs₅.extBut (Ne.symm D.TOi2)
  have hzlt : z < h₅.objs.size := Heap.lt_size hz₅
  have hTlt : TO < h₅.objs.size := Heap.lt_size hTO₅
  have hi1lt : i1 < h₅.objs.size := let ⟨_, e, _⟩ := h1₅; Heap.lt_size e
  have hi2lt : i2 < h₅.objs.size := let ⟨_, e, _⟩ := h2₅; Heap.lt_size e
  refine wpAny_bind ?_
  show wpAny _ _ (setField (.ref z) 0 (rawInt ↑h₅.objs.size) >>= _) _ _ _
  have hz₆ := Heap.get?_push_of_some { cls := Value.type "tuple", data := Data.seq #[x, y] } hz₅
  refine wpAny_bind (wpAny_setField_rec hz₆ (by simp) fun h₇ hz₇ hs₇ => ?_)
  refine wpAny_setField_rec hz₇ (by simp) fun h₈ hz₈ hs₈ => ?_
  have up : ∀ (c : Addr) (o : Obj), c ≠ z → h₅.get? c = some o → h₈.get? c = some o := fun c o c1 e => hs₈.extBut c o c1 (hs₇.extBut c o c1 (Heap.get?_push_of_some _ e))
  have hT₈ : h₈.get? h₅.objs.size = some { cls := Value.type "tuple", data := Data.seq #[x, y] } := hs₈.extBut _ _ (Nat.ne_of_gt hzlt) (hs₇.extBut _ _ (Nat.ne_of_gt hzlt) (Heap.get?_push_size h₅ rfl))
  have hsz₈ : h₈.objs.size = s.heap.objs.size + 1 := by rw [hs₈.1, hs₇.1, Heap.size_push, hsz]
  refine wpAny_pure ⟨_, rfl, ?_⟩
  rw [hsz] at hz₈ hT₈
  show Q (.ref h₅.objs.size) _
  rw [hsz]
  refine hQ h₈ hz₈ (up TO _ D.TOz hTO₅) (let ⟨o, e, t, d⟩ := h1₅; ⟨o, up _ _ D.i1z e, t, d⟩) (let ⟨o, e, t, d⟩ := h2₅; ⟨o, up _ _ D.i2z e, t, d⟩) hT₈ hsz₈ fun c o c1 c2 c3 c4 e => ?_
  exact up c o c1 (hs₅.extBut c o c2 (hs₄.extBut c o c4 (hs₃.extBut c o c2 (hs₂.extBut c o c3 (hs₁.extBut c o c1 e)))))
theorem zipM_next_end {prog : Program} {w : World} {A : Around} {E : Value → Shared → Prop} {s : Shared} {z TI TO i1 i2 l1 l2 : Addr} {k1 k2 : Nat} {xs ys : Array Value} {a b : Value} {Q : PySem.Fin → Shared → Prop} (hh : A.handled = none)
    (D : ZipApart z TI TO i1 i2 l1 l2) (hz : IsZip s.heap z TI TO .none) (hTI : IsPair s.heap TI (.ref i1) (.ref i2)) (hTO : IsPair s.heap TO a b) (h1 : s.heap.IsListIter i1 l1 k1) (h2 : s.heap.IsTupleIter i2 l2 k2) (hl1 : s.heap.IsList l1 xs) (hl2 : s.heap.IsTuple l2 ys) (hend : xs[k1]? = none ∨ ys[k2]? = none)
    (hE : ∀ (h' : Heap) (e : Addr), (∀ (c : Addr) (o : Obj), c ≠ z → c ≠ TO → c ≠ i1 → c ≠ i2 → s.heap.get? c = some o → h'.get? c = some o) → (∃ o, h'.get? e = some o ∧ o.cls = .type "StopIteration") → E (.ref e) { s with heap := h' }) :
    wpAny (model prog w) A (Builtin.«zip.__next__» { pos := [.ref z] }) Q E s := by
  unfold Builtin.«zip.__next__»
  show wpAny _ _ (field (.ref z) 2 >>= _) _ _ _
  refine wpAny_bind (wpAny_field hz rfl rfl ?_)
  show wpAny _ _ (field (.ref z) 3 >>= _) _ _ _
  refine wpAny_bind (wpAny_field hz rfl rfl (wpAny_bind (wpAny_seqItems hTI rfl ?_)))
  show wpAny _ _ (Builtin.SmallTypes.ownedTupleIsFree (.ref z) >>= _) _ _ _
  refine wpAny_bind ?_
  show wpAny _ _ (field (.ref z) 0 >>= _) _ _ _
  refine wpAny_bind (wpAny_field hz rfl rfl (wpAny_pure ?_))
  rw [if_pos (by simp)]
  refine wpAny_bind (wpAny_rule (wpAny_bind (wpAny_field hz rfl rfl (wpAny_bind (wpAny_setField_rec hz (by simp) fun h₁ hz₁ hs₁ => ?_)))))
  have hz₁ : h₁.get? z = some { cls := Value.type "zip", data := Data.fields #[Value.ellipsis, Value.bool false, Value.bool false, Value.ref TI, Value.ref TO] } := hz₁
  show wpAny _ _ ((forIn [(Value.ref i1, 0), (Value.ref i2, 1)] _ _) >>= _) _ _ _
  rw [List.forIn_cons]
  refine wpAny_bind (wpAny_bind (wpAny_bind (wpAny_onRaise ?_)))
  have stop : ∀ {h₂ : Heap} {e : Addr}, h₂.get? z = some { cls := Value.type "zip", data := Data.fields #[Value.ellipsis, Value.bool false, Value.bool false, Value.ref TI, Value.ref TO] } → (∃ o, h₂.get? e = some o ∧ o.cls = .type "StopIteration") → e ≠ z := fun {h₂ e} e1 ⟨o, e2, e3⟩ c => by
    subst c
    rw [e1] at e2
    cases e2
    exact absurd (Value.type.inj e3) (by decide)
  cases hx : xs[k1]? with
  | none =>
    refine wpAny_bind (wpAny_nextOf_list_end hh (h1.extBut hs₁.extBut D.i1z) (hl1.extBut hs₁.extBut D.l1z) hx fun h₂ e eb he => ?_)
    have hz₂ := eb z _ (Ne.symm D.i1z) hz₁
    refine wpAny_setField_rec hz₂ (by simp) fun h₃ hz₃ hs₃ => ?_
    have hez := stop hz₂ he
    obtain ⟨oe, hoe, hce⟩ := he
    exact hE h₃ e (fun c o c1 c2 c3 c4 q => hs₃.extBut c o c1 (eb c o c3 (hs₁.extBut c o c1 q))) ⟨oe, hs₃.extBut e oe hez hoe, hce⟩
  | some x =>
    have hy : ys[k2]? = none := by
      rcases hend with q | q
      · rw [hx] at q; cases q
      · exact q
    refine wpAny_bind (wpAny_nextOf_list_item (h1.extBut hs₁.extBut D.i1z) (hl1.extBut hs₁.extBut D.l1z) hx fun h₂ h1₂ hs₂ => wpAny_pure ?_)
    have hTO₂ := hs₂.extBut TO _ D.TOi1 (hs₁.extBut TO _ D.TOz hTO)
    refine wpAny_bind (wpAny_seqItems hTO₂ rfl ?_)
    refine wpAny_bind (wpAny_updateSeq_pair hTO₂ fun h₃ hTO₃ hs₃ => ?_)
    refine wpAny_bind (wpAny_letGo (wpAny_pure ?_))
    show wpAny _ _ ((forIn [(Value.ref i2, 1)] _ _)) _ _ _
    rw [List.forIn_cons]
    refine wpAny_bind (wpAny_bind (wpAny_onRaise ?_))
    refine wpAny_bind (nextOf_tuple_end hh (((h2.extBut hs₁.extBut D.i2z).extBut hs₂.extBut (Ne.symm D.i12)).extBut hs₃.extBut (Ne.symm D.TOi2)) (((hl2.extBut hs₁.extBut D.l2z).extBut hs₂.extBut D.l2i1).extBut hs₃.extBut D.l2TO) hy fun h₄ e eb he => ?_)
    have hz₄ := eb z _ (Ne.symm D.i2z) (hs₃.extBut z _ (Ne.symm D.TOz) (hs₂.extBut z _ (Ne.symm D.i1z) hz₁))
    refine wpAny_setField_rec hz₄ (by simp) fun h₅ hz₅ hs₅ => ?_
    have hez := stop hz₄ he
    obtain ⟨oe, hoe, hce⟩ := he
    exact hE h₅ e (fun c o c1 c2 c3 c4 q => hs₅.extBut c o c1 (eb c o c4 (hs₃.extBut c o c2 (hs₂.extBut c o c3 (hs₁.extBut c o c1 q))))) ⟨oe, hs₅.extBut e oe hez hoe, hce⟩
theorem pyNext_zipM_item {prog : Program} {w : World} {A : Around} {E : Value → Shared → Prop} {s : Shared} {z TI TO i1 i2 l1 l2 : Addr} {k1 k2 : Nat} {xs ys : Array Value} {x y a b : Value} {Q : Option Value → Shared → Prop}
    (D : ZipApart z TI TO i1 i2 l1 l2) (hz : IsZip s.heap z TI TO .none) (hTI : IsPair s.heap TI (.ref i1) (.ref i2)) (hTO : IsPair s.heap TO a b) (h1 : s.heap.IsListIter i1 l1 k1) (h2 : s.heap.IsTupleIter i2 l2 k2) (hl1 : s.heap.IsList l1 xs) (hl2 : s.heap.IsTuple l2 ys) (hx : xs[k1]? = some x) (hy : ys[k2]? = some y)
    (hQ : ∀ h' : Heap, IsZip h' z TI TO (rawInt s.heap.objs.size) → IsPair h' TO x y → h'.IsListIter i1 l1 (k1 + 1) → h'.IsTupleIter i2 l2 (k2 + 1) → IsPair h' s.heap.objs.size x y → h'.objs.size = s.heap.objs.size + 1 →
      (∀ (c : Addr) (o : Obj), c ≠ z → c ≠ TO → c ≠ i1 → c ≠ i2 → s.heap.get? c = some o → h'.get? c = some o) → Q (some (.ref s.heap.objs.size)) { s with heap := h' }) :
    wpAny (model prog w) A (pyNext (.ref z)) Q E s := by
  have hT : s.TypeIs (.ref z) "zip" := ⟨_, hz, rfl⟩
  exact wpAny_bind (wpAny_attempt (wpAny_callSpecial?_slot hT F.slot_zip_next (wpAny_call_entry F.slot_zip_next hT F.entry_zip_next
    (zipM_next_item D hz hTI hTO h1 h2 hl1 hl2 hx hy fun h' a1 a2 a3 a4 a5 a6 a7 => wpAny_pure (hQ h' a1 a2 a3 a4 a5 a6 a7)) (F.args_zip_next_1 _))))
theorem pyNext_zipM_end {prog : Program} {w : World} {A : Around} {E : Value → Shared → Prop} {s : Shared} {z TI TO i1 i2 l1 l2 : Addr} {k1 k2 : Nat} {xs ys : Array Value} {a b : Value} {Q : Option Value → Shared → Prop} (hh : A.handled = none)
    (D : ZipApart z TI TO i1 i2 l1 l2) (hz : IsZip s.heap z TI TO .none) (hTI : IsPair s.heap TI (.ref i1) (.ref i2)) (hTO : IsPair s.heap TO a b) (h1 : s.heap.IsListIter i1 l1 k1) (h2 : s.heap.IsTupleIter i2 l2 k2) (hl1 : s.heap.IsList l1 xs) (hl2 : s.heap.IsTuple l2 ys) (hend : xs[k1]? = none ∨ ys[k2]? = none)
    (hQ : ∀ h' : Heap, (∀ (c : Addr) (o : Obj), c ≠ z → c ≠ TO → c ≠ i1 → c ≠ i2 → s.heap.get? c = some o → h'.get? c = some o) → Q none { s with heap := h' }) :
    wpAny (model prog w) A (pyNext (.ref z)) Q E s := by
  have hT : s.TypeIs (.ref z) "zip" := ⟨_, hz, rfl⟩
  exact wpAny_bind (wpAny_attempt (wpAny_callSpecial?_slot hT F.slot_zip_next (wpAny_call_entry F.slot_zip_next hT F.entry_zip_next
    (zipM_next_end hh D hz hTI hTO h1 h2 hl1 hl2 hend fun h' e hk ⟨o, ho, hc⟩ => wpAny_bind (wpAny_isInstance ⟨o, ho, hc⟩ isSubtype_stop (wpAny_pure (hQ h' hk)))) (F.args_zip_next_1 _))))
def mH1 (h : Heap) (l1 : Addr) : Heap := h.push { cls := .type "list_iterator", data := .fields #[.ref l1, .int 0 0] }
def mH2 (h : Heap) (l1 l2 : Addr) : Heap := (mH1 h l1).push { cls := .type "tuple_iterator", data := .fields #[.ref l2, .int 0 0] }
def mH3 (h : Heap) (l1 l2 : Addr) : Heap := (mH2 h l1 l2).push { cls := .type "tuple", data := .seq #[.ref h.objs.size, .ref (mH1 h l1).objs.size] }
def mH4 (h : Heap) (l1 l2 : Addr) : Heap := (mH3 h l1 l2).push { cls := .type "tuple", data := .seq #[.none, .none] }
def mH5 (h : Heap) (l1 l2 : Addr) : Heap := (mH4 h l1 l2).push { cls := .type "zip", data := .fields #[.none, .bool false, .bool false, .ref (mH2 h l1 l2).objs.size, .ref (mH3 h l1 l2).objs.size] }
theorem meets_zipM_new (l1 l2 : Addr) (xs ys : Array Value) : Meets (Builtin.«zip.__new__» { pos := [.type "zip", .ref l1, .ref l2] }) fun x R s =>
    s.heap.IsList l1 xs ∧ s.heap.IsTuple l2 ys ∧ R (.ok (.ret (.ref (mH4 s.heap l1 l2).objs.size))) { s with heap := mH5 s.heap l1 l2 } :=
  Meets.of_wp fun prog w A R s h => by
    obtain ⟨hl1, hl2, h⟩ := h
    obtain ⟨hp, g, d, tk, os⟩ := s
    have hsub := sub_zip
    have hL1 := hl1
    have hL2 := hl2.push { cls := .type "list_iterator", data := .fields #[.ref l1, .int 0 0] }
    unfold Builtin.«zip.__new__»
    refine wpAny_bind ?_
    show wpAny _ _ (isType (.type "zip") >>= _) _ _ _
    refine wpAny_bind ?_
    refine wpAny_pure (wpAny_ite_false rfl (wpAny_bind (wpAny_of_eq hsub (wpAny_ite_false rfl (wpAny_pure ?_)))))
    refine wpAny_ite_false rfl ?_
    show wpAny _ _ (Builtin.SmallTypes.iterAll [.ref l1, .ref l2] >>= _) _ _ _
    refine wpAny_bind ?_
    show wpAny _ _ ((forIn [Value.ref l1, Value.ref l2] (#[] : Array Value) _) >>= _) _ _ _
    rw [List.forIn_cons]
    refine wpAny_bind (wpAny_bind (wpAny_bind (wpAny_holding (wpAny_pyIter_list hL1 (wpAny_pure ?_)))))
    show wpAny _ _ (forIn [Value.ref l2] _ _) _ _ _
    rw [List.forIn_cons]
    refine wpAny_bind (wpAny_bind (wpAny_holding (wpAny_pyIter_tuple hL2 (wpAny_pure ?_))))
    show wpAny _ _ (forIn [] _ _) _ _ _
    rw [List.forIn_nil]
    refine wpAny_pure (wpAny_pure ?_)
    refine wpAny_bind (wpAny_newTuple ?_ (by rw [sizeLine_eq]; show 2 ≤ 16777216; decide))
    refine wpAny_bind (wpAny_newTuple ?_ (by rw [sizeLine_eq]; show 2 ≤ 16777216; decide))
    refine wpAny_bind ?_
    unfold Builtin.SmallTypes.newRecord
    dsimp only
    refine wpAny_newObj_type ?_ (by show 5 ≤ sizeLine + 2; rw [sizeLine_eq]; decide)
    exact wpAny_pure ⟨_, rfl, h⟩
theorem call_zipM {prog : Program} {w : World} {A : Around} {E : Value → Shared → Prop} {s : Shared} {l1 l2 : Addr} {xs ys : Array Value} {Q : Value → Shared → Prop} (hl1 : s.heap.IsList l1 xs) (hl2 : s.heap.IsTuple l2 ys)
    (h : ∀ h' : Heap, IsZip h' (s.heap.objs.size + 4) (s.heap.objs.size + 2) (s.heap.objs.size + 3) .none → IsPair h' (s.heap.objs.size + 2) (.ref s.heap.objs.size) (.ref (s.heap.objs.size + 1)) → IsPair h' (s.heap.objs.size + 3) .none .none →
      h'.IsListIter s.heap.objs.size l1 0 → h'.IsTupleIter (s.heap.objs.size + 1) l2 0 → h'.objs.size = s.heap.objs.size + 5 → (∀ (c : Addr) (o : Obj), s.heap.get? c = some o → h'.get? c = some o) → Q (.ref (s.heap.objs.size + 4)) { s with heap := h' }) :
    wpAny (model prog w) A (call (.type "zip") [.ref l1, .ref l2]) Q E s := by
  have z1 : (mH1 s.heap l1).objs.size = s.heap.objs.size + 1 := Heap.size_push ..
  have z2 : (mH2 s.heap l1 l2).objs.size = s.heap.objs.size + 2 := (Heap.size_push ..).trans (by rw [z1])
  have z3 : (mH3 s.heap l1 l2).objs.size = s.heap.objs.size + 3 := (Heap.size_push ..).trans (by rw [z2])
  have z4 : (mH4 s.heap l1 l2).objs.size = s.heap.objs.size + 4 := (Heap.size_push ..).trans (by rw [z3])
  have z5 : (mH5 s.heap l1 l2).objs.size = s.heap.objs.size + 5 := (Heap.size_push ..).trans (by rw [z4])
  have k5 : ∀ c o, (mH4 s.heap l1 l2).get? c = some o → (mH5 s.heap l1 l2).get? c = some o := fun c o e => Heap.get?_push_of_some _ e
  have k4 : ∀ c o, (mH3 s.heap l1 l2).get? c = some o → (mH5 s.heap l1 l2).get? c = some o := fun c o e => k5 c o (Heap.get?_push_of_some _ e)
  have k3 : ∀ c o, (mH2 s.heap l1 l2).get? c = some o → (mH5 s.heap l1 l2).get? c = some o := fun c o e => k4 c o (Heap.get?_push_of_some _ e)
  have k2 : ∀ c o, (mH1 s.heap l1).get? c = some o → (mH5 s.heap l1 l2).get? c = some o := fun c o e => k3 c o (Heap.get?_push_of_some _ e)
  have k1 : ∀ c o, s.heap.get? c = some o → (mH5 s.heap l1 l2).get? c = some o := fun c o e => k2 c o (Heap.get?_push_of_some _ e)
  have g5 : (mH5 s.heap l1 l2).get? (mH4 s.heap l1 l2).objs.size = some { cls := .type "zip", data := .fields #[.none, .bool false, .bool false, .ref (mH2 s.heap l1 l2).objs.size, .ref (mH3 s.heap l1 l2).objs.size] } := Heap.get?_push_size _ rfl
  have g4 : (mH5 s.heap l1 l2).get? (mH3 s.heap l1 l2).objs.size = some { cls := .type "tuple", data := .seq #[.none, .none] } := k5 _ _ (Heap.get?_push_size _ rfl)
  have g3 : (mH5 s.heap l1 l2).get? (mH2 s.heap l1 l2).objs.size = some { cls := .type "tuple", data := .seq #[.ref s.heap.objs.size, .ref (mH1 s.heap l1).objs.size] } := k4 _ _ (Heap.get?_push_size _ rfl)
  have g2 : (mH5 s.heap l1 l2).get? (mH1 s.heap l1).objs.size = some { cls := .type "tuple_iterator", data := .fields #[.ref l2, .int 0 0] } := k3 _ _ (Heap.get?_push_size _ rfl)
  have g1 : (mH5 s.heap l1 l2).get? s.heap.objs.size = some { cls := .type "list_iterator", data := .fields #[.ref l1, .int 0 0] } := k2 _ _ (Heap.get?_push_size _ rfl)
  rw [z4, z2, z3] at g5
  rw [z3] at g4
  rw [z2, z1] at g3
  rw [z1] at g2
  refine callType_new F.called_zip (of_decide_eq_true rfl) (F.typeCall_zip_2 _ _) (F.newCall_zip_2 _ _) (fun obj => F.args_object_init_3 obj _ _) F.entry_zip_new (meets_zipM_new l1 l2 xs ys) ⟨hl1, hl2, ?_⟩
  show Shared.TypeIs { s with heap := mH5 s.heap l1 l2 } (.ref (mH4 s.heap l1 l2).objs.size) "zip" ∧ Q (.ref (mH4 s.heap l1 l2).objs.size) { s with heap := mH5 s.heap l1 l2 }
  rw [z4]
  exact ⟨⟨_, g5, rfl⟩, h _ g5 g3 g4 ⟨_, g1, rfl, rfl⟩ ⟨_, g2, rfl, rfl⟩ z5 k1⟩
def ItzM (K : PySem.W.Frag) (a b : Addr) : It :=
  ⟨fun i H => ∃ (xs ys : List V) (x y : V), SqL K H a xs ∧ SqT K H b ys ∧ xs[i]? = some x ∧ ys[i]? = some y,
   fun i H v H' => ∃ T x y, v = .ref T ∧ H T = none ∧ H' = upd H T (.tup [x, y]) ∧ (∀ xs, SqL K H a xs → xs[i]? = some x) ∧ ∀ ys, SqT K H b ys → ys[i]? = some y,
   fun i H => ∃ xs ys : List V, SqL K H a xs ∧ SqT K H b ys ∧ (xs.length ≤ i ∨ ys.length ≤ i)⟩
theorem turn_zipM {P : Program} {w : World} {K : PySem.W.Frag} {elts : List Expr} {kk : Nat} {tpos : Pos} {a b z TI TO i1 i2 : Addr} (D : ZipApart z TI TO i1 i2 a b) :
    Turn P w K (.Tuple elts kk tpos) (ItzM K a b) [z, TI, TO, i1, i2] z (fun i h => IsZip h z TI TO .none ∧ IsPair h TI (.ref i1) (.ref i2) ∧ (∃ x y, IsPair h TO x y) ∧ h.IsListIter i1 a i ∧ h.IsTupleIter i2 b i) where
  mem := by simp
  obj := fun i h st c hc => by
    obtain ⟨hz, hTI, ⟨x, y, hTO⟩, ⟨o1, e1, _, d1⟩, o2, e2, _, d2⟩ := st
    have e' : c = z ∨ c = TI ∨ c = TO ∨ c = i1 ∨ c = i2 := by simpa using hc
    rcases e' with q | q | q | q | q
    · rw [q]; exact ⟨_, hz, fun v q => nomatch q⟩
    · rw [q]; exact ⟨_, hTI, fun v q => nomatch q⟩
    · rw [q]; exact ⟨_, hTO, fun v q => nomatch q⟩
    · rw [q]; exact ⟨o1, e1, fun v q => by rw [d1] at q; cases q⟩
    · rw [q]; exact ⟨o2, e2, fun v q => by rw [d2] at q; cases q⟩
  keep := fun i h h' st k => by
    obtain ⟨hz, hTI, ⟨x, y, hTO⟩, ⟨o1, e1, t1, d1⟩, o2, e2, t2, d2⟩ := st
    exact ⟨k z (by simp) _ hz, k TI (by simp) _ hTI, ⟨x, y, k TO (by simp) _ hTO⟩, ⟨o1, k i1 (by simp) _ e1, t1, d1⟩, o2, k i2 (by simp) _ e2, t2, d2⟩
  item := by
    intro X hP hw hK hc i pins s σ H E I hf st hg
    subst hP hw hK
    obtain ⟨hz, hTI, ⟨x0, y0, hTO⟩, h1, h2⟩ := st
    obtain ⟨xs, ys, x, y, hqx, hqy, hx, hy⟩ := hg
    obtain ⟨its, rv, p, hzs⟩ := I.list hqx
    obtain ⟨its2, rv2, p2, hzs2⟩ := I.tuple hqy
    obtain ⟨u, hu, ru⟩ := rv.get hx
    obtain ⟨u2, hu2, ru2⟩ := rv2.get hy
    refine pyNext_zipM_item D hz hTI hTO h1 h2 p.isList (show s.heap.IsTuple b its2.toArray from p2) (by simpa using hu) (by simpa using hu2) fun h' a1 a2 a3 a4 a5 a6 a7 => ?_
    refine ⟨_, rfl, wpAny_letOwnedTupleGo_zip (s := { s with heap := h' }) a1 fun h'' hz2 sb => ?_⟩
    have old : ∀ c : Addr, c ∈ [z, TI, TO, i1, i2] → c < s.heap.objs.size := fun c hc => by
      have e' : c = z ∨ c = TI ∨ c = TO ∨ c = i1 ∨ c = i2 := by simpa using hc
      rcases e' with q | q | q | q | q
      · rw [q]; exact Heap.lt_size hz
      · rw [q]; exact Heap.lt_size hTI
      · rw [q]; exact Heap.lt_size hTO
      · rw [q]; obtain ⟨_, e, _⟩ := h1; exact Heap.lt_size e
      · rw [q]; obtain ⟨_, e, _⟩ := h2; exact Heap.lt_size e
    have hzn : s.heap.objs.size ≠ z := Nat.ne_of_gt (old z (by simp))
    have hT2 : h''.get? s.heap.objs.size = some { cls := .type "tuple", data := .seq #[u, u2] } := (sb.2 _ hzn).trans a5
    have new : ObjOk X.prog X.w (upd H s.heap.objs.size (.tup [x, y])) h'' s.heap.objs.size (.tup [x, y]) :=
      ⟨by show 2 ≤ sizeLine; decide, [u, u2], .cons ru (.cons ru2 .nil), ⟨_, hT2, rfl, _, rfl⟩⟩
    have I1 : Inv X pins σ (upd H s.heap.objs.size (.tup [x, y])) { s with heap := h'' } :=
      I.turnedNew (t' := s.toks) (ch := [z, TI, TO, i1, i2]) (fun c ob hb q => (sb.2 c (fun e => hb (by simp [e]))).trans (a7 c ob (fun e => hb (by simp [e])) (fun e => hb (by simp [e])) (fun e => hb (by simp [e])) (fun e => hb (by simp [e])) q)) hf (Nat.le_refl _) new
    have kp : ∀ c o, c ≠ z → h'.get? c = some o → h''.get? c = some o := fun c o hc e => (sb.2 c hc).trans e
    have hTI' : h'.get? TI = some { cls := .type "tuple", data := .seq #[.ref i1, .ref i2] } := a7 TI _ D.TIz D.TITO D.TIi1 D.TIi2 hTI
    refine ⟨.ref s.heap.objs.size, _, I1, rfl, ⟨_, x, y, rfl, I.hok.fresh (Nat.le_refl _), rfl, fun zs hz => by rw [I.list_inj hz hqx]; exact hx, fun zs hz => by rw [I.tuple_inj hz hqy]; exact hy⟩, ⟨hz2, kp _ _ D.TIz hTI', ⟨_, _, kp _ _ D.TOz a2⟩, ?_, ?_⟩, fun c hc => ?_⟩
    · obtain ⟨o, e, t, d⟩ := a3
      exact ⟨o, kp _ _ D.i1z e, t, d⟩
    · obtain ⟨o, e, t, d⟩ := a4
      exact ⟨o, kp _ _ D.i2z e, t, d⟩
    · rw [upd_ne (Nat.ne_of_lt (old c hc))]
      exact (hf c hc).1
  done := by
    intro X hP hw hK hc i pins s σ H E I hf st hg
    subst hP hw hK
    obtain ⟨hz, hTI, ⟨x0, y0, hTO⟩, h1, h2⟩ := st
    obtain ⟨xs, ys, hqx, hqy, hend⟩ := hg
    obtain ⟨its, rv, p, hzs⟩ := I.list hqx
    obtain ⟨its2, rv2, p2, hzs2⟩ := I.tuple hqy
    have l1 := rv.length
    have l2 := rv2.length
    have he : its.toArray[i]? = none ∨ its2.toArray[i]? = none := by
      rcases hend with q | q
      · left; simp; omega
      · right; simp; omega
    exact pyNext_zipM_end (I.ok.hd hc) D hz hTI hTO h1 h2 p.isList (show s.heap.IsTuple b its2.toArray from p2) he fun h' hk => ⟨rfl, I.turnedL (t' := s.toks) (fun c o hb q => hk c o (fun e => hb (by simp [e])) (fun e => hb (by simp [e])) (fun e => hb (by simp [e])) (fun e => hb (by simp [e])) q) hf⟩
  self := fun A i s Q E st h => wpAny_pyIter_zip st.1 h
def iZipM (K : PySem.W.Frag) (ta : TA) : TI := fun σ H R => ta σ H fun vs H1 => ∃ a b xs ys, vs = [.ref a, .ref b] ∧ SqL K H1 a xs ∧ SqT K H1 b ys ∧ R (ItzM K a b) H1
theorem pi_zipM {X : Cx} {e e2 : Expr} {ta : TA} {p pos tpos : Pos} {elts : List Expr} {kk : Nat} (hg : Gl X "zip") (hm : X.mg "zip" = none) (ha : PA X [e, e2] ta) (hs : starEach [e, e2] X.env = (false, eval e X.env) :: starEach [e2] X.env := by rfl) (hpl : (backTo pos (starEach [e2] X.env)).any (·.1) = false := by rfl) :
    PI X (.Tuple elts kk tpos) (.Call (.Name "zip" p) [e, e2] [] pos) (iZipM X.K ta) := by
  refine ⟨fun pins s σ H R I h => ?_⟩
  refine Call_ (ld_blt I hg hm boot_zip ?_)
  refine PyProof.Rows.callWith_type1 (thn (ha.run pos pins s σ H _ I h) fun us s1 ⟨vs, H1, I1, r1, a, b, xs, ys, ex, hqx, hqy, q⟩ => ?_) hs hpl
  subst ex
  cases r1 with
  | cons r r1 =>
  cases r1 with
  | cons r' r1 =>
  cases r1
  cases r
  cases r'
  obtain ⟨its, rv, p1, hzs⟩ := I1.list hqx
  obtain ⟨its2, rv2, p2, hzs2⟩ := I1.tuple hqy
  have hp2 : s1.heap.IsTuple b its2.toArray := p2
  have ha1 : a < s1.heap.objs.size := by obtain ⟨_, e, _⟩ := id p1.isList; exact Heap.lt_size e
  have hb1 : b < s1.heap.objs.size := by obtain ⟨_, e, _⟩ := id hp2; exact Heap.lt_size e
  refine call_zipM p1.isList hp2 fun h' z1 z2 z3 z4 z5 z6 z7 => ?_
  have I2 : Inv X pins σ H1 { s1 with heap := h' } := I1.kept (t' := s1.toks) z7
  have D : ZipApart (s1.heap.objs.size + 4) (s1.heap.objs.size + 2) (s1.heap.objs.size + 3) s1.heap.objs.size (s1.heap.objs.size + 1) a b := by
    have ha2 : @LT.lt Nat _ a s1.heap.objs.size := ha1
    have hb2 : @LT.lt Nat _ b s1.heap.objs.size := hb1
    constructor <;> (intro hh; have hh : @Eq Nat _ _ := hh; omega)
  refine wpAny_pyIter_zip z1 ?_
  refine ⟨s1.heap.objs.size + 4, [s1.heap.objs.size + 4, s1.heap.objs.size + 2, s1.heap.objs.size + 3, s1.heap.objs.size, s1.heap.objs.size + 1], _, _, H1, rfl, I2, turn_zipM D, ⟨z1, z2, ⟨_, _, z3⟩, z4, z5⟩, fun c hc => ?_, q⟩
  have e' : c = s1.heap.objs.size + 4 ∨ c = s1.heap.objs.size + 2 ∨ c = s1.heap.objs.size + 3 ∨ c = s1.heap.objs.size ∨ c = s1.heap.objs.size + 1 := by simpa using hc
  have hle : s1.heap.objs.size ≤ c := by
    rcases e' with q | q | q | q | q <;> (rw [q]; first | exact Nat.le_add_right _ _ | exact Nat.le_refl _)
  exact I1.fpOk hle (I1.hok.fresh hle)
end ZM
/-! AB72: for x, y in zip(list, tuple), range(a, b, c), what is never looked at -/
namespace AB
open PySem PySem.Spec PyProof.Rows L2
section
variable {X : Cx} {W : WR} {pos : Pos} {e e2 tg : Expr}
/-- an expression that the proof never comes to -/
def eBad : EF := fun _ _ => .bad
theorem ae_never : AE X W e eBad := ⟨fun pins s σ H Q I q => by
  obtain ⟨τ, M, ρ, rs, rm, r⟩ := q
  exact r.elim⟩
theorem srcJ_zpl {w : Amb} {ρ : List Addr} {H : Hp} {l : Nat} {a b : Addr} {ys : List A} {ws : List V} (ha : ρ[l]? = some a) (hb : H b = some (.tup ws)) (iw : IsAll ρ H ys ws) : SrcJ w ρ H (.zpl l ys) (ZM.ItzM w.K a b) := by
  intro ρ2 H2 M2 i x g m
  cases el : listAt M2 l with
  | none => simp only [Src.at, el]; trivial
  | some xs =>
    obtain ⟨vs, q, is⟩ := m.list (x.get ha) el
    have q2 : SqT w.K H2 b ws := .inl (.inl (g _ _ (.tup _) hb))
    simp only [Src.at, el, Option.map_some]
    cases e1 : xs[i]? with
    | none => exact ⟨vs, ws, q, q2, .inl (by rw [← is.length]; exact List.getElem?_eq_none_iff.mp e1)⟩
    | some t =>
      cases e3 : ys[i]? with
      | none => exact ⟨vs, ws, q, q2, .inr (by rw [← iw.length]; exact List.getElem?_eq_none_iff.mp e3)⟩
      | some u =>
        obtain ⟨v, hv, iv⟩ := is.get e1
        obtain ⟨v2, hv2, iv2⟩ := iw.get e3
        refine ⟨⟨vs, ws, v, v2, q, q2, hv, hv2⟩, fun w H3 ⟨T, y, y2, k1, hT, k2, hy, hy2⟩ => ?_⟩
        have a1 := hy vs q
        rw [hv] at a1
        obtain rfl := Option.some.inj a1
        have a2 := hy2 ws q2
        rw [hv2] at a2
        obtain rfl := Option.some.inj a2
        subst k1 k2
        exact ⟨.new hT, m.new hT, .tup upd_same (.cons (iv.mono (.refl _) (.new hT)) (.cons ((iv2.mono x g).mono (.refl _) (.new hT)) .nil))⟩
def zipOf (as : List A) (M : Store) : EO Src := match as with
  | [.lst l, .tup ys] => match listAt M l with
    | some _ => .ok (.zpl l ys) M
    | none => .bad
  | _ => .bad
def iZipA (fs : EFs) : EI := fun τ M => (fs τ M).bind zipOf
theorem ai_zipM {fs : EFs} {p tpos : Pos} {elts : List Expr} {kk : Nat} (hm : X.mg "zip" = none) (ha : AA X W [e, e2] fs) (hg : Gl X "zip" := by rfl) (hs : starEach [e, e2] X.env = (false, eval e X.env) :: starEach [e2] X.env := by rfl) (hpl : (backTo pos (starEach [e2] X.env)).any (·.1) = false := by rfl) :
    AI X W (.Tuple elts kk tpos) (.Call (.Name "zip" p) [e, e2] [] pos) (iZipA fs) := (ZM.pi_zipM hg hm ha hs hpl).pre fun σ H R h => by
  refine (seqG IsAll h).imp fun vs H1 h1 => ?_
  obtain ⟨τ, M, ρ, as, rs, rm, i, r⟩ := h1
  dsimp only [zipOf] at r
  split at r
  · rename_i l ys
    split at r
    · rename_i xs el
      cases i with
      | cons i1 i =>
        cases i with
        | cons i2 i =>
          cases i
          cases i1 with
          | lst hl =>
            cases i2 with
            | tup hb iw =>
              obtain ⟨vs, q, is⟩ := rm.list hl el
              exact ⟨_, _, _, _, rfl, q, .inl (.inl hb), r.okv (.refl _) (.refl _) rm (srcJ_zpl hl hb iw)⟩
    · exact r.elim
  · exact r.elim
/-! ### range(a, b, c) -/
def stepsA (i c : Int) (n : Nat) : List A := (List.range n).map fun k => A.int (i + (k : Nat) * c)
theorem stepsA_get (i c : Int) (n k : Nat) : (stepsA i c n)[k]? = if k < n then some (.int (i + (k : Nat) * c)) else none := by
  unfold stepsA
  rw [List.getElem?_map]
  by_cases h : k < n
  · rw [List.getElem?_range h, if_pos h]; rfl
  · rw [List.getElem?_eq_none (by rw [List.length_range]; omega), if_neg h]; rfl
def rngOf3 (as : List A) (M : Store) : EO Src := match as with
  | [.int i, .int j, .int c] => if c ≠ 0 ∧ c.natAbs < 1073741824 ∧ Builtin.Range.small i j c = true ∧ 0 ≤ Builtin.Range.rangeSize i j c then .ok (.snap (stepsA i c (Builtin.Range.rangeSize i j c).toNat)) M else .bad
  | _ => .bad
def iRng3A (fs : EFs) : EI := fun τ M => (fs τ M).bind rngOf3
theorem srcJ_steps {w : Amb} {ρ : List Addr} {H : Hp} {i c : Int} {n : Nat} : SrcJ w ρ H (.snap (stepsA i c n)) (Itc i c n) := by
  intro ρ2 H2 M2 k x g m
  simp only [Src.at, stepsA_get]
  by_cases h : k < n
  · rw [if_pos h]
    refine ⟨h, fun w H3 ⟨e1, e2⟩ => ?_⟩
    subst e1 e2
    exact ⟨.refl _, m, .int _⟩
  · rw [if_neg h]
    exact Nat.le_of_not_lt h
theorem ai_rng3 {a b c : Expr} {fs : EFs} {p : Pos} (hm : X.mg "range" = none) (ha : AA X W [a, b, c] fs) (hg : Gl X "range" := by rfl) (hs : starEach [a, b, c] X.env = (false, eval a X.env) :: starEach [b, c] X.env := by rfl) (hs2 : (backTo pos (starEach [b, c] X.env)).any (·.1) = false := by rfl) : AI X W tg (.Call (.Name "range" p) [a, b, c] [] pos) (iRng3A fs) :=
  (pi_range3 hg hm ha hs hs2).pre fun σ H R h => by
    refine (seqG IsAll h).imp fun vs H1 h1 => ?_
    obtain ⟨τ, M, ρ, as, rs, rm, i, r⟩ := h1
    dsimp only [rngOf3] at r
    split at r
    · rename_i i' j' c'
      split at r
      · rename_i hz
        cases i with
        | cons i1 i =>
          cases i with
          | cons i2 i =>
            cases i with
            | cons i3 i =>
              cases i; cases i1; cases i2; cases i3
              exact ⟨_, _, _, (Builtin.Range.rangeSize i' j' c').toNat, rfl, ⟨hz.1, hz.2.1, hz.2.2.1, (Int.toNat_of_nonneg hz.2.2.2).symm⟩, r.okv (.refl _) (.refl _) rm srcJ_steps⟩
      · exact r.elim
    · exact r.elim
end
/-! ### a statement that changes nothing that is old -/
open Classical in
noncomputable def gtO (τ : Sl) (M : Store) : SO → SO
  | .nx τ' M' => if M'.take M.length = M ∧ τ' = τ then .nx τ M else .bad
  | _ => .bad
noncomputable def gtS (f : SF) : SF := fun τ M => gtO τ M (f τ M)
section
variable {X : Cx} {W : WR}
theorem ass_gt {st : Stmt} {rest : List Stmt} {f t : SF} (h1 : AS X W st f) (h2 : ASs X W rest t) : ASs X W (st :: rest) (sSeq (gtS f) t) := (pss_cons h1 h2).pre fun D σ H h => by
  obtain ⟨τ, M, ρ, rs, rm, r⟩ := h
  refine ⟨τ, M, ρ, rs, rm, ?_⟩
  have r : RSO (X.gx W.Tb) W D ρ H (match gtO τ M (f τ M) with
    | .nx τ1 M1 => t τ1 M1
    | o => o) := r
  cases e : f τ M with
  | nx τ' M' =>
    rw [e] at r
    unfold gtO at r
    dsimp only at r
    by_cases hM : M'.take M.length = M ∧ τ' = τ
    · rw [if_pos hM] at r
      obtain ⟨hM, rfl⟩ := hM
      intro σ1 H1 ρ1 x g m i
      exact ⟨_, M, ρ, ⟨rs.ext, i.grow, rs.s.back x i.s⟩, rm.back x m hM, RSO.mono r (.refl _) g⟩
    · rw [if_neg hM] at r
      exact r.elim
  | _ => rw [e] at r; exact r.elim
end
def gtV (M : Store) : SO → Option (Sl × Store)
  | .nx τ' M' => some (τ', M'.take M.length)
  | _ => none
theorem gt_v {f : SF} {τ : Sl} {M : Store} (h : gtV M (f τ M) = some (τ, M)) : gtS f τ M = .nx τ M := by
  unfold gtS
  generalize f τ M = o at h
  cases o with
  | nx τ' M' =>
    injection h with h
    injection h with h1 h2
    unfold gtO
    dsimp only
    rw [if_pos ⟨h2, h1⟩]
  | _ => cases h
end AB
/-! AB73: {k: v for ..}, where a key may come again -/
namespace AB
open PySem PySem.Spec PyProof.Rows L2
section
variable {X : Cx} {W : WR} {pos : Pos} {a b : Expr} {f g : EF} {pins : List (Addr × Obj)} {σ : L2.St} {H : Hp} {s : Shared} {ρ : List Addr} {M M' : Store} {E : Value → Shared → Prop}
theorem n_putS {l : Nat} {p : Addr} {k y : A} {kv yv : V} {u1 u2 : Value} {Q : Unit → Shared → Prop} (hu : X.A.units + 9 < cLine) (I : L2.Inv X pins σ H s) (m : RM (X.am W.Tb) ρ H M) (hp : ρ[l]? = some p) (ik : Is ρ H k kv) (iy : Is ρ H y yv) (rk : RelV kv u1) (ry : RelV yv u2)
    (e : nSto M l k y = some M') (q : ∀ H' s', L2.Inv X pins σ H' s' → Grow H H' → RM (X.am W.Tb) ρ H' M' → Q () s') : wpAny (model X.prog X.w) X.A (dictSet p u1 u2) Q E s := by
  obtain ⟨kb, xs, js, rfl, hk', D', hz, fin⟩ := n_sto (A0 := X.A) (F := fun H' s' => Q () s') I m hp ik iy rk ry e fun H' s' I' g' m' => q H' s' I' g' m'
  refine wpAny_dictSet_heap (hsz := hz) (by show X.A.units + 8 < cLine; omega) hk' D' fun h' D2 sb => ?_
  obtain ⟨_, q⟩ := fin h' D2 sb
  exact q
/-! ### {k: v for .. in ..} -/
def dcS (src : Src) (t : Tgt) (ft : EFb) (fk fe : EF) (l : Nat) (τ : Sl) : Nat → Nat → Store → EO A
  | 0, _, _ => .bad
  | n + 1, i, M => match src.at M i with
    | none => .bad
    | some none => .ok (.dct l) M
    | some (some x) => match t.set x τ with
      | none => .bad
      | some τ1 => match ft τ1 M with
        | .ok true M1 => match fk τ1 M1 with
          | .ok k M2 => match fe τ1 M2 with
            | .ok y M3 => match nSto M3 l k y with
              | some M4 => dcS src t ft fk fe l τ n (i + 1) M4
              | none => .bad
            | _ => .bad
          | _ => .bad
        | .ok false M1 => dcS src t ft fk fe l τ n (i + 1) M1
        | _ => .bad
def eDcS (fi : EI) (t : Tgt) (ft : EFb) (fk fe : EF) (own : List Nat) : EF := fun τ M => (fi τ M).bind fun src M1 => dcS src t ft fk fe M1.length (wipeA τ own) (src.size M1) 0 (M1 ++ [.dN []])
theorem dc_core_s (own : List (Str × Nat)) {kx vx tg iter : Expr} {ifs : List Expr} {scope : Scope} {fi : EI} {t : Tgt} {ft : EFb} {fk fe : EF} {pos' : Pos} {use : Option (Value → Sem Unit)} {Qf : Value → Shared → Prop} {Q : VK} (hu : X.A.units + 9 < cLine) (hc : X.calm = true) (hN : X.N.Nodup) (ok : BlkOk X.N X.env.scope scope own) (ho : ∀ i ∈ t.own, i ∈ own.map (·.2)) (hi : AI X W tg iter fi)
    (hg : ∀ (s : Shared) (H : Hp) (C : Addr) (cl : List (Str × Addr)) (fp : List Addr), AG (X.blk s H scope (compEnvC scope cl C X.env) fp) tg t) (ht : ∀ (s : Shared) (H : Hp) (C : Addr) (cl : List (Str × Addr)) (fp : List Addr), ATs (X.blk s H scope (compEnvC scope cl C X.env) fp) W.nx ifs ft)
    (hk : ∀ (s : Shared) (H : Hp) (C : Addr) (cl : List (Str × Addr)) (fp : List Addr), AE (X.blk s H scope (compEnvC scope cl C X.env) fp) W.nx kx fk)
    (he : ∀ (s : Shared) (H : Hp) (C : Addr) (cl : List (Str × Addr)) (fp : List Addr), AE (X.blk s H scope (compEnvC scope cl C X.env) fp) W.nx vx fe) (hs : ∀ x, foldedSetIterable iter X.env x = pure x)
    (I : L2.Inv X pins σ H s) (h : tG (X.gx W.Tb) W Is (eDcS fi t ft fk fe (own.map (·.2))) σ H Q)
    (hend : ∀ D C s' m H', L2.Inv X pins σ H' s' → Q (.ref D) H' → s'.heap.Ns C m → FpOk X pins H' C → compPost (model X.prog X.w) X.A X.xe use Qf (.ref D) C (.ok .next) s') :
    wpAny (model X.prog X.w) X.A (comprehension (.DictComp kx vx [⟨tg, iter, ifs, 0⟩] scope pos) scope X.env pos' newDict false (eval iter X.env) use) Qf X.xe s := by
  have fr : ∀ y ∈ scope.names, y.2 = .free → ∃ c, X.env.cells.lookup y.1 = some c := by
    intro y hy e
    exact (ok.free y hy e).elim (fun k => I.ok.has _ (.inl k)) fun k => I.ok.has _ (.inr k)
  refine wpAny_comprehension_free (use := use) rfl hs (closure_ok fr) ok.kind (fun y hy e => by rw [ok.uniq y hy, e]) (thn (hi.run pins s σ H _ I (seqG (relJ (X.am W.Tb)) h)) fun xv s1 hx => thn hx fun itv s2 h2 => ?_)
  obtain ⟨it, fp, tn, J, H2, rfl, I2, T, st2, f2, τ, M, ρ, src, rs, rm, ij, r⟩ := h2
  refine wpAny_newObj_type (newEnv_comp ?_)
  -- the new dict
  generalize hD : s2.heap.objs.size = D
  have nD : H2 D = none := I2.hok.fresh (Nat.le_of_eq hD)
  have big : s2.heap.objs.size ≠ sysModules := Ne.symm (Nat.ne_of_lt I2.big)
  generalize hz : ({ s2 with heap := s2.heap.push { cls := .type "dict", data := .dict #[] } } : Shared) = z
  have hzh : z.heap = s2.heap.push { cls := .type "dict", data := .dict #[] } := by rw [← hz]
  have I3 : L2.Inv X pins σ (upd H2 D (nestO X.w D [] [])) z := by
    subst hz hD
    refine I2.laid (a := s2.heap.objs.size) (t' := s2.toks) (fun _ _ q => Heap.get?_push_of_some _ q) (Nat.le_refl _) ⟨⟨Nat.zero_le _, beq_eq_false_iff_ne.mpr big, rfl, List.nodup_nil, [], .nil, _, #[], 0, Heap.get?_push_size _ rfl, ⟨rfl, rfl, rfl⟩, rfl, rfl⟩, ⟨_, Heap.get?_push_size _ rfl⟩, ?_⟩
    rintro h1 h2 ⟨q1, q2, q3, q4, us, q5, o, es, ep, q6, q7⟩ k
    exact ⟨q1, q2, q3, q4, us, q5, o, es, ep, k o q6, q7⟩
  generalize hG : upd H2 D (nestO X.w D [] []) = G at I3
  have g0 : Grow H2 G := by subst hG; exact .new nD
  have m0 : RM (X.am W.Tb) (ρ ++ [D]) G (M ++ [.dN []]) := by
    subst hG
    exact rm.push nD ⟨[], [], upd_same, .nil, .nil, fun _ z => by cases z⟩
  have hl0 : (ρ ++ [D])[M.length]? = some D := by rw [← rm.len]; simp
  have old : ∀ b ∈ fp, b < s2.heap.objs.size := fun b hb => by
    obtain ⟨o, e, _⟩ := T.obj _ _ st2 b hb
    exact Heap.lt_size e
  have fG : ∀ b ∈ fp, FpOk X pins G b ∧ b < z.heap.objs.size := fun b hb => by
    refine ⟨⟨?_, (f2 b hb).2⟩, by rw [hzh, Heap.size_push]; exact Nat.lt_succ_of_lt (old b hb)⟩
    rw [← hG, upd_ne (by rw [← hD]; exact Nat.ne_of_lt (old b hb))]
    exact (f2 b hb).1
  have I4 := block_start I3 ok hN fG
  have stz : tn 0 z.heap := T.keep _ _ _ st2 fun b _ o e => by rw [hzh]; exact Heap.get?_push_of_some _ e
  have ag := hg z G z.heap.objs.size (cellsFrom (z.heap.objs.size + 1) scope.names (cloFrom X.env.cells scope.names [])) fp
  have at' := ht z G z.heap.objs.size (cellsFrom (z.heap.objs.size + 1) scope.names (cloFrom X.env.cells scope.names [])) fp
  have ak := hk z G z.heap.objs.size (cellsFrom (z.heap.objs.size + 1) scope.names (cloFrom X.env.cells scope.names [])) fp
  have av := he z G z.heap.objs.size (cellsFrom (z.heap.objs.size + 1) scope.names (cloFrom X.env.cells scope.names [])) fp
  show codeAny _ _ (.compStart (.DictComp kx vx [⟨tg, iter, ifs, 0⟩] scope pos) 0 (.ref it) (.ref D) (compEnvC scope (cellsFrom (z.heap.objs.size + 1) scope.names (cloFrom X.env.cells scope.names [])) z.heap.objs.size X.env)) (compPost (model X.prog X.w) X.A X.xe use Qf (.ref D) z.heap.objs.size) { z with heap := pushCells (z.heap.push { cls := .type "dict", data := .dict #[] }) scope.names }
  generalize hce : compEnvC scope (cellsFrom (z.heap.objs.size + 1) scope.names (cloFrom X.env.cells scope.names [])) z.heap.objs.size X.env = ce at I4 ag at' ak av ⊢
  have ceL : ce.locals = z.heap.objs.size := by subst hce; rfl
  generalize hy : ({ z with heap := pushCells (z.heap.push { cls := .type "dict", data := .dict #[] }) scope.names } : Shared) = y at I4 ⊢
  have sty : tn 0 y.heap := T.keep _ _ _ stz fun b _ o e => by rw [← hy]; exact pushCells_keeps _ _ _ _ (Heap.get?_push_of_some _ e)
  have nG : ∀ b ∈ fp, G b = none := fun b hb => (fG b hb).1.1
  have r : RE (X.gx W.Tb) W σ ρ H2 Is (dcS src t ft fk fe M.length (wipeA τ (own.map (·.2))) (src.size M) 0 (M ++ [.dN []])) Q := r
  generalize hM : M.length = l at r hl0
  generalize M ++ [Cell.dN []] = M0 at r m0
  have fpo : ∀ {σ' : L2.St} {H' : Hp} {s' : Shared}, L2.Inv (X.blk z G scope ce fp) [] σ' H' s' → (∀ b ∈ fp, H' b = none) → ∀ b ∈ fp, FpOk (X.blk z G scope ce fp) [] H' b := by
    intro σ' H' s' I' hn b hb
    refine ⟨hn b hb, (I'.ok.exf b hb).1, I'.ok.exfs b hb, .inl hb, fun x c e => (I'.ok.exf b hb).2 x c e, fun p hp => ?_⟩
    exact absurd (show p ∈ ([] : List (Addr × Obj)) ++ [] from hp) (by simp)
  have loop : codeAny (model X.prog X.w) X.A (.compLoop (.DictComp kx vx [⟨tg, iter, ifs, 0⟩] scope pos) 0 (.ref it) (.ref D) ce) (compPost (model X.prog X.w) X.A X.xe use Qf (.ref D) z.heap.objs.size) y := by
    refine compLoop_anyD (fun n s' => ∃ i H' M' ρ', L2.Inv (X.blk z G scope ce fp) [] (L2.wipe σ (own.map (·.2))) H' s' ∧ tn i s'.heap ∧ (∀ b ∈ fp, H' b = none) ∧ Ext (ρ ++ [D]) ρ' ∧ Grow H2 H' ∧ RM (X.am W.Tb) ρ' H' M' ∧ RE (X.gx W.Tb) W σ ρ' H' Is (dcS src t ft fk fe l (wipeA τ (own.map (·.2))) n i M') Q)
      ?_ (src.size M) ⟨0, G, M0, ρ ++ [D], I4, sty, nG, .refl _, g0, m0, RE.mono r (.snoc _ _) g0⟩
    rintro n s5 ⟨i, H5, M5, ρ5, I5, st5, n5, x5, g5, m5, r5⟩
    have xx : Ext ρ ρ5 := (Ext.snoc ρ D).trans x5
    cases n with
    | zero => exact r5.elim
    | succ n =>
      unfold dcS at r5
      have jj := ij ρ5 H5 M5 i xx g5 m5
      cases ea : src.at M5 i with
      | none => rw [ea] at r5; exact r5.elim
      | some o =>
        cases o with
        | none =>
          rw [ea] at r5 jj
          have td := T.done (X.blk z G scope ce fp) rfl rfl rfl hc i [] s5 _ H5 (fun _ _ => False) I5 (fpo I5 n5) st5 jj
          refine thnF td fun rr s6 ⟨hr, I6⟩ => ?_
          subst hr
          have I7 : L2.Inv X pins σ H5 s6 := I3.call' (ch := fp) I6.os I6.base I6.hok I6.bare fun b hb => by
            obtain ⟨⟨f0, f1, f2, f3, f4, f5⟩, _⟩ := fG b hb
            exact ⟨f3, f1, f4, f5⟩
          have nC : H5 z.heap.objs.size = none := by
            have q : H5 ce.locals = none := I6.free
            rwa [ceL] at q
          obtain ⟨mm, hn, _⟩ := I6.loc
          have hn : s6.heap.Ns ce.locals mm := hn
          rw [ceL] at hn
          exact hend D z.heap.objs.size s6 mm H5 I7 (RE.okv (a := A.dct l) (M := M5) (rel := Is) r5 (.refl _) (.refl _) m5 (.dct (x5.get hl0))) hn (I3.fpOk (Nat.le_refl _) nC)
        | some a =>
          rw [ea] at r5 jj
          obtain ⟨go, yy⟩ := jj
          dsimp only at r5
          have ti := T.item (X.blk z G scope ce fp) rfl rfl rfl hc i [] s5 _ H5 (fun _ _ => False) I5 (fpo I5 n5) st5 go
          refine thnF ti fun rr s6 ⟨u, hr, h6⟩ => ?_
          subst hr
          refine thnF h6 fun _ s7 ⟨x, H7, I7, r7, y7, st7, n7⟩ => ?_
          obtain ⟨g7, m7, ia⟩ := yy x H7 y7
          have P7 := I7.pinned (fpo I7 n7) (T.obj _ _ st7)
          have g57 := g5.trans g7
          cases et : t.set a (wipeA τ (own.map (·.2))) with
          | none => rw [et] at r5; exact r5.elim
          | some τ1 =>
            rw [et] at r5
            dsimp only at r5
            have r5 := RE.mono r5 (.refl _) g7
            refine thnF (ag.run _ s7 _ H7 x u (fun σ1 H' => H' = H7 ∧ RS W.nx ρ5 H7 τ1 σ1 ∧ L2.wipe σ1 (own.map (·.2)) = L2.wipe σ (own.map (·.2))) P7 r7 ?_) fun _ s8 ⟨σ1, H8, I8, e8, rs1, ew⟩ => ?_
            · refine ⟨a, wipeA τ (own.map (·.2)), ρ5, τ1, ia, ((rs.mono xx g57).wipe _).s, et, fun σ1 q1 sb => ⟨rfl, ⟨(rs.mono xx g57).ext, (rs.mono xx g57).grow, q1⟩, ?_⟩⟩
              rw [sb.wipe ho]
              exact wipe_wipe σ _
            subst e8
            -- a turn's end
            have fin : ∀ {s' : Shared} {H' : Hp} {M' : Store} {ρ' : List Addr}, L2.Inv (X.blk z G scope ce fp) ([] ++ pinsAt fp s7.heap) σ1 H' s' → Ext (ρ ++ [D]) ρ' → Grow H2 H' → RM (X.am W.Tb) ρ' H' M' → RE (X.gx W.Tb) W σ ρ' H' Is (dcS src t ft fk fe l (wipeA τ (own.map (·.2))) n (i + 1) M') Q →
                ∃ m, m < n + 1 ∧ ∃ i H' M' ρ', L2.Inv (X.blk z G scope ce fp) [] (L2.wipe σ (own.map (·.2))) H' s' ∧ tn i s'.heap ∧ (∀ b ∈ fp, H' b = none) ∧ Ext (ρ ++ [D]) ρ' ∧ Grow H2 H' ∧ RM (X.am W.Tb) ρ' H' M' ∧ RE (X.gx W.Tb) W σ ρ' H' Is (dcS src t ft fk fe l (wipeA τ (own.map (·.2))) m i M') Q := by
              intro s' H' M' ρ' I' x' g' m' r'
              have pin' : ∀ b ∈ fp, ∀ o, s7.heap.get? b = some o → s'.heap.get? b = some o ∧ H' b = none := fun b hb o e => by
                have q := I'.pin (b, o) (List.mem_append_right _ (List.mem_append_right _ (mem_pinsAt hb e)))
                exact ⟨q.1, q.2.1⟩
              refine ⟨n, Nat.lt_succ_self n, i + 1, H', M', ρ', (I'.unpinned (pins := [])).weak (by rw [← ew, wipe_length]) (fun j v e => ?_), T.keep _ _ _ st7 (fun b hb o e => (pin' b hb o e).1), fun b hb => ?_, x', g', m', r'⟩
              · rw [← ew] at e
                exact (wipe_some e).1
              · obtain ⟨o, e, _⟩ := T.obj _ _ st7 b hb
                exact (pin' b hb o e).2
            refine thnF (at'.run _ s8 σ1 H8 (fun k H' => ∃ M' ρ', ft τ1 M5 = .ok k M' ∧ Ext ρ5 ρ' ∧ Grow H8 H' ∧ RM (X.am W.Tb) ρ' H' M') I8 ?_) fun k s9 ⟨H9, I9, M9, ρ9, e9, x9, g9, m9⟩ => ?_
            · refine ⟨τ1, M5, ρ5, rs1, m7, ?_⟩
              cases e1 : ft τ1 M5 with
              | ok k M1 =>
                intro k' H' ρ' x g m ik
                have ik : k = k' := ik
                subst ik
                exact ⟨M1, ρ', rfl, x, g, m⟩
              | ex en M1 => rw [e1] at r5; exact r5.elim
              | bad => rw [e1] at r5; exact r5.elim
            rw [e9] at r5
            cases k with
            | false =>
              simp only [Bool.false_eq_true, if_false]
              dsimp only at r5
              exact fin I9 (x5.trans x9) (g57.trans g9) m9 (RE.mono r5 x9 g9)
            | true =>
              simp only [if_true]
              dsimp only at r5
              refine thnF (ak.run _ s9 σ1 H9 (fun kv H' => ∃ k M' ρ', fk τ1 M9 = .ok k M' ∧ Ext ρ9 ρ' ∧ Grow H9 H' ∧ RM (X.am W.Tb) ρ' H' M' ∧ Is ρ' H' k kv) I9 ?_) fun u1 sa ⟨kv, Ha, Ia, ra, k, Ma, ρa, ea', xa, ga, ma, ik⟩ => ?_
              · refine ⟨τ1, M9, ρ9, rs1.mono x9 g9, m9, ?_⟩
                cases e1 : fk τ1 M9 with
                | ok k M1 =>
                  intro k' H' ρ' x g m ik
                  exact ⟨k, M1, ρ', rfl, x, g, m, ik⟩
                | ex en M1 => rw [e1] at r5; exact r5.elim
                | bad => rw [e1] at r5; exact r5.elim
              rw [ea'] at r5
              dsimp only at r5
              refine thnF (av.run _ sa σ1 Ha (fun yv H' => ∃ y M' ρ', fe τ1 Ma = .ok y M' ∧ Ext ρa ρ' ∧ Grow Ha H' ∧ RM (X.am W.Tb) ρ' H' M' ∧ Is ρ' H' y yv) Ia ?_) fun u2 sb ⟨yv, Hb, Ib, rb, yA, Mb, ρb, eb, xb, gb, mb, iy⟩ => ?_
              · refine ⟨τ1, Ma, ρa, (rs1.mono x9 g9).mono xa ga, ma, ?_⟩
                cases e1 : fe τ1 Ma with
                | ok k M1 =>
                  intro k' H' ρ' x g m ik
                  exact ⟨k, M1, ρ', rfl, x, g, m, ik⟩
                | ex en M1 => rw [e1] at r5; exact r5.elim
                | bad => rw [e1] at r5; exact r5.elim
              rw [eb] at r5
              dsimp only at r5
              cases ep : nSto Mb l k yA with
              | none => rw [ep] at r5; exact r5.elim
              | some Mc =>
                rw [ep] at r5
                dsimp only at r5
                have hbD : ρb[l]? = some D := xb.get (xa.get (x9.get (x5.get hl0)))
                refine n_putS (X := X.blk z G scope ce fp) hu Ib mb hbD (ik.mono xb gb) iy ra rb ep fun Hc sc Ic gc mc => ?_
                exact fin Ic (x5.trans (x9.trans (xa.trans xb))) ((((g57.trans g9).trans ga).trans gb).trans gc) mc (RE.mono r5 (x9.trans (xa.trans xb)) (((g9.trans ga).trans gb).trans gc))
  exact codeAny_compStart_dict loop (T.self X.A 0 _ _ _ sty loop)
theorem as_setDcS (i : Nat) (own : List (Str × Nat)) {y : Str} {py spos : Pos} {kx vx tg iter : Expr} {ifs : List Expr} {scope : Scope} {fi : EI} {t : Tgt} {ft : EFb} {fk fe : EF} (hu : X.A.units + 9 < cLine) (hc : X.calm = true) (hN : X.N.Nodup) (hsw : swapsWith (.DictComp kx vx [⟨tg, iter, ifs, 0⟩] scope pos) (some (.Name y py)) spos.line X.env = pure true) (ok : BlkOk X.N X.env.scope scope own) (ho : ∀ i ∈ t.own, i ∈ own.map (·.2)) (hi : AI X W tg iter fi)
    (hg : ∀ (s : Shared) (H : Hp) (C : Addr) (cl : List (Str × Addr)) (fp : List Addr), AG (X.blk s H scope (compEnvC scope cl C X.env) fp) tg t) (ht : ∀ (s : Shared) (H : Hp) (C : Addr) (cl : List (Str × Addr)) (fp : List Addr), ATs (X.blk s H scope (compEnvC scope cl C X.env) fp) W.nx ifs ft)
    (hk : ∀ (s : Shared) (H : Hp) (C : Addr) (cl : List (Str × Addr)) (fp : List Addr), AE (X.blk s H scope (compEnvC scope cl C X.env) fp) W.nx kx fk)
    (he : ∀ (s : Shared) (H : Hp) (C : Addr) (cl : List (Str × Addr)) (fp : List Addr), AE (X.blk s H scope (compEnvC scope cl C X.env) fp) W.nx vx fe) (hy : X.N[i]? = some y := by rfl) (hyl : X.env.scope.names.lookup y = some .local := by rfl) (hs : ∀ x, foldedSetIterable iter X.env x = pure x := by intro _; rfl) :
    AS X W (.Assign [.Name y py] (.DictComp kx vx [⟨tg, iter, ifs, 0⟩] scope pos) spos) (sAsg (.nm i) (eDcS fi t ft fk fe (own.map (·.2)))) := ⟨fun pins s σ H D I h => by
  have h1 := asg_tK h
  rw [exec_Assign_Name_used _ _ _ _ hsw]
  refine wpAny_bind (wpAny_standAt (wpAny_bind ?_))
  show wpAny _ X.A (do let _ ← comprehension (.DictComp kx vx [⟨tg, iter, ifs, 0⟩] scope pos) scope X.env (firstIterPos [⟨tg, iter, ifs, 0⟩] pos) newDict false (eval iter X.env) (some (assign (.Name y py) X.env))) _ _ s
  refine wpAny_bind (thn (dc_core_s (Qf := fun _ s' => SP X pins D .next s') own hu hc hN ok ho hi hg ht hk he hs I h1 fun L C s' m H' I' q hn f => ?_) fun _ s' hq => wpAny_pure (wpAny_pure hq))
  show wpAny _ _ (assign (.Name y py) X.env (.ref L)) _ _ _
  obtain ⟨a, τ, ρ, τ', ia, rs, e, q⟩ := q
  simp only [Tgt.set] at e
  cases e
  refine wpAny_assign_Name (store_ok2 (v := V.ref L) I' hN hy (.inl hyl) rfl (fun s2 I2 ⟨b, sb, hb⟩ => ?_) (.inr hyl))
  obtain ⟨f0, f1, f2, f3, f4, f5⟩ := f
  have nb : C ≠ b := by
    rcases hb with z | z
    · rw [z]; exact f1
    · exact fun e => f4 y b z e.symm
  refine ⟨m, hn.sameBut sb nb, fun h3 sb3 => ?_⟩
  refine ⟨_, H', I2.turned (t' := s2.toks) (fun b o hb e => (sb3.2 b hb).trans e) f0 f1 f3 f4 f5, q _ (rs.set ia i) ⟨by simp, fun j hj => ?_⟩⟩
  rw [List.getElem?_set_ne (by intro z; exact hj (by simp [Tgt.own, z]))]⟩
end
end AB
namespace P68
open PySem PySem.Spec PyProof.Rows L2 AB
def topS (i : Nat) : Stmt := PySem.Challenge.pw_toldwhat_k68_upper_layers_refused.main.body.getD i (.Pass ⟨0, 0, 0, 0⟩)
def tt_JOINING : List Str := ["and", "or"]
def tt_WORDED : List Str := ["begins", "ends", "holds", "repeats"]
def tb_TOLD_LETTERS : List (Str × Int) := [("put", 1), ("move", 1), ("cut", 0), ("flip", 0), ("change", 2)]
def tb_FURTHER_WORDS : List (Str × List Str) := [("move", ["move", "put"]), ("cut", ["cut", "put"]), ("flip", ["flip", "put"]), ("turned", ["change", "put"])]
def xk_KeeperError : List (Str × Bool) := [("BadQuestion", true), ("BadNumber", true), ("BadEdits", true), ("BadString", true), ("BadKeeper", true), ("BadMessages", true), ("BadText", true), ("BadAsk", true), ("BadWorld", true), ("Answerable", true)]
def xi_Answerable : List (Str × Bool) := [("BadQuestion", false), ("BadNumber", false), ("BadEdits", false), ("BadString", false), ("BadKeeper", false), ("BadMessages", false), ("BadText", false), ("BadAsk", false), ("BadWorld", false), ("Answerable", true)]
def xi_BadAsk : List (Str × Bool) := [("BadQuestion", false), ("BadNumber", false), ("BadEdits", false), ("BadString", false), ("BadKeeper", false), ("BadMessages", false), ("BadText", false), ("BadAsk", true), ("BadWorld", false), ("Answerable", false)]
def xi_BadEdits : List (Str × Bool) := [("BadQuestion", false), ("BadNumber", false), ("BadEdits", true), ("BadString", false), ("BadKeeper", false), ("BadMessages", false), ("BadText", false), ("BadAsk", false), ("BadWorld", false), ("Answerable", false)]
def xi_BadKeeper : List (Str × Bool) := [("BadQuestion", false), ("BadNumber", false), ("BadEdits", false), ("BadString", false), ("BadKeeper", true), ("BadMessages", false), ("BadText", false), ("BadAsk", false), ("BadWorld", false), ("Answerable", false)]
def xi_BadMessages : List (Str × Bool) := [("BadQuestion", false), ("BadNumber", false), ("BadEdits", false), ("BadString", false), ("BadKeeper", false), ("BadMessages", true), ("BadText", false), ("BadAsk", false), ("BadWorld", false), ("Answerable", false)]
def xi_BadNumber : List (Str × Bool) := [("BadQuestion", false), ("BadNumber", true), ("BadEdits", false), ("BadString", false), ("BadKeeper", false), ("BadMessages", false), ("BadText", false), ("BadAsk", false), ("BadWorld", false), ("Answerable", false)]
def xi_BadQuestion : List (Str × Bool) := [("BadQuestion", true), ("BadNumber", false), ("BadEdits", false), ("BadString", false), ("BadKeeper", false), ("BadMessages", false), ("BadText", false), ("BadAsk", false), ("BadWorld", false), ("Answerable", false)]
def xi_BadString : List (Str × Bool) := [("BadQuestion", false), ("BadNumber", false), ("BadEdits", false), ("BadString", true), ("BadKeeper", false), ("BadMessages", false), ("BadText", false), ("BadAsk", false), ("BadWorld", false), ("Answerable", false)]
def xi_BadText : List (Str × Bool) := [("BadQuestion", false), ("BadNumber", false), ("BadEdits", false), ("BadString", false), ("BadKeeper", false), ("BadMessages", false), ("BadText", true), ("BadAsk", false), ("BadWorld", false), ("Answerable", false)]
def xi_BadWorld : List (Str × Bool) := [("BadQuestion", false), ("BadNumber", false), ("BadEdits", false), ("BadString", false), ("BadKeeper", false), ("BadMessages", false), ("BadText", false), ("BadAsk", false), ("BadWorld", true), ("Answerable", false)]
def xi_NoKeeper : List (Str × Bool) := [("BadQuestion", false), ("BadNumber", false), ("BadEdits", false), ("BadString", false), ("BadKeeper", false), ("BadMessages", false), ("BadText", false), ("BadAsk", false), ("BadWorld", false), ("Answerable", false)]
def no_FURTHER_WORDS : List Str := ["", "end", "stack"]
def xv_ValueError : List (Str × Bool) := [("BadQuestion", true), ("BadNumber", true), ("BadEdits", true), ("BadString", true), ("BadKeeper", true), ("BadMessages", true), ("BadText", true), ("BadAsk", true), ("BadWorld", true), ("Answerable", true)]
structure Txt (w : World) (K : PySem.W.Frag) (mg : Str → Option Value) : Prop where
  b_ValueError : mg "ValueError" = none
  b_all : mg "all" = none
  b_any : mg "any" = none
  b_bool : mg "bool" = none
  b_enumerate : mg "enumerate" = none
  b_int : mg "int" = none
  b_isinstance : mg "isinstance" = none
  b_len : mg "len" = none
  b_list : mg "list" = none
  b_range : mg "range" = none
  b_set : mg "set" = none
  b_sorted : mg "sorted" = none
  b_str : mg "str" = none
  b_super : mg "super" = none
  b_tuple : mg "tuple" = none
  b_zip : mg "zip" = none
  c_MOST_ANSWER : ∃ t, mg "MOST_ANSWER" = some (.int 3 t)
  c_MOST_EDITS : ∃ t, mg "MOST_EDITS" = some (.int 100 t)
  c_MOST_LETTERS : ∃ t, mg "MOST_LETTERS" = some (.int 3 t)
  c_MOST_MEMORIES : ∃ t, mg "MOST_MEMORIES" = some (.int 3000 t)
  c_MOST_MESSAGES : ∃ t, mg "MOST_MESSAGES" = some (.int 100 t)
  c_MOST_MODULUS : ∃ t, mg "MOST_MODULUS" = some (.int 8 t)
  c_MOST_PLAIN : ∃ t, mg "MOST_PLAIN" = some (.int 16 t)
  c_MOST_ROWS : ∃ t, mg "MOST_ROWS" = some (.int 2000 t)
  c_MOST_STATES : ∃ t, mg "MOST_STATES" = some (.int 40 t)
  c_MOST_TEXT : ∃ t, mg "MOST_TEXT" = some (.int 60 t)
  c_MOST_TIMES : ∃ t, mg "MOST_TIMES" = some (.int 6 t)
  c_MOST_WITHIN : ∃ t, mg "MOST_WITHIN" = some (.int 6 t)
  c_MOST_WORD : ∃ t, mg "MOST_WORD" = some (.int 6 t)
  g_JOINING : ∃ a, mg "JOINING" = some (.ref a) ∧ KTup K a tt_JOINING
  g_WORDED : ∃ a, mg "WORDED" = some (.ref a) ∧ KTup K a tt_WORDED
  g_FURTHER_WORDS : ∃ a, mg "FURTHER_WORDS" = some (.ref a) ∧ KTab K w a tb_FURTHER_WORDS
  g_TOLD_LETTERS : ∃ a, mg "TOLD_LETTERS" = some (.ref a) ∧ KTabI K w a tb_TOLD_LETTERS
  p_permutations : mg "permutations" = some (.type "itertools.permutations")
  x_KeeperError : ∃ cK, mg "KeeperError" = some cK ∧ ExTab K mg cK xk_KeeperError
  i_Answerable : IsTab K mg "Answerable" xi_Answerable
  i_BadAsk : IsTab K mg "BadAsk" xi_BadAsk
  i_BadEdits : IsTab K mg "BadEdits" xi_BadEdits
  i_BadKeeper : IsTab K mg "BadKeeper" xi_BadKeeper
  i_BadMessages : IsTab K mg "BadMessages" xi_BadMessages
  i_BadNumber : IsTab K mg "BadNumber" xi_BadNumber
  i_BadQuestion : IsTab K mg "BadQuestion" xi_BadQuestion
  i_BadString : IsTab K mg "BadString" xi_BadString
  i_BadText : IsTab K mg "BadText" xi_BadText
  i_BadWorld : IsTab K mg "BadWorld" xi_BadWorld
  i_NoKeeper : IsTab K mg "NoKeeper" xi_NoKeeper
  e_Answerable : Exc0 K mg "Answerable"
  e_BadAsk : Exc0 K mg "BadAsk"
  e_BadNumber : Exc0 K mg "BadNumber"
  e_BadString : Exc0 K mg "BadString"
  e_BadText : Exc0 K mg "BadText"
  e_BadWorld : Exc0 K mg "BadWorld"
  n_FURTHER_WORDS : ∃ a, mg "FURTHER_WORDS" = some (.ref a) ∧ KTab K w a tb_FURTHER_WORDS ∧ KNos K a no_FURTHER_WORDS
  iv_ValueError : IsTabV K mg "ValueError" xv_ValueError
noncomputable section
variable {P : Program} {w : World} {K : PySem.W.Frag} {mg : Str → Option Value} {Tb : Tbl} {base : Heap}
abbrev s_law_taken : Stmt := topS 139
theorem sc_law_taken : FnScope ["row", "many", "cell", "found"] ["row", "many"] (defScope s_law_taken) := ⟨rfl, rfl, rfl, by decide +kernel, rfl, by decide +kernel, by decide +kernel⟩
def S_law_taken : SF :=
  (sSeq (sIf (eB (eOp oGt (eOp oIx (eVar 0) (eC (.int 3))) (eC (.int 0)))) (sSeq (sAsg (.nm 3) (eOp oMod (eFn oInt1 (eCons (eOp oIx (eVar 0) (eC (.int 3))) eNil)) (eVar 1)))
    (sSeq (sSetL (eVar 0) (eC (.int 3)) (eOp oFdiv (eOp oIx (eVar 0) (eC (.int 3))) (eVar 1)))
    (sSeq (sRet (eVar 3))
    sNil))) sNil)
    (sSeq (sSetL (eVar 0) (eC (.int 1)) (eOp oAdd (eOp oIx (eVar 0) (eC (.int 1))) (eC (.int 1))))
    (sSeq (sIf (eB (eOp oGt (eOp oIx (eVar 0) (eC (.int 1))) (eFn oLenN (eCons (eOp oIx (eVar 0) (eC (.int 0))) eNil)))) (sSeq (sSetL (eVar 0) (eC (.int 2)) (eOp oMod (eFn oInt1 (eCons (eOp oAdd (eOp oMul (eOp oIx (eVar 0) (eC (.int 2))) (eC (.int 48271))) (eC (.int 11))) eNil)) (eC (.int 2147483647))))
    (sSeq (sRet (eOp oMod (eFn oInt1 (eCons (eOp oFdiv (eOp oIx (eVar 0) (eC (.int 2))) (eC (.int 7))) eNil)) (eVar 1)))
    sNil)) sNil)
    (sSeq (sAsg (.nm 2) (eOp oIx (eOp oIx (eVar 0) (eC (.int 0))) (eOp oSub (eOp oIx (eVar 0) (eC (.int 1))) (eC (.int 1)))))
    (sSeq (sSetL (eVar 0) (eC (.int 2)) (eOp oMod (eFn oInt1 (eCons (eOp oAdd (eOp oAdd (eOp oMul (eOp oIx (eVar 0) (eC (.int 2))) (eC (.int 48271))) (eVar 2)) (eC (.int 11))) eNil)) (eC (.int 2147483647))))
    (sSeq (sIf (eB (eOp oGe (eVar 2) (eOp oPow (eC (.int 10)) (eC (.int 18))))) (sSeq (sSetL (eVar 0) (eC (.int 3)) (eOp oFdiv (eVar 2) (eVar 1)))
    sNil) sNil)
    (sSeq (sRet (eOp oMod (eFn oInt1 (eCons (eVar 2) eNil)) (eVar 1)))
    sNil)))))))
def F_law_taken : On' := defA 4 S_law_taken
set_option maxHeartbeats 16000000 in
theorem ok_law_taken {fa : Addr} {fd : FuncData} (T : Txt w K mg)  (F : Fun K "_law_taken" "_law_taken" s_law_taken fa fd) (hm : mg "_law_taken" = some (.ref fa)) : FnX P w K mg Tb base "_law_taken" 1 2 F_law_taken := by
  refine ⟨fa, fd, ["row", "many"], fn_A (k := 0) F sc_law_taken (fun cdv A outer s₀ H E hr => ?_), hm, F.kp, F.binds (ps := ["row", "many"]) fun _ _ _ _ _ _ us hl => match us, hl with | [_, _], _ => rfl⟩
  unfold S_law_taken
  exact (ass_cons (as_if (at_cmp (op_gtA) (ae_ix (ae_v 0) ae_int) ae_int) (ass_cons (as_set 3 sc_law_taken.nd (ae_op op_modA (ae_Ty cr_int T.b_int (aa_cons (ae_ix (ae_v 0) ae_int) aa_nil)) (ae_v 1)))
    (ass_cons (as_setL (ae_v 0) ae_int (ae_op op_fdivA (ae_ix (ae_v 0) ae_int) (ae_v 1)))
    (ass_cons (as_ret (ae_v 3))
    ass_nil))) ass_nil)
    (ass_cons (as_setL (ae_v 0) ae_int (ae_op op_addA (ae_ix (ae_v 0) ae_int) ae_int))
    (ass_cons (as_if (at_cmp (op_gtA) (ae_ix (ae_v 0) ae_int) (ae_B cr_lenN T.b_len (aa_cons (ae_ix (ae_v 0) ae_int) aa_nil))) (ass_cons (as_setL (ae_v 0) ae_int (ae_op op_modA (ae_Ty cr_int T.b_int (aa_cons (ae_op op_addA (ae_op op_mulA (ae_ix (ae_v 0) ae_int) ae_int) ae_int) aa_nil)) ae_int))
    (ass_cons (as_ret (ae_op op_modA (ae_Ty cr_int T.b_int (aa_cons (ae_op op_fdivA (ae_ix (ae_v 0) ae_int) ae_int) aa_nil)) (ae_v 1)))
    ass_nil)) ass_nil)
    (ass_cons (as_set 2 sc_law_taken.nd (ae_ix (ae_ix (ae_v 0) ae_int) (ae_op op_subA (ae_ix (ae_v 0) ae_int) ae_int)))
    (ass_cons (as_setL (ae_v 0) ae_int (ae_op op_modA (ae_Ty cr_int T.b_int (aa_cons (ae_op op_addA (ae_op op_addA (ae_op op_mulA (ae_ix (ae_v 0) ae_int) ae_int) (ae_v 2)) ae_int) aa_nil)) ae_int))
    (ass_cons (as_if (at_cmp (op_geA) (ae_v 2) (ae_op op_powA ae_int ae_int)) (ass_cons (as_setL (ae_v 0) ae_int (ae_op op_fdivA (ae_v 2) (ae_v 1)))
    ass_nil) ass_nil)
    (ass_cons (as_ret (ae_op op_modA (ae_Ty cr_int T.b_int (aa_cons (ae_v 2) aa_nil)) (ae_v 1)))
    ass_nil)))))))
abbrev s_law_pick : Stmt := topS 140
theorem sc_law_pick : FnScope ["row", "things"] ["row", "things"] (defScope s_law_pick) := ⟨rfl, rfl, rfl, by decide +kernel, rfl, by decide +kernel, by decide +kernel⟩
def S_law_pick : SF :=
  (sSeq (sRet (eOp oIx (eVar 1) (eCall 2 F_law_taken (eCons (eVar 0) (eCons (eFn oLenN (eCons (eVar 1) eNil)) eNil)))))
    sNil)
def F_law_pick : On' := defA 2 S_law_pick
set_option maxHeartbeats 16000000 in
theorem ok_law_pick {fa : Addr} {fd : FuncData} (T : Txt w K mg) (G_law_taken : FnX P w K mg Tb base "_law_taken" 1 2 F_law_taken) (F : Fun K "_law_pick" "_law_pick" s_law_pick fa fd) (hm : mg "_law_pick" = some (.ref fa)) : FnX P w K mg Tb base "_law_pick" 2 2 F_law_pick := by
  refine ⟨fa, fd, ["row", "things"], fn_A (k := 1) F sc_law_pick (fun cdv A outer s₀ H E hr => ?_), hm, F.kp, F.binds (ps := ["row", "things"]) fun _ _ _ _ _ _ us hl => match us, hl with | [_, _], _ => rfl⟩
  unfold S_law_pick
  exact (ass_cons (as_ret (ae_ix (ae_v 1) (ae_callX G_law_taken (hr.mono (by first | decide | omega)) (takes_of rfl rfl rfl rfl) (aa_cons (ae_v 0) (aa_cons (ae_B cr_lenN T.b_len (aa_cons (ae_v 1) aa_nil)) aa_nil)))))
    ass_nil)
abbrev s_law_deep : Stmt := topS 142
theorem sc_law_deep : FnScope ["many", "found", "k"] ["many"] (defScope s_law_deep) := ⟨rfl, rfl, rfl, by decide +kernel, rfl, by decide +kernel, by decide +kernel⟩
def S_law_deep : SF :=
  (sSeq (sAsg (.nm 1) (eTup (eCons (eC (.str (Str.ofString "void"))) eNil)))
    (sSeq (sFor (iRng1 (eCons (eOp oSub (eVar 0) (eC (.int 1))) eNil)) (.nm 2) (sSeq (sAsg (.nm 1) (eTup (eCons (eC (.str (Str.ofString "not"))) (eCons (eVar 1) eNil))))
    sNil))
    (sSeq (sRet (eVar 1))
    sNil)))
def F_law_deep : On' := defA 3 S_law_deep
set_option maxHeartbeats 16000000 in
theorem ok_law_deep {fa : Addr} {fd : FuncData} (T : Txt w K mg)  (F : Fun K "_law_deep" "_law_deep" s_law_deep fa fd) (hm : mg "_law_deep" = some (.ref fa)) : FnX P w K mg Tb base "_law_deep" 1 1 F_law_deep := by
  refine ⟨fa, fd, ["many"], fn_A (k := 0) F sc_law_deep (fun cdv A outer s₀ H E hr => ?_), hm, F.kp, F.binds (ps := ["many"]) fun _ _ _ _ _ _ us hl => match us, hl with | [_], _ => rfl⟩
  unfold S_law_deep
  exact (ass_cons (as_set 1 sc_law_deep.nd (ae_tup (aa_cons ae_str aa_nil)))
    (ass_cons (as_for (passes_of rfl) rfl (ai_rng1 T.b_range (aa_cons (ae_op op_subA (ae_v 0) ae_int) aa_nil)) (ag_nm 2 sc_law_deep.nd) (ass_cons (as_set 1 sc_law_deep.nd (ae_tup (aa_cons ae_str (aa_cons (ae_v 1) aa_nil))))
    ass_nil))
    (ass_cons (as_ret (ae_v 1))
    ass_nil)))
abbrev s_law_wide : Stmt := topS 143
theorem sc_law_wide : FnScope ["many", "row", "k"] ["many"] (defScope s_law_wide) := ⟨rfl, rfl, rfl, by decide +kernel, rfl, by decide +kernel, by decide +kernel⟩
def S_law_wide : SF :=
  (sSeq (sAsg (.nm 1) (eOp oMul (eLst (eCons (eTup (eCons (eC (.str (Str.ofString "void"))) eNil)) eNil)) (eVar 0)))
    (sSeq (fun τ M => whileA (eB (eOp oGt (eFn oLenN (eCons (eVar 1) eNil)) (eC (.int 1)))) (sSeq (sAsg (.nm 1) (eLc (iRng3A (eCons (eC (.int 0)) (eCons (eFn oLenN (eCons (eVar 1) eNil)) (eCons (eC (.int 2)) eNil)))) (.nm 2) bYes (eIf (eB (eOp oLt (eOp oAdd (eVar 2) (eC (.int 1))) (eFn oLenN (eCons (eVar 1) eNil)))) (eTup (eCons (eC (.str (Str.ofString "or"))) (eCons (eOp oIx (eVar 1) (eVar 2)) (eCons (eOp oIx (eVar 1) (eOp oAdd (eVar 2) (eC (.int 1)))) eNil)))) (eOp oIx (eVar 1) (eVar 2))) [2]))
    sNil) fuel τ M)
    (sSeq (sRet (eOp oIx (eVar 1) (eC (.int 0))))
    sNil)))
def F_law_wide : On' := defA 3 S_law_wide
set_option maxHeartbeats 16000000 in
theorem ok_law_wide {fa : Addr} {fd : FuncData} (T : Txt w K mg)  (F : Fun K "_law_wide" "_law_wide" s_law_wide fa fd) (hm : mg "_law_wide" = some (.ref fa)) : FnX P w K mg Tb base "_law_wide" 1 1 F_law_wide := by
  refine ⟨fa, fd, ["many"], fn_A (k := 0) F sc_law_wide (fun cdv A outer s₀ H E hr => ?_), hm, F.kp, F.binds (ps := ["many"]) fun _ _ _ _ _ _ us hl => match us, hl with | [_], _ => rfl⟩
  unfold S_law_wide
  exact (ass_cons (as_set 1 sc_law_wide.nd (ae_op op_mulA (ae_lst (aa_cons (ae_tup (aa_cons ae_str aa_nil)) aa_nil)) (ae_v 0)))
    (ass_cons (as_while (fun _ _ => fuel) (passes_of rfl) (at_cmp (op_gtA) (ae_B cr_lenN T.b_len (aa_cons (ae_v 1) aa_nil)) ae_int) (ass_cons (as_set 1 sc_law_wide.nd (ae_lc [("k", 2)] rfl sc_law_wide.nd (blkOk_by rfl) (by decide) (ai_rng3 T.b_range (aa_cons ae_int (aa_cons (ae_B cr_lenN T.b_len (aa_cons (ae_v 1) aa_nil)) (aa_cons ae_int aa_nil)))) (fun _ _ _ _ _ => (ag_nm 2 sc_law_wide.nd)) (fun _ _ _ _ _ => ats_nil) (fun _ _ _ _ _ => (ae_if (at_cmp (op_ltA) (ae_op op_addA (ae_v 2) ae_int) (ae_B cr_lenN T.b_len (aa_cons (ae_v 1) aa_nil))) (ae_tup (aa_cons ae_str (aa_cons (ae_ix (ae_v 1) (ae_v 2)) (aa_cons (ae_ix (ae_v 1) (ae_op op_addA (ae_v 2) ae_int)) aa_nil)))) (ae_ix (ae_v 1) (ae_v 2))))))
    ass_nil))
    (ass_cons (as_ret (ae_ix (ae_v 1) ae_int))
    ass_nil)))
abbrev s_law_error : Stmt := topS 141
theorem sc_law_error : FnScope ["work", "found", "error", "known"] ["work"] (defScope s_law_error) := ⟨rfl, rfl, rfl, by decide +kernel, rfl, by decide +kernel, by decide +kernel⟩
def S_law_error (l0 : Nat) (act : On') : SF :=
  (sSeq (sAsg (.nm 1) (eC .non))
    (sSeq (sTry xk_KeeperError 2 (sSeq (sExpr (eAct 0 l0 0 act eNil))
    sNil) (fun e1 l1 => (sSeq (sAsg (.nm 3) (eLst (eCons (eIsE xi_BadAsk e1 l1 2) (eCons (eIsE xi_BadWorld e1 l1 2) (eCons (eIsE xi_BadNumber e1 l1 2) eNil)))))
    (sSeq (sAsg (.nm 3) (eOp oAdd (eVar 3) (eLst (eCons (eIsE xi_BadQuestion e1 l1 2) (eCons (eIsE xi_BadEdits e1 l1 2) eNil)))))
    (sSeq (sAsg (.nm 3) (eOp oAdd (eVar 3) (eLst (eCons (eIsE xi_BadKeeper e1 l1 2) eNil))))
    (sSeq (sAsg (.nm 3) (eOp oAdd (eVar 3) (eLst (eCons (eIsE xi_BadMessages e1 l1 2) (eCons (eIsE xi_BadString e1 l1 2) eNil)))))
    (sSeq (sAsg (.nm 3) (eOp oAdd (eVar 3) (eLst (eCons (eIsE xi_BadText e1 l1 2) eNil))))
    (sSeq (sAsg (.nm 3) (eOp oAdd (eVar 3) (eLst (eCons (eIsE xi_NoKeeper e1 l1 2) (eCons (eIsE xi_Answerable e1 l1 2) eNil)))))
    (sSeq (sAsg (.nm 1) (eIf (bAnd (eB (eOp oEq (eMeth oCountB (eVar 3) (eCons (eC (.bl true)) eNil)) (eC (.int 1)))) (eT (eIsE xv_ValueError e1 l1 2))) (eMeth oIndex (eVar 3) (eCons (eC (.bl true)) eNil)) (eC (.str (Str.ofString "other")))))
    sNil)))))))))
    (sSeq (sRet (eVar 1))
    sNil)))
set_option maxHeartbeats 16000000 in
theorem ok_law_error {k : Nat} (hk : 0 ≤ k) {fa : Addr} {fd : FuncData} (T : Txt w K mg)  (F : Fun K "_law_error" "_law_error" s_law_error fa fd) (hm : mg "_law_error" = some (.ref fa)) : FnL P w K mg Tb base "_law_error" k 1 0 4 S_law_error := by
  refine ⟨fa, fd, s_law_error, ["work", "found", "error", "known"], ["work"], F, sc_law_error, hm, rfl, rfl, F.binds (ps := ["work"]) fun _ _ _ _ _ _ us hl => match us, hl with | [_], _ => rfl, fun cdv A outer s₀ H E l0 r act hr ha => ?_⟩
  unfold S_law_error
  exact (ass_cons (as_set 1 sc_law_error.nd ae_non)
    (ass_cons (as_try 2 rfl rfl sc_law_error.nd rfl rfl ⟨rfl, by decide, .inl T.x_KeeperError.choose_spec.1⟩ (takes_of rfl rfl rfl rfl) T.x_KeeperError.choose_spec.2 (fun W1 pn1 xe1 tk1 po1 => (ass_cons (as_expr (ae_actT0 0 ha tk1))
    ass_nil)) (fun a1 oe1 cls1 d1 pn1 e1 l1 r1 h1 hz1 hf1 hh1 => (ass_cons (as_set 3 sc_law_error.nd (ae_lst (aa_cons (ae_isE 2 hh1 hz1 hf1 T.i_BadAsk T.b_isinstance rfl (.inl rfl)) (aa_cons (ae_isE 2 hh1 hz1 hf1 T.i_BadWorld T.b_isinstance rfl (.inl rfl)) (aa_cons (ae_isE 2 hh1 hz1 hf1 T.i_BadNumber T.b_isinstance rfl (.inl rfl)) aa_nil)))))
    (ass_cons (as_set 3 sc_law_error.nd (ae_op op_addA (ae_v 3) (ae_lst (aa_cons (ae_isE 2 hh1 hz1 hf1 T.i_BadQuestion T.b_isinstance rfl (.inl rfl)) (aa_cons (ae_isE 2 hh1 hz1 hf1 T.i_BadEdits T.b_isinstance rfl (.inl rfl)) aa_nil)))))
    (ass_cons (as_set 3 sc_law_error.nd (ae_op op_addA (ae_v 3) (ae_lst (aa_cons (ae_isE 2 hh1 hz1 hf1 T.i_BadKeeper T.b_isinstance rfl (.inl rfl)) aa_nil))))
    (ass_cons (as_set 3 sc_law_error.nd (ae_op op_addA (ae_v 3) (ae_lst (aa_cons (ae_isE 2 hh1 hz1 hf1 T.i_BadMessages T.b_isinstance rfl (.inl rfl)) (aa_cons (ae_isE 2 hh1 hz1 hf1 T.i_BadString T.b_isinstance rfl (.inl rfl)) aa_nil)))))
    (ass_cons (as_set 3 sc_law_error.nd (ae_op op_addA (ae_v 3) (ae_lst (aa_cons (ae_isE 2 hh1 hz1 hf1 T.i_BadText T.b_isinstance rfl (.inl rfl)) aa_nil))))
    (ass_cons (as_set 3 sc_law_error.nd (ae_op op_addA (ae_v 3) (ae_lst (aa_cons (ae_isE 2 hh1 hz1 hf1 T.i_NoKeeper T.b_isinstance rfl (.inl rfl)) (aa_cons (ae_isE 2 hh1 hz1 hf1 T.i_Answerable T.b_isinstance rfl (.inl rfl)) aa_nil)))))
    (ass_cons (as_set 1 sc_law_error.nd (ae_if (AW.at (aw_and (at_cmp (op_eqA (by have hx := hu64 hr; exact hx)) (ae_count (ae_v 3) (aa_cons ae_bl aa_nil)) ae_int) (aw_and1 (at_val (ae_isEV 2 hh1 hz1 hf1 T.iv_ValueError T.b_isinstance T.b_ValueError rfl (.inl rfl)))))) (ae_index (ae_v 3) (aa_cons ae_bl aa_nil)) ae_str))
    ass_nil)))))))))
    (ass_cons (as_ret (ae_v 1))
    ass_nil)))
abbrev s_is_number : Stmt := topS 21
theorem sc_is_number : FnScope ["value", "low", "high"] ["value", "low", "high"] (defScope s_is_number) := ⟨rfl, rfl, rfl, by decide +kernel, rfl, by decide +kernel, by decide +kernel⟩
def S_is_number : SF :=
  (sSeq (sRet (eAnd (eFn oIsi (eCons (eVar 0) (eCons (eC (.ty "int")) eNil))) (eAnd (eNot (eFn oIsi (eCons (eVar 0) (eCons (eC (.ty "bool")) eNil)))) (eChain oLe oLe (eVar 1) (eVar 0) (eVar 2)))))
    sNil)
def F_is_number : On' := defA 3 S_is_number
set_option maxHeartbeats 16000000 in
theorem ok_is_number {fa : Addr} {fd : FuncData} (T : Txt w K mg)  (F : Fun K "is_number" "is_number" s_is_number fa fd) (hm : mg "is_number" = some (.ref fa)) : FnX P w K mg Tb base "is_number" 1 3 F_is_number := by
  refine ⟨fa, fd, ["value", "low", "high"], fn_A (k := 0) F sc_is_number (fun cdv A outer s₀ H E hr => ?_), hm, F.kp, F.binds (ps := ["value", "low", "high"]) fun _ _ _ _ _ _ us hl => match us, hl with | [_, _, _], _ => rfl⟩
  unfold S_is_number
  exact (ass_cons (as_ret (ae_and (ae_B cr_isi T.b_isinstance (aa_cons (ae_v 0) (aa_cons (ae_type T.b_int) aa_nil))) (ae_and (ae_not (ae_B cr_isi T.b_isinstance (aa_cons (ae_v 0) (aa_cons (ae_type T.b_bool) aa_nil)))) (ae_one (ae_chain (op_leA) (op_leA) (ae_v 1) (ae_v 0) (ae_v 2))))))
    ass_nil)
abbrev s_check_letters : Stmt := topS 24
theorem sc_check_letters : FnScope ["letters"] ["letters"] (defScope s_check_letters) := ⟨rfl, rfl, rfl, by decide +kernel, rfl, by decide +kernel, by decide +kernel⟩
def S_check_letters : SF :=
  (sSeq (sIf (bNot (eT (eCall 3 F_is_number (eCons (eVar 0) (eCons (eC (.int 1)) (eCons (eC (.int 3)) eNil)))))) (sSeq (sRaise0 "BadNumber")
    sNil) sNil)
    sNil)
def F_check_letters : On' := defA 1 S_check_letters
set_option maxHeartbeats 16000000 in
theorem ok_check_letters {fa : Addr} {fd : FuncData} (T : Txt w K mg) (G_is_number : FnX P w K mg Tb base "is_number" 1 3 F_is_number) (F : Fun K "check_letters" "check_letters" s_check_letters fa fd) (hm : mg "check_letters" = some (.ref fa)) : FnX P w K mg Tb base "check_letters" 2 1 F_check_letters := by
  refine ⟨fa, fd, ["letters"], fn_A (k := 1) F sc_check_letters (fun cdv A outer s₀ H E hr => ?_), hm, F.kp, F.binds (ps := ["letters"]) fun _ _ _ _ _ _ us hl => match us, hl with | [_], _ => rfl⟩
  unfold S_check_letters
  exact (ass_cons (as_if (at_not (at_val (ae_callX G_is_number (hr.mono (by first | decide | omega)) (takes_of rfl rfl rfl rfl) (aa_cons (ae_v 0) (aa_cons ae_int (aa_cons (ae_glob T.c_MOST_LETTERS.choose_spec (fun _ _ => .int 3) ⟨_, rfl⟩) aa_nil)))))) (ass_cons (as_raiseC rfl (takes_of rfl rfl rfl rfl) T.e_BadNumber)
    ass_nil) ass_nil)
    ass_nil)
abbrev s_are_numbers : Stmt := topS 22
theorem sc_are_numbers : FnScope ["value", "many", "high", "number"] ["value", "many", "high"] (defScope s_are_numbers) := ⟨rfl, rfl, rfl, by decide +kernel, rfl, by decide +kernel, by decide +kernel⟩
def S_are_numbers : SF :=
  (sSeq (sIf (bOr (bNot (eT (eFn oIsi (eCons (eVar 0) (eCons (eC (.ty "tuple")) eNil))))) (eB (eOp oNe (eFn oLenN (eCons (eVar 0) eNil)) (eVar 1)))) (sSeq (sRet (eC (.bl false)))
    sNil) sNil)
    (sSeq (sRet (eFn oAll (eCons (eLc (iSeq (eVar 0)) (.nm 3) bYes (eCall 3 F_is_number (eCons (eVar 3) (eCons (eC (.int 0)) (eCons (eVar 2) eNil)))) [3]) eNil)))
    sNil))
def F_are_numbers : On' := defA 4 S_are_numbers
set_option maxHeartbeats 16000000 in
theorem ok_are_numbers {fa : Addr} {fd : FuncData} (T : Txt w K mg) (G_is_number : FnX P w K mg Tb base "is_number" 1 3 F_is_number) (F : Fun K "are_numbers" "are_numbers" s_are_numbers fa fd) (hm : mg "are_numbers" = some (.ref fa)) : FnX P w K mg Tb base "are_numbers" 2 3 F_are_numbers := by
  refine ⟨fa, fd, ["value", "many", "high"], fn_A (k := 1) F sc_are_numbers (fun cdv A outer s₀ H E hr => ?_), hm, F.kp, F.binds (ps := ["value", "many", "high"]) fun _ _ _ _ _ _ us hl => match us, hl with | [_, _, _], _ => rfl⟩
  unfold S_are_numbers
  exact (ass_cons (as_if (AW.at (aw_or (at_not (at_val (ae_B cr_isi T.b_isinstance (aa_cons (ae_v 0) (aa_cons (ae_type T.b_tuple) aa_nil))))) (aw_or1 (at_cmp (op_neA (hu64 hr)) (ae_B cr_lenN T.b_len (aa_cons (ae_v 0) aa_nil)) (ae_v 1))))) (ass_cons (as_ret ae_bl)
    ass_nil) ass_nil)
    (ass_cons (as_ret (ae_B (cr_allA rfl) T.b_all (aa_cons (ae_lc [("number", 3)] rfl sc_are_numbers.nd (blkOk_by rfl) (by decide) (ai_seq (ae_v 0)) (fun _ _ _ _ _ => (ag_nm 3 sc_are_numbers.nd)) (fun _ _ _ _ _ => ats_nil) (fun _ _ _ _ _ => (ae_callX G_is_number (hr.mono (by first | decide | omega)) takes0 (aa_cons (ae_v 3) (aa_cons ae_int (aa_cons (ae_v 2) aa_nil)))))) aa_nil)))
    ass_nil))
abbrev s_is_text : Stmt := topS 26
theorem sc_is_text : FnScope ["value", "letters"] ["value", "letters"] (defScope s_is_text) := ⟨rfl, rfl, rfl, by decide +kernel, rfl, by decide +kernel, by decide +kernel⟩
def S_is_text : SF :=
  (sSeq (sRet (eAnd (eFn oIsi (eCons (eVar 0) (eCons (eC (.ty "tuple")) eNil))) (eCall 3 F_are_numbers (eCons (eVar 0) (eCons (eFn oLenN (eCons (eVar 0) eNil)) (eCons (eOp oSub (eVar 1) (eC (.int 1))) eNil))))))
    sNil)
def F_is_text : On' := defA 2 S_is_text
set_option maxHeartbeats 16000000 in
theorem ok_is_text {fa : Addr} {fd : FuncData} (T : Txt w K mg) (G_are_numbers : FnX P w K mg Tb base "are_numbers" 2 3 F_are_numbers) (F : Fun K "is_text" "is_text" s_is_text fa fd) (hm : mg "is_text" = some (.ref fa)) : FnX P w K mg Tb base "is_text" 3 2 F_is_text := by
  refine ⟨fa, fd, ["value", "letters"], fn_A (k := 2) F sc_is_text (fun cdv A outer s₀ H E hr => ?_), hm, F.kp, F.binds (ps := ["value", "letters"]) fun _ _ _ _ _ _ us hl => match us, hl with | [_, _], _ => rfl⟩
  unfold S_is_text
  exact (ass_cons (as_ret (ae_and (ae_B cr_isi T.b_isinstance (aa_cons (ae_v 0) (aa_cons (ae_type T.b_tuple) aa_nil))) (ae_one (ae_callX G_are_numbers (hr.mono (by first | decide | omega)) (takes_of rfl rfl rfl rfl) (aa_cons (ae_v 0) (aa_cons (ae_B cr_lenN T.b_len (aa_cons (ae_v 0) aa_nil)) (aa_cons (ae_op op_subA (ae_v 1) ae_int) aa_nil)))))))
    ass_nil)
abbrev s_is_weighing : Stmt := topS 117
theorem sc_is_weighing : FnScope ["letters", "value", "_", "weights", "modulus", "rest"] ["letters", "value"] (defScope s_is_weighing) := ⟨rfl, rfl, rfl, by decide +kernel, rfl, by decide +kernel, by decide +kernel⟩
def S_is_weighing : SF :=
  (sSeq (sAsg (.tp [(.nm 2), (.nm 3), (.nm 4), (.nm 5)]) (eVar 1))
    (sSeq (sIf (bNot (eT (eCall 3 F_is_number (eCons (eVar 4) (eCons (eC (.int 2)) (eCons (eC (.int 8)) eNil)))))) (sSeq (sRet (eC (.bl false)))
    sNil) sNil)
    (sSeq (sRet (eAnd (eCall 3 F_are_numbers (eCons (eVar 3) (eCons (eVar 0) (eCons (eOp oSub (eVar 4) (eC (.int 1))) eNil)))) (eCall 3 F_is_number (eCons (eVar 5) (eCons (eC (.int 0)) (eCons (eOp oSub (eVar 4) (eC (.int 1))) eNil))))))
    sNil)))
def F_is_weighing : On' := defA 6 S_is_weighing
set_option maxHeartbeats 16000000 in
theorem ok_is_weighing {fa : Addr} {fd : FuncData} (T : Txt w K mg) (G_is_number : FnX P w K mg Tb base "is_number" 1 3 F_is_number) (G_are_numbers : FnX P w K mg Tb base "are_numbers" 2 3 F_are_numbers) (F : Fun K "is_weighing" "is_weighing" s_is_weighing fa fd) (hm : mg "is_weighing" = some (.ref fa)) : FnX P w K mg Tb base "is_weighing" 3 2 F_is_weighing := by
  refine ⟨fa, fd, ["letters", "value"], fn_A (k := 2) F sc_is_weighing (fun cdv A outer s₀ H E hr => ?_), hm, F.kp, F.binds (ps := ["letters", "value"]) fun _ _ _ _ _ _ us hl => match us, hl with | [_, _], _ => rfl⟩
  unfold S_is_weighing
  exact (ass_cons (as_asg (ae_v 1) (ag_tp rfl (ags_cons (ag_nm 2 sc_is_weighing.nd) (ags_cons (ag_nm 3 sc_is_weighing.nd) (ags_cons (ag_nm 4 sc_is_weighing.nd) (ags_cons (ag_nm 5 sc_is_weighing.nd) ags_nil))))))
    (ass_cons (as_if (at_not (at_val (ae_callX G_is_number (hr.mono (by first | decide | omega)) (takes_of rfl rfl rfl rfl) (aa_cons (ae_v 4) (aa_cons ae_int (aa_cons (ae_glob T.c_MOST_MODULUS.choose_spec (fun _ _ => .int 8) ⟨_, rfl⟩) aa_nil)))))) (ass_cons (as_ret ae_bl)
    ass_nil) ass_nil)
    (ass_cons (as_ret (ae_and (ae_callX G_are_numbers (hr.mono (by first | decide | omega)) (takes_of rfl rfl rfl rfl) (aa_cons (ae_v 3) (aa_cons (ae_v 0) (aa_cons (ae_op op_subA (ae_v 4) ae_int) aa_nil)))) (ae_one (ae_callX G_is_number (hr.mono (by first | decide | omega)) (takes_of rfl rfl rfl rfl) (aa_cons (ae_v 5) (aa_cons ae_int (aa_cons (ae_op op_subA (ae_v 4) ae_int) aa_nil)))))))
    ass_nil)))
abbrev s_is_plain : Stmt := topS 116
theorem sc_is_plain : FnScope ["letters", "value", "word"] ["letters", "value"] (defScope s_is_plain) := ⟨rfl, rfl, rfl, by decide +kernel, rfl, by decide +kernel, by decide +kernel⟩
def S_is_plain : SF :=
  (sSeq (sAsg (.nm 2) (eOp oIx (eVar 1) (eC (.int 0))))
    (sSeq (sIf (eB (eInK false (eVar 2) (kC tt_WORDED))) (sSeq (sRet (eAnd (eOp oEq (eFn oLenN (eCons (eVar 1) eNil)) (eC (.int 2))) (eAnd (eCall 2 F_is_text (eCons (eOp oIx (eVar 1) (eC (.int 1))) (eCons (eVar 0) eNil))) (eChain oLe oLe (eC (.int 1)) (eFn oLenN (eCons (eOp oIx (eVar 1) (eC (.int 1))) eNil)) (eC (.int 6))))))
    sNil) sNil)
    (sSeq (sIf (eB (eOp oEq (eVar 2) (eC (.str (Str.ofString "least"))))) (sSeq (sRet (eAnd (eOp oEq (eFn oLenN (eCons (eVar 1) eNil)) (eC (.int 3))) (eAnd (eCall 3 F_is_number (eCons (eOp oIx (eVar 1) (eC (.int 1))) (eCons (eC (.int 1)) (eCons (eC (.int 6)) eNil)))) (eCall 3 F_is_number (eCons (eOp oIx (eVar 1) (eC (.int 2))) (eCons (eC (.int 0)) (eCons (eOp oSub (eVar 0) (eC (.int 1))) eNil)))))))
    sNil) sNil)
    (sSeq (sIf (eB (eOp oEq (eVar 2) (eC (.str (Str.ofString "sum"))))) (sSeq (sRet (eAnd (eOp oEq (eFn oLenN (eCons (eVar 1) eNil)) (eC (.int 4))) (eCall 2 F_is_weighing (eCons (eVar 0) (eCons (eVar 1) eNil)))))
    sNil) sNil)
    (sSeq (sRet (eAnd (eOp oEq (eVar 2) (eC (.str (Str.ofString "void")))) (eOp oEq (eFn oLenN (eCons (eVar 1) eNil)) (eC (.int 1)))))
    sNil)))))
def F_is_plain : On' := defA 3 S_is_plain
set_option maxHeartbeats 16000000 in
theorem ok_is_plain {fa : Addr} {fd : FuncData} (T : Txt w K mg) (G_is_text : FnX P w K mg Tb base "is_text" 3 2 F_is_text) (G_is_number : FnX P w K mg Tb base "is_number" 1 3 F_is_number) (G_is_weighing : FnX P w K mg Tb base "is_weighing" 3 2 F_is_weighing) (F : Fun K "is_plain" "is_plain" s_is_plain fa fd) (hm : mg "is_plain" = some (.ref fa)) : FnX P w K mg Tb base "is_plain" 4 2 F_is_plain := by
  refine ⟨fa, fd, ["letters", "value"], fn_A (k := 3) F sc_is_plain (fun cdv A outer s₀ H E hr => ?_), hm, F.kp, F.binds (ps := ["letters", "value"]) fun _ _ _ _ _ _ us hl => match us, hl with | [_, _], _ => rfl⟩
  unfold S_is_plain
  exact (ass_cons (as_set 2 sc_is_plain.nd (ae_ix (ae_v 1) ae_int))
    (ass_cons (as_if (at_inK (ae_v 2) (ak_nm T.g_WORDED.choose_spec.1 T.g_WORDED.choose_spec.2)) (ass_cons (as_ret (ae_and (ae_cmp (op_eqA (hu64 hr)) (ae_B cr_lenN T.b_len (aa_cons (ae_v 1) aa_nil)) ae_int) (ae_and (ae_callX G_is_text (hr.mono (by first | decide | omega)) (takes_of rfl rfl rfl rfl) (aa_cons (ae_ix (ae_v 1) ae_int) (aa_cons (ae_v 0) aa_nil))) (ae_one (ae_chain (op_leA) (op_leA) ae_int (ae_B cr_lenN T.b_len (aa_cons (ae_ix (ae_v 1) ae_int) aa_nil)) (ae_glob T.c_MOST_WORD.choose_spec (fun _ _ => .int 6) ⟨_, rfl⟩))))))
    ass_nil) ass_nil)
    (ass_cons (as_if (at_cmp (op_eqA (hu64 hr)) (ae_v 2) ae_str) (ass_cons (as_ret (ae_and (ae_cmp (op_eqA (hu64 hr)) (ae_B cr_lenN T.b_len (aa_cons (ae_v 1) aa_nil)) ae_int) (ae_and (ae_callX G_is_number (hr.mono (by first | decide | omega)) (takes_of rfl rfl rfl rfl) (aa_cons (ae_ix (ae_v 1) ae_int) (aa_cons ae_int (aa_cons (ae_glob T.c_MOST_TIMES.choose_spec (fun _ _ => .int 6) ⟨_, rfl⟩) aa_nil)))) (ae_one (ae_callX G_is_number (hr.mono (by first | decide | omega)) (takes_of rfl rfl rfl rfl) (aa_cons (ae_ix (ae_v 1) ae_int) (aa_cons ae_int (aa_cons (ae_op op_subA (ae_v 0) ae_int) aa_nil))))))))
    ass_nil) ass_nil)
    (ass_cons (as_if (at_cmp (op_eqA (hu64 hr)) (ae_v 2) ae_str) (ass_cons (as_ret (ae_and (ae_cmp (op_eqA (hu64 hr)) (ae_B cr_lenN T.b_len (aa_cons (ae_v 1) aa_nil)) ae_int) (ae_one (ae_callX G_is_weighing (hr.mono (by first | decide | omega)) (takes_of rfl rfl rfl rfl) (aa_cons (ae_v 0) (aa_cons (ae_v 1) aa_nil))))))
    ass_nil) ass_nil)
    (ass_cons (as_ret (ae_and (ae_cmp (op_eqA (hu64 hr)) (ae_v 2) ae_str) (ae_one (ae_cmp (op_eqA (hu64 hr)) (ae_B cr_lenN T.b_len (aa_cons (ae_v 1) aa_nil)) ae_int))))
    ass_nil)))))
abbrev s_is_ask : Stmt := topS 115
theorem sc_is_ask : FnScope ["letters", "value", "depth", "part"] ["letters", "value", "depth"] (defScope s_is_ask) := ⟨rfl, rfl, rfl, by decide +kernel, rfl, by decide +kernel, by decide +kernel⟩
def S_is_ask (R_is_ask : On') : SF :=
  (sSeq (sIf (bOr (eB (eOp oGt (eVar 2) (eC (.int 6)))) (bOr (bNot (eT (eFn oIsi (eCons (eVar 1) (eCons (eC (.ty "tuple")) eNil))))) (eB (eOp oEq (eFn oLenN (eCons (eVar 1) eNil)) (eC (.int 0)))))) (sSeq (sRet (eC (.bl false)))
    sNil) sNil)
    (sSeq (sIf (eB (eOp oEq (eOp oIx (eVar 1) (eC (.int 0))) (eC (.str (Str.ofString "not"))))) (sSeq (sRet (eAnd (eOp oEq (eFn oLenN (eCons (eVar 1) eNil)) (eC (.int 2))) (eCall 3 R_is_ask (eCons (eVar 0) (eCons (eOp oIx (eVar 1) (eC (.int 1))) (eCons (eOp oAdd (eVar 2) (eC (.int 1))) eNil))))))
    sNil) sNil)
    (sSeq (sIf (eB (eInK false (eOp oIx (eVar 1) (eC (.int 0))) (kC tt_JOINING))) (sSeq (sRet (eAnd (eOp oEq (eFn oLenN (eCons (eVar 1) eNil)) (eC (.int 3))) (eFn oAll (eCons (eLc (iSeq (eSl (eVar 1) (ePart (eC (.int 1))) eNoPart)) (.nm 3) bYes (eCall 3 R_is_ask (eCons (eVar 0) (eCons (eVar 3) (eCons (eOp oAdd (eVar 2) (eC (.int 1))) eNil)))) [3]) eNil))))
    sNil) sNil)
    (sSeq (sRet (eCall 2 F_is_plain (eCons (eVar 0) (eCons (eVar 1) eNil))))
    sNil))))
def F_is_ask : Nat → On'
  | 0 => fun _ _ => .bad
  | n + 1 => defA 4 (S_is_ask (F_is_ask n))
set_option maxHeartbeats 16000000 in
theorem ok_is_ask {fa : Addr} {fd : FuncData} (T : Txt w K mg) (G_is_plain : FnX P w K mg Tb base "is_plain" 4 2 F_is_plain) (F : Fun K "is_ask" "is_ask" s_is_ask fa fd) (hm : mg "is_ask" = some (.ref fa)) : ∀ n, FnX P w K mg Tb base "is_ask" (4 + n) 3 (F_is_ask n)
  | 0 => ⟨fa, fd, ["letters", "value", "depth"], fn_bad, hm, F.kp, F.binds (ps := ["letters", "value", "depth"]) fun _ _ _ _ _ _ us hl => match us, hl with | [_, _, _], _ => rfl⟩
  | n + 1 => by
    have G_is_ask := ok_is_ask T G_is_plain F hm n
    refine ⟨fa, fd, ["letters", "value", "depth"], fn_A (k := 4 + n) F sc_is_ask (fun cdv A outer s₀ H E hr => ?_), hm, F.kp, F.binds (ps := ["letters", "value", "depth"]) fun _ _ _ _ _ _ us hl => match us, hl with | [_, _, _], _ => rfl⟩
    unfold S_is_ask
    exact (ass_cons (as_if (AW.at (aw_or (at_cmp (op_gtA) (ae_v 2) (ae_glob T.c_MOST_WITHIN.choose_spec (fun _ _ => .int 6) ⟨_, rfl⟩)) (aw_or (at_not (at_val (ae_B cr_isi T.b_isinstance (aa_cons (ae_v 1) (aa_cons (ae_type T.b_tuple) aa_nil))))) (aw_or1 (at_cmp (op_eqA (hu64 hr)) (ae_B cr_lenN T.b_len (aa_cons (ae_v 1) aa_nil)) ae_int))))) (ass_cons (as_ret ae_bl)
    ass_nil) ass_nil)
    (ass_cons (as_if (at_cmp (op_eqA (hu64 hr)) (ae_ix (ae_v 1) ae_int) ae_str) (ass_cons (as_ret (ae_and (ae_cmp (op_eqA (hu64 hr)) (ae_B cr_lenN T.b_len (aa_cons (ae_v 1) aa_nil)) ae_int) (ae_one (ae_callX G_is_ask (hr.mono (by omega)) (takes_of rfl rfl rfl rfl) (aa_cons (ae_v 0) (aa_cons (ae_ix (ae_v 1) ae_int) (aa_cons (ae_op op_addA (ae_v 2) ae_int) aa_nil)))))))
    ass_nil) ass_nil)
    (ass_cons (as_if (at_inK (ae_ix (ae_v 1) ae_int) (ak_nm T.g_JOINING.choose_spec.1 T.g_JOINING.choose_spec.2)) (ass_cons (as_ret (ae_and (ae_cmp (op_eqA (hu64 hr)) (ae_B cr_lenN T.b_len (aa_cons (ae_v 1) aa_nil)) ae_int) (ae_one (ae_B (cr_allA rfl) T.b_all (aa_cons (ae_lc [("part", 3)] rfl sc_is_ask.nd (blkOk_by rfl) (by decide) (ai_seq (ae_sl (ae_v 1) (ap_some ae_int) ap_none)) (fun _ _ _ _ _ => (ag_nm 3 sc_is_ask.nd)) (fun _ _ _ _ _ => ats_nil) (fun _ _ _ _ _ => (ae_callX G_is_ask (hr.mono (by omega)) takes0 (aa_cons (ae_v 0) (aa_cons (ae_v 3) (aa_cons (ae_op op_addA (ae_v 2) ae_int) aa_nil)))))) aa_nil)))))
    ass_nil) ass_nil)
    (ass_cons (as_ret (ae_callX G_is_plain (hr.mono (by first | decide | omega)) (takes_of rfl rfl rfl rfl) (aa_cons (ae_v 0) (aa_cons (ae_v 1) aa_nil))))
    ass_nil))))
abbrev s_plains_of : Stmt := topS 118
theorem sc_plains_of : FnScope ["ask"] ["ask"] (defScope s_plains_of) := ⟨rfl, rfl, rfl, by decide +kernel, rfl, by decide +kernel, by decide +kernel⟩
def S_plains_of (R_plains_of : On') : SF :=
  (sSeq (sIf (eB (eOp oEq (eOp oIx (eVar 0) (eC (.int 0))) (eC (.str (Str.ofString "not"))))) (sSeq (sRet (eCall 1 R_plains_of (eCons (eOp oIx (eVar 0) (eC (.int 1))) eNil)))
    sNil) sNil)
    (sSeq (sIf (eB (eInK false (eOp oIx (eVar 0) (eC (.int 0))) (kC tt_JOINING))) (sSeq (sRet (eOp oAdd (eCall 1 R_plains_of (eCons (eOp oIx (eVar 0) (eC (.int 1))) eNil)) (eCall 1 R_plains_of (eCons (eOp oIx (eVar 0) (eC (.int 2))) eNil))))
    sNil) sNil)
    (sSeq (sRet (eLst (eCons (eVar 0) eNil)))
    sNil)))
def F_plains_of : Nat → On'
  | 0 => fun _ _ => .bad
  | n + 1 => defA 1 (S_plains_of (F_plains_of n))
set_option maxHeartbeats 16000000 in
theorem ok_plains_of {fa : Addr} {fd : FuncData} (T : Txt w K mg)  (F : Fun K "plains_of" "plains_of" s_plains_of fa fd) (hm : mg "plains_of" = some (.ref fa)) : ∀ n, FnX P w K mg Tb base "plains_of" (0 + n) 1 (F_plains_of n)
  | 0 => ⟨fa, fd, ["ask"], fn_bad, hm, F.kp, F.binds (ps := ["ask"]) fun _ _ _ _ _ _ us hl => match us, hl with | [_], _ => rfl⟩
  | n + 1 => by
    have G_plains_of := ok_plains_of T  F hm n
    refine ⟨fa, fd, ["ask"], fn_A (k := 0 + n) F sc_plains_of (fun cdv A outer s₀ H E hr => ?_), hm, F.kp, F.binds (ps := ["ask"]) fun _ _ _ _ _ _ us hl => match us, hl with | [_], _ => rfl⟩
    unfold S_plains_of
    exact (ass_cons (as_if (at_cmp (op_eqA (hu64 hr)) (ae_ix (ae_v 0) ae_int) ae_str) (ass_cons (as_ret (ae_callX G_plains_of (hr.mono (by omega)) (takes_of rfl rfl rfl rfl) (aa_cons (ae_ix (ae_v 0) ae_int) aa_nil)))
    ass_nil) ass_nil)
    (ass_cons (as_if (at_inK (ae_ix (ae_v 0) ae_int) (ak_nm T.g_JOINING.choose_spec.1 T.g_JOINING.choose_spec.2)) (ass_cons (as_ret (ae_op op_addA (ae_callX G_plains_of (hr.mono (by omega)) (takes_of rfl rfl rfl rfl) (aa_cons (ae_ix (ae_v 0) ae_int) aa_nil)) (ae_callX G_plains_of (hr.mono (by omega)) (takes_of rfl rfl rfl rfl) (aa_cons (ae_ix (ae_v 0) ae_int) aa_nil))))
    ass_nil) ass_nil)
    (ass_cons (as_ret (ae_lst (aa_cons (ae_v 0) aa_nil)))
    ass_nil)))
abbrev s_check_ask : Stmt := topS 114
theorem sc_check_ask : FnScope ["letters", "ask"] ["letters", "ask"] (defScope s_check_ask) := ⟨rfl, rfl, rfl, by decide +kernel, rfl, by decide +kernel, by decide +kernel⟩
def S_check_ask : SF :=
  (sSeq (sIf (bOr (bNot (eT (eCall 3 (F_is_ask 8) (eCons (eVar 0) (eCons (eVar 1) (eCons (eC (.int 1)) eNil)))))) (eB (eOp oGt (eFn oLenN (eCons (eCall 1 (F_plains_of 8) (eCons (eVar 1) eNil)) eNil)) (eC (.int 16))))) (sSeq (sRaise0 "BadAsk")
    sNil) sNil)
    sNil)
def F_check_ask : On' := defA 2 S_check_ask
set_option maxHeartbeats 16000000 in
theorem ok_check_ask {fa : Addr} {fd : FuncData} (T : Txt w K mg) (G_is_ask : FnX P w K mg Tb base "is_ask" 12 3 (F_is_ask 8)) (G_plains_of : FnX P w K mg Tb base "plains_of" 8 1 (F_plains_of 8)) (F : Fun K "check_ask" "check_ask" s_check_ask fa fd) (hm : mg "check_ask" = some (.ref fa)) : FnX P w K mg Tb base "check_ask" 13 2 F_check_ask := by
  refine ⟨fa, fd, ["letters", "ask"], fn_A (k := 12) F sc_check_ask (fun cdv A outer s₀ H E hr => ?_), hm, F.kp, F.binds (ps := ["letters", "ask"]) fun _ _ _ _ _ _ us hl => match us, hl with | [_, _], _ => rfl⟩
  unfold S_check_ask
  exact (ass_cons (as_if (AW.at (aw_or (at_not (at_val (ae_callX G_is_ask (hr.mono (by first | decide | omega)) (takes_of rfl rfl rfl rfl) (aa_cons (ae_v 0) (aa_cons (ae_v 1) (aa_cons ae_int aa_nil)))))) (aw_or1 (at_cmp (op_gtA) (ae_B cr_lenN T.b_len (aa_cons (ae_callX G_plains_of (hr.mono (by first | decide | omega)) (takes_of rfl rfl rfl rfl) (aa_cons (ae_v 1) aa_nil)) aa_nil)) (ae_glob T.c_MOST_PLAIN.choose_spec (fun _ _ => .int 16) ⟨_, rfl⟩))))) (ass_cons (as_raiseC rfl (takes_of rfl rfl rfl rfl) T.e_BadAsk)
    ass_nil) ass_nil)
    ass_nil)
abbrev s_check_text : Stmt := topS 27
theorem sc_check_text : FnScope ["text", "letters"] ["text", "letters"] (defScope s_check_text) := ⟨rfl, rfl, rfl, by decide +kernel, rfl, by decide +kernel, by decide +kernel⟩
def S_check_text : SF :=
  (sSeq (sIf (bOr (bNot (eT (eCall 2 F_is_text (eCons (eVar 0) (eCons (eVar 1) eNil))))) (eB (eOp oGt (eFn oLenN (eCons (eVar 0) eNil)) (eC (.int 60))))) (sSeq (sRaise0 "BadText")
    sNil) sNil)
    sNil)
def F_check_text : On' := defA 2 S_check_text
set_option maxHeartbeats 16000000 in
theorem ok_check_text {fa : Addr} {fd : FuncData} (T : Txt w K mg) (G_is_text : FnX P w K mg Tb base "is_text" 3 2 F_is_text) (F : Fun K "check_text" "check_text" s_check_text fa fd) (hm : mg "check_text" = some (.ref fa)) : FnX P w K mg Tb base "check_text" 4 2 F_check_text := by
  refine ⟨fa, fd, ["text", "letters"], fn_A (k := 3) F sc_check_text (fun cdv A outer s₀ H E hr => ?_), hm, F.kp, F.binds (ps := ["text", "letters"]) fun _ _ _ _ _ _ us hl => match us, hl with | [_, _], _ => rfl⟩
  unfold S_check_text
  exact (ass_cons (as_if (AW.at (aw_or (at_not (at_val (ae_callX G_is_text (hr.mono (by first | decide | omega)) (takes_of rfl rfl rfl rfl) (aa_cons (ae_v 0) (aa_cons (ae_v 1) aa_nil))))) (aw_or1 (at_cmp (op_gtA) (ae_B cr_lenN T.b_len (aa_cons (ae_v 0) aa_nil)) (ae_glob T.c_MOST_TEXT.choose_spec (fun _ _ => .int 60) ⟨_, rfl⟩))))) (ass_cons (as_raiseC rfl (takes_of rfl rfl rfl rfl) T.e_BadText)
    ass_nil) ass_nil)
    ass_nil)
abbrev s_is_true : Stmt := topS 112
theorem sc_is_true : FnScope ["letters", "ask", "text", "truths", "plain", "known", "letter"] ["letters", "ask", "text"] (defScope s_is_true) := ⟨rfl, rfl, rfl, by decide +kernel, rfl, by decide +kernel, by decide +kernel⟩
def S_is_true : SF :=
  (sSeq (sExpr (eCall 1 F_check_letters (eCons (eVar 0) eNil)))
    (sSeq (sExpr (eCall 2 F_check_ask (eCons (eVar 0) (eCons (eVar 1) eNil))))
    (sSeq (sExpr (eCall 2 F_check_text (eCons (eVar 2) (eCons (eVar 0) eNil))))
    sBad)))
def F_is_true : On' := defA 7 S_is_true
set_option maxHeartbeats 16000000 in
theorem ok_is_true {fa : Addr} {fd : FuncData} (T : Txt w K mg) (G_check_letters : FnX P w K mg Tb base "check_letters" 2 1 F_check_letters) (G_check_ask : FnX P w K mg Tb base "check_ask" 13 2 F_check_ask) (G_check_text : FnX P w K mg Tb base "check_text" 4 2 F_check_text) (F : Fun K "is_true" "is_true" s_is_true fa fd) (hm : mg "is_true" = some (.ref fa)) : FnX P w K mg Tb base "is_true" 14 3 F_is_true := by
  refine ⟨fa, fd, ["letters", "ask", "text"], fn_A (k := 13) F sc_is_true (fun cdv A outer s₀ H E hr => ?_), hm, F.kp, F.binds (ps := ["letters", "ask", "text"]) fun _ _ _ _ _ _ us hl => match us, hl with | [_, _, _], _ => rfl⟩
  unfold S_is_true
  exact (ass_cons (as_expr (ae_callX G_check_letters (hr.mono (by first | decide | omega)) (takes_of rfl rfl rfl rfl) (aa_cons (ae_v 0) aa_nil)))
    (ass_cons (as_expr (ae_callX G_check_ask (hr.mono (by first | decide | omega)) (takes_of rfl rfl rfl rfl) (aa_cons (ae_v 0) (aa_cons (ae_v 1) aa_nil))))
    (ass_cons (as_expr (ae_callX G_check_text (hr.mono (by first | decide | omega)) (takes_of rfl rfl rfl rfl) (aa_cons (ae_v 2) (aa_cons (ae_v 0) aa_nil))))
    ass_never)))
abbrev s_known_behind : Stmt := topS 122
theorem sc_known_behind : FnScope ["plain", "known", "letter"] ["plain", "known", "letter"] (defScope s_known_behind) := ⟨rfl, rfl, rfl, by decide +kernel, rfl, by decide +kernel, by decide +kernel⟩
def S_known_behind : SF :=
  (sSeq (sIf (eB (eOp oIn (eOp oIx (eVar 0) (eC (.int 0))) (eTup (eCons (eC (.str (Str.ofString "begins"))) (eCons (eC (.str (Str.ofString "repeats"))) eNil))))) sBad sNil)
    (sSeq (sIf (eB (eOp oIn (eOp oIx (eVar 0) (eC (.int 0))) (eTup (eCons (eC (.str (Str.ofString "ends"))) (eCons (eC (.str (Str.ofString "holds"))) eNil))))) sBad sNil)
    (sSeq (sIf (eB (eOp oEq (eOp oIx (eVar 0) (eC (.int 0))) (eC (.str (Str.ofString "least"))))) sBad sNil)
    (sSeq (sIf (eB (eOp oEq (eOp oIx (eVar 0) (eC (.int 0))) (eC (.str (Str.ofString "sum"))))) sBad sNil)
    (sSeq (sRet (eC (.int 1)))
    sNil)))))
def F_known_behind : On' := defA 3 S_known_behind
set_option maxHeartbeats 16000000 in
theorem ok_known_behind {fa : Addr} {fd : FuncData} (T : Txt w K mg)  (F : Fun K "known_behind" "known_behind" s_known_behind fa fd) (hm : mg "known_behind" = some (.ref fa)) : FnX P w K mg Tb base "known_behind" 1 3 F_known_behind := by
  refine ⟨fa, fd, ["plain", "known", "letter"], fn_A (k := 0) F sc_known_behind (fun cdv A outer s₀ H E hr => ?_), hm, F.kp, F.binds (ps := ["plain", "known", "letter"]) fun _ _ _ _ _ _ us hl => match us, hl with | [_, _, _], _ => rfl⟩
  unfold S_known_behind
  exact (ass_cons (as_if (at_cmp (op_inA (hu65 hr)) (ae_ix (ae_v 0) ae_int) (ae_tup (aa_cons ae_str (aa_cons ae_str aa_nil)))) ass_never ass_nil)
    (ass_cons (as_if (at_cmp (op_inA (hu65 hr)) (ae_ix (ae_v 0) ae_int) (ae_tup (aa_cons ae_str (aa_cons ae_str aa_nil)))) ass_never ass_nil)
    (ass_cons (as_if (at_cmp (op_eqA (hu64 hr)) (ae_ix (ae_v 0) ae_int) ae_str) ass_never ass_nil)
    (ass_cons (as_if (at_cmp (op_eqA (hu64 hr)) (ae_ix (ae_v 0) ae_int) ae_str) ass_never ass_nil)
    (ass_cons (as_ret ae_int)
    ass_nil)))))
abbrev s_most_known : Stmt := topS 121
theorem sc_most_known : FnScope ["plain"] ["plain"] (defScope s_most_known) := ⟨rfl, rfl, rfl, by decide +kernel, rfl, by decide +kernel, by decide +kernel⟩
def S_most_known : SF :=
  (sSeq (sIf (eB (eInK false (eOp oIx (eVar 0) (eC (.int 0))) (kC tt_WORDED))) sBad sNil)
    (sSeq (sIf (eB (eOp oEq (eOp oIx (eVar 0) (eC (.int 0))) (eC (.str (Str.ofString "least"))))) sBad sNil)
    (sSeq (sRet (eIf (eB (eOp oEq (eOp oIx (eVar 0) (eC (.int 0))) (eC (.str (Str.ofString "sum"))))) (eOp oSub (eOp oIx (eVar 0) (eC (.int 2))) (eC (.int 1))) (eC (.int 1))))
    sNil)))
def F_most_known : On' := defA 1 S_most_known
set_option maxHeartbeats 16000000 in
theorem ok_most_known {fa : Addr} {fd : FuncData} (T : Txt w K mg)  (F : Fun K "most_known" "most_known" s_most_known fa fd) (hm : mg "most_known" = some (.ref fa)) : FnX P w K mg Tb base "most_known" 1 1 F_most_known := by
  refine ⟨fa, fd, ["plain"], fn_A (k := 0) F sc_most_known (fun cdv A outer s₀ H E hr => ?_), hm, F.kp, F.binds (ps := ["plain"]) fun _ _ _ _ _ _ us hl => match us, hl with | [_], _ => rfl⟩
  unfold S_most_known
  exact (ass_cons (as_if (at_inK (ae_ix (ae_v 0) ae_int) (ak_nm T.g_WORDED.choose_spec.1 T.g_WORDED.choose_spec.2)) ass_never ass_nil)
    (ass_cons (as_if (at_cmp (op_eqA (hu64 hr)) (ae_ix (ae_v 0) ae_int) ae_str) ass_never ass_nil)
    (ass_cons (as_ret (ae_if (at_cmp (op_eqA (hu64 hr)) (ae_ix (ae_v 0) ae_int) ae_str) (ae_op op_subA (ae_ix (ae_v 0) ae_int) ae_int) ae_int))
    ass_nil)))
abbrev s_table_behind : Stmt := topS 120
theorem sc_table_behind : FnScope ["plain", "letter", "known"] ["plain", "letter"] (defScope s_table_behind) := ⟨rfl, rfl, rfl, by decide +kernel, rfl, by decide +kernel, by decide +kernel⟩
def S_table_behind : SF :=
  (sSeq (sRet (eFn oTuple (eCons (eLc (iRng1 (eCons (eOp oAdd (eCall 1 F_most_known (eCons (eVar 0) eNil)) (eC (.int 1))) eNil)) (.nm 2) bYes (eCall 3 F_known_behind (eCons (eVar 0) (eCons (eVar 2) (eCons (eVar 1) eNil)))) [2]) eNil)))
    sNil)
def F_table_behind : On' := defA 3 S_table_behind
set_option maxHeartbeats 16000000 in
theorem ok_table_behind {fa : Addr} {fd : FuncData} (T : Txt w K mg) (G_most_known : FnX P w K mg Tb base "most_known" 1 1 F_most_known) (G_known_behind : FnX P w K mg Tb base "known_behind" 1 3 F_known_behind) (F : Fun K "table_behind" "table_behind" s_table_behind fa fd) (hm : mg "table_behind" = some (.ref fa)) : FnX P w K mg Tb base "table_behind" 2 2 F_table_behind := by
  refine ⟨fa, fd, ["plain", "letter"], fn_A (k := 1) F sc_table_behind (fun cdv A outer s₀ H E hr => ?_), hm, F.kp, F.binds (ps := ["plain", "letter"]) fun _ _ _ _ _ _ us hl => match us, hl with | [_, _], _ => rfl⟩
  unfold S_table_behind
  exact (ass_cons (as_ret (ae_Ty cr_tuple T.b_tuple (aa_cons (ae_lc [("known", 2)] rfl sc_table_behind.nd (blkOk_by rfl) (by decide) (ai_rng1 T.b_range (aa_cons (ae_op op_addA (ae_callX G_most_known (hr.mono (by first | decide | omega)) (takes_of rfl rfl rfl rfl) (aa_cons (ae_v 0) aa_nil)) ae_int) aa_nil)) (fun _ _ _ _ _ => (ag_nm 2 sc_table_behind.nd)) (fun _ _ _ _ _ => ats_nil) (fun _ _ _ _ _ => (ae_callX G_known_behind (hr.mono (by first | decide | omega)) takes0 (aa_cons (ae_v 0) (aa_cons (ae_v 2) (aa_cons (ae_v 1) aa_nil)))))) aa_nil)))
    ass_nil)
abbrev s_numbered : Stmt := topS 29
theorem sc_numbered : FnScope ["start", "moves", "most", "memories", "numbers", "steps", "memory", "row", "move", "reached", "place", "table"] ["start", "moves", "most"] (defScope s_numbered) := ⟨rfl, rfl, rfl, by decide +kernel, rfl, by decide +kernel, by decide +kernel⟩
def S_numbered : SF :=
  (sSeq (sAsg (.nm 3) (eLst (eCons (eVar 0) eNil)))
    (sSeq (sAsg (.nm 4) (eDispT (eVar 0) (eC (.int 0))))
    (sSeq (sAsg (.nm 5) (eLst eNil))
    (sSeq (fun τ M => whileA (eB (eOp oLt (eFn oLenN (eCons (eVar 5) eNil)) (eFn oLenN (eCons (eVar 3) eNil)))) (sSeq (sAsg (.nm 6) (eOp oIx (eVar 3) (eFn oLenN (eCons (eVar 5) eNil))))
    (sSeq (sAsg (.nm 7) (eLst eNil))
    (sSeq (sFor (iSeq (eVar 1)) (.nm 8) (sSeq (sAsg (.nm 9) (eFn oTuple (eCons (eLc (iSeq (eVar 8)) (.tp [(.nm 10), (.nm 11)]) bYes (eOp oIx (eVar 11) (eOp oIx (eVar 6) (eVar 10))) [10, 11]) eNil)))
    (sSeq (sIf (eB (eOp oNotIn (eVar 9) (eVar 4))) (sSeq (sDput (eVar 4) (eVar 9) (eFn oLenN (eCons (eVar 3) eNil)))
    (sSeq (sExpr (eMeth oAppend (eVar 3) (eCons (eVar 9) eNil)))
    sNil)) sNil)
    (sSeq (sExpr (eMeth oAppend (eVar 7) (eCons (eOp oDget (eVar 4) (eVar 9)) eNil)))
    sNil))))
    (sSeq (sIf (eB (eOp oGt (eFn oLenN (eCons (eVar 3) eNil)) (eVar 2))) sBad sNil)
    (sSeq (sExpr (eMeth oAppend (eVar 5) (eCons (eFn oTuple (eCons (eVar 7) eNil)) eNil)))
    sNil))))) fuel τ M)
    (sSeq (sRet (eTup (eCons (eFn oTuple (eCons (eVar 5) eNil)) (eCons (eVar 3) eNil))))
    sNil)))))
def F_numbered : On' := defA 12 S_numbered
set_option maxHeartbeats 16000000 in
theorem ok_numbered {fa : Addr} {fd : FuncData} (T : Txt w K mg)  (F : Fun K "numbered" "numbered" s_numbered fa fd) (hm : mg "numbered" = some (.ref fa)) : FnX P w K mg Tb base "numbered" 1 3 F_numbered := by
  refine ⟨fa, fd, ["start", "moves", "most"], fn_A (k := 0) F sc_numbered (fun cdv A outer s₀ H E hr => ?_), hm, F.kp, F.binds (ps := ["start", "moves", "most"]) fun _ _ _ _ _ _ us hl => match us, hl with | [_, _, _], _ => rfl⟩
  unfold S_numbered
  exact (ass_cons (as_set 3 sc_numbered.nd (ae_lst (aa_cons (ae_v 0) aa_nil)))
    (ass_cons (as_set 4 sc_numbered.nd (ae_dispT (hu1 hr) (ae_v 0) ae_int))
    (ass_cons (as_set 5 sc_numbered.nd (ae_lst aa_nil))
    (ass_cons (as_while (fun _ _ => fuel) (passes_of rfl) (at_cmp (op_ltA) (ae_B cr_lenN T.b_len (aa_cons (ae_v 5) aa_nil)) (ae_B cr_lenN T.b_len (aa_cons (ae_v 3) aa_nil))) (ass_cons (as_set 6 sc_numbered.nd (ae_ix (ae_v 3) (ae_B cr_lenN T.b_len (aa_cons (ae_v 5) aa_nil))))
    (ass_cons (as_set 7 sc_numbered.nd (ae_lst aa_nil))
    (ass_cons (as_for (passes_of rfl) rfl (ai_seq (ae_v 1)) (ag_nm 8 sc_numbered.nd) (ass_cons (as_set 9 sc_numbered.nd (ae_Ty cr_tuple T.b_tuple (aa_cons (ae_lc [("place", 10), ("table", 11)] rfl sc_numbered.nd (blkOk_by rfl) (by decide) (ai_seq (ae_v 8)) (fun _ _ _ _ _ => (ag_tp rfl (ags_cons (ag_nm 10 sc_numbered.nd) (ags_cons (ag_nm 11 sc_numbered.nd) ags_nil)))) (fun _ _ _ _ _ => ats_nil) (fun _ _ _ _ _ => (ae_ix (ae_v 11) (ae_ix (ae_v 6) (ae_v 10))))) aa_nil)))
    (ass_cons (as_if (at_cmp (op_notInA (hu65 hr)) (ae_v 9) (ae_v 4)) (ass_cons (as_dput (hu1 hr) (ae_v 4) (ae_v 9) (ae_B cr_lenN T.b_len (aa_cons (ae_v 3) aa_nil)))
    (ass_cons (as_expr (ae_append (ae_v 3) (aa_cons (ae_v 9) aa_nil)))
    ass_nil)) ass_nil)
    (ass_cons (as_expr (ae_append (ae_v 7) (aa_cons (ae_dget (hu1 hr) (ae_v 4) (ae_v 9)) aa_nil)))
    ass_nil))))
    (ass_cons (as_if (at_cmp (op_gtA) (ae_B cr_lenN T.b_len (aa_cons (ae_v 3) aa_nil)) (ae_v 2)) ass_never ass_nil)
    (ass_cons (as_expr (ae_append (ae_v 5) (aa_cons (ae_Ty cr_tuple T.b_tuple (aa_cons (ae_v 7) aa_nil)) aa_nil)))
    ass_nil))))))
    (ass_cons (as_ret (ae_tup (aa_cons (ae_Ty cr_tuple T.b_tuple (aa_cons (ae_v 5) aa_nil)) (aa_cons (ae_v 3) aa_nil))))
    ass_nil)))))
abbrev s_is_met : Stmt := topS 125
theorem sc_is_met : FnScope ["plain", "known"] ["plain", "known"] (defScope s_is_met) := ⟨rfl, rfl, rfl, by decide +kernel, rfl, by decide +kernel, by decide +kernel⟩
def S_is_met : SF :=
  (sSeq (sIf (eB (eOp oIn (eOp oIx (eVar 0) (eC (.int 0))) (eTup (eCons (eC (.str (Str.ofString "repeats"))) (eCons (eC (.str (Str.ofString "void"))) eNil))))) (sSeq (sRet (eOp oEq (eVar 1) (eC (.int 0))))
    sNil) sNil)
    (sSeq (sIf (eB (eInK false (eOp oIx (eVar 0) (eC (.int 0))) (kC tt_WORDED))) sBad sNil)
    sBad))
def F_is_met : On' := defA 2 S_is_met
set_option maxHeartbeats 16000000 in
theorem ok_is_met {fa : Addr} {fd : FuncData} (T : Txt w K mg)  (F : Fun K "is_met" "is_met" s_is_met fa fd) (hm : mg "is_met" = some (.ref fa)) : FnX P w K mg Tb base "is_met" 1 2 F_is_met := by
  refine ⟨fa, fd, ["plain", "known"], fn_A (k := 0) F sc_is_met (fun cdv A outer s₀ H E hr => ?_), hm, F.kp, F.binds (ps := ["plain", "known"]) fun _ _ _ _ _ _ us hl => match us, hl with | [_, _], _ => rfl⟩
  unfold S_is_met
  exact (ass_cons (as_if (at_cmp (op_inA (hu65 hr)) (ae_ix (ae_v 0) ae_int) (ae_tup (aa_cons ae_str (aa_cons ae_str aa_nil)))) (ass_cons (as_ret (ae_cmp (op_eqA (hu64 hr)) (ae_v 1) ae_int))
    ass_nil) ass_nil)
    (ass_cons (as_if (at_inK (ae_ix (ae_v 0) ae_int) (ak_nm T.g_WORDED.choose_spec.1 T.g_WORDED.choose_spec.2)) ass_never ass_nil)
    ass_never))
abbrev s_is_joined : Stmt := topS 119
theorem sc_is_joined : FnScope ["ask", "truths"] ["ask", "truths"] (defScope s_is_joined) := ⟨rfl, rfl, rfl, by decide +kernel, rfl, by decide +kernel, by decide +kernel⟩
def S_is_joined (R_is_joined : On') : SF :=
  (sSeq (sIf (eB (eOp oEq (eOp oIx (eVar 0) (eC (.int 0))) (eC (.str (Str.ofString "not"))))) (sSeq (sRet (eNot (eCall 2 R_is_joined (eCons (eOp oIx (eVar 0) (eC (.int 1))) (eCons (eVar 1) eNil)))))
    sNil) sNil)
    (sSeq (sIf (eB (eOp oEq (eOp oIx (eVar 0) (eC (.int 0))) (eC (.str (Str.ofString "and"))))) (sSeq (sRet (eAnd (eCall 2 R_is_joined (eCons (eOp oIx (eVar 0) (eC (.int 1))) (eCons (eVar 1) eNil))) (eCall 2 R_is_joined (eCons (eOp oIx (eVar 0) (eC (.int 2))) (eCons (eVar 1) eNil)))))
    sNil) sNil)
    (sSeq (sIf (eB (eOp oEq (eOp oIx (eVar 0) (eC (.int 0))) (eC (.str (Str.ofString "or"))))) (sSeq (sRet (eOr (eCall 2 R_is_joined (eCons (eOp oIx (eVar 0) (eC (.int 1))) (eCons (eVar 1) eNil))) (eCall 2 R_is_joined (eCons (eOp oIx (eVar 0) (eC (.int 2))) (eCons (eVar 1) eNil)))))
    sNil) sNil)
    (sSeq (sRet (eOp oNget (eVar 1) (eVar 0)))
    sNil))))
def F_is_joined : Nat → On'
  | 0 => fun _ _ => .bad
  | n + 1 => defA 2 (S_is_joined (F_is_joined n))
set_option maxHeartbeats 16000000 in
theorem ok_is_joined {fa : Addr} {fd : FuncData} (T : Txt w K mg)  (F : Fun K "is_joined" "is_joined" s_is_joined fa fd) (hm : mg "is_joined" = some (.ref fa)) : ∀ n, FnX P w K mg Tb base "is_joined" (0 + n) 2 (F_is_joined n)
  | 0 => ⟨fa, fd, ["ask", "truths"], fn_bad, hm, F.kp, F.binds (ps := ["ask", "truths"]) fun _ _ _ _ _ _ us hl => match us, hl with | [_, _], _ => rfl⟩
  | n + 1 => by
    have G_is_joined := ok_is_joined T  F hm n
    refine ⟨fa, fd, ["ask", "truths"], fn_A (k := 0 + n) F sc_is_joined (fun cdv A outer s₀ H E hr => ?_), hm, F.kp, F.binds (ps := ["ask", "truths"]) fun _ _ _ _ _ _ us hl => match us, hl with | [_, _], _ => rfl⟩
    unfold S_is_joined
    exact (ass_cons (as_if (at_cmp (op_eqA (hu64 hr)) (ae_ix (ae_v 0) ae_int) ae_str) (ass_cons (as_ret (ae_not (ae_callX G_is_joined (hr.mono (by omega)) (takes_of rfl rfl rfl rfl) (aa_cons (ae_ix (ae_v 0) ae_int) (aa_cons (ae_v 1) aa_nil)))))
    ass_nil) ass_nil)
    (ass_cons (as_if (at_cmp (op_eqA (hu64 hr)) (ae_ix (ae_v 0) ae_int) ae_str) (ass_cons (as_ret (ae_and (ae_callX G_is_joined (hr.mono (by omega)) (takes_of rfl rfl rfl rfl) (aa_cons (ae_ix (ae_v 0) ae_int) (aa_cons (ae_v 1) aa_nil))) (ae_one (ae_callX G_is_joined (hr.mono (by omega)) (takes_of rfl rfl rfl rfl) (aa_cons (ae_ix (ae_v 0) ae_int) (aa_cons (ae_v 1) aa_nil))))))
    ass_nil) ass_nil)
    (ass_cons (as_if (at_cmp (op_eqA (hu64 hr)) (ae_ix (ae_v 0) ae_int) ae_str) (ass_cons (as_ret (ae_or (ae_callX G_is_joined (hr.mono (by omega)) (takes_of rfl rfl rfl rfl) (aa_cons (ae_ix (ae_v 0) ae_int) (aa_cons (ae_v 1) aa_nil))) (ae_one (ae_callX G_is_joined (hr.mono (by omega)) (takes_of rfl rfl rfl rfl) (aa_cons (ae_ix (ae_v 0) ae_int) (aa_cons (ae_v 1) aa_nil))))))
    ass_nil) ass_nil)
    (ass_cons (as_ret (ae_nget (hu9 hr) (ae_v 1) (ae_v 0)))
    ass_nil))))
abbrev s_parted_groups : Stmt := topS 36
theorem sc_parted_groups : FnScope ["steps", "groups", "numbers", "parted", "state", "row", "sign", "reached"] ["steps", "groups"] (defScope s_parted_groups) := ⟨rfl, rfl, rfl, by decide +kernel, rfl, by decide +kernel, by decide +kernel⟩
def S_parted_groups : SF :=
  (sSeq (sAsg (.nm 2) eNewN)
    (sSeq (sAsg (.nm 3) (eLst eNil))
    (sSeq (sFor (iEnumA (eCons (eVar 0) eNil)) (.tp [(.nm 4), (.nm 5)]) (sSeq (sAsg (.nm 6) (eTup (eCons (eOp oIx (eVar 1) (eVar 4)) (eCons (eFn oTuple (eCons (eLc (iSeq (eVar 5)) (.nm 7) bYes (eOp oIx (eVar 1) (eVar 7)) [7]) eNil)) eNil))))
    (sSeq (sExpr (eMeth oAppend (eVar 3) (eCons (eMethN oSetd (eVar 2) (eCons (eVar 6) (eCons (eFn oLenN (eCons (eVar 2) eNil)) eNil))) eNil)))
    sNil)))
    (sSeq (sRet (eVar 3))
    sNil))))
def F_parted_groups : On' := defA 8 S_parted_groups
set_option maxHeartbeats 16000000 in
theorem ok_parted_groups {fa : Addr} {fd : FuncData} (T : Txt w K mg)  (F : Fun K "parted_groups" "parted_groups" s_parted_groups fa fd) (hm : mg "parted_groups" = some (.ref fa)) : FnX P w K mg Tb base "parted_groups" 1 2 F_parted_groups := by
  refine ⟨fa, fd, ["steps", "groups"], fn_A (k := 0) F sc_parted_groups (fun cdv A outer s₀ H E hr => ?_), hm, F.kp, F.binds (ps := ["steps", "groups"]) fun _ _ _ _ _ _ us hl => match us, hl with | [_, _], _ => rfl⟩
  unfold S_parted_groups
  exact (ass_cons (as_set 2 sc_parted_groups.nd ae_newN)
    (ass_cons (as_set 3 sc_parted_groups.nd (ae_lst aa_nil))
    (ass_cons (as_for (passes_of rfl) rfl (ai_enum T.b_enumerate (aa_cons (ae_v 0) aa_nil)) (ag_tp rfl (ags_cons (ag_nm 4 sc_parted_groups.nd) (ags_cons (ag_nm 5 sc_parted_groups.nd) ags_nil))) (ass_cons (as_set 6 sc_parted_groups.nd (ae_tup (aa_cons (ae_ix (ae_v 1) (ae_v 4)) (aa_cons (ae_Ty cr_tuple T.b_tuple (aa_cons (ae_lc [("reached", 7)] rfl sc_parted_groups.nd (blkOk_by rfl) (by decide) (ai_seq (ae_v 5)) (fun _ _ _ _ _ => (ag_nm 7 sc_parted_groups.nd)) (fun _ _ _ _ _ => ats_nil) (fun _ _ _ _ _ => (ae_ix (ae_v 1) (ae_v 7)))) aa_nil)) aa_nil))))
    (ass_cons (as_expr (ae_append (ae_v 3) (aa_cons (ae_setd (hu9 hr) (ae_v 2) (aa_cons (ae_v 6) (aa_cons (ae_B cr_lenN T.b_len (aa_cons (ae_v 2) aa_nil)) aa_nil))) aa_nil)))
    ass_nil)))
    (ass_cons (as_ret (ae_v 3))
    ass_nil))))
abbrev s_groups_of : Stmt := topS 35
theorem sc_groups_of : FnScope ["question", "most", "groups", "many"] ["question", "most"] (defScope s_groups_of) := ⟨rfl, rfl, rfl, by decide +kernel, rfl, by decide +kernel, by decide +kernel⟩
def S_groups_of : SF :=
  (sSeq (sAsg (.nm 2) (eFn oList (eCons (eOp oIx (eVar 0) (eC (.int 2))) eNil)))
    (sSeq (sAsg (.nm 3) (eC (.int 0)))
    (sSeq (fun τ M => whileA (eB (eOp oGt (eUn oLenSetX (eVar 2)) (eVar 3))) (sSeq (sAsg (.nm 3) (eUn oLenSetX (eVar 2)))
    (sSeq (sIf (bAnd (eB (eOp oIsNot (eVar 1) (eC .non))) (eB (eOp oGt (eVar 3) (eVar 1)))) sBad sNil)
    (sSeq (sAsg (.nm 2) (eCall 2 F_parted_groups (eCons (eOp oIx (eVar 0) (eC (.int 1))) (eCons (eVar 2) eNil))))
    sNil))) fuel τ M)
    (sSeq (sRet (eVar 2))
    sNil))))
def F_groups_of : On' := defA 4 S_groups_of
set_option maxHeartbeats 16000000 in
theorem ok_groups_of {fa : Addr} {fd : FuncData} (T : Txt w K mg) (G_parted_groups : FnX P w K mg Tb base "parted_groups" 1 2 F_parted_groups) (F : FunD K "groups_of" "groups_of" (defArgs s_groups_of) (defBody s_groups_of) (defScope s_groups_of) [.non] [] fa fd) (hm : mg "groups_of" = some (.ref fa)) : FnXD P w K mg Tb base "groups_of" 2 2 [.non] F_groups_of := by
  have h1 := F.binds1 (ps := ["question", "most"]) 2 1 (by simp) rfl fun _ _ _ _ _ _ _ us its hl hd => match us, its, hl, hd with | [_, _], [_], _, _ => ⟨_, rfl, rfl⟩
  have h2 := F.binds1 (ps := ["question", "most"]) 1 0 (by simp) rfl fun _ _ _ _ _ _ _ us its hl hd => match us, its, hl, hd with | [_], [_], _, _ => ⟨_, rfl, rfl⟩
  obtain ⟨u1, v1, h1⟩ := h1
  cases v1
  obtain ⟨u2, v2, h2⟩ := h2
  refine ⟨fa, fd, ["question", "most"], fn_AD (k := 1) (st := s_groups_of) F sc_groups_of (fun cdv A outer s₀ H E hr => ?_), hm, F.kp, h1, u2, h2, _, v2, fun _ _ => .cons .non .nil⟩
  unfold S_groups_of
  exact (ass_cons (as_set 2 sc_groups_of.nd (ae_Ty (cr_list rfl) T.b_list (aa_cons (ae_ix (ae_v 0) ae_int) aa_nil)))
    (ass_cons (as_set 3 sc_groups_of.nd ae_int)
    (ass_cons (as_while (fun _ _ => fuel) (passes_of rfl) (at_cmp (op_gtA) (ae_lenSetX T.b_len T.b_set (ae_v 2)) (ae_v 3)) (ass_cons (as_set 3 sc_groups_of.nd (ae_lenSetX T.b_len T.b_set (ae_v 2)))
    (ass_cons (as_if (AW.at (aw_and (at_cmp (op_isNotA) (ae_v 1) ae_non) (aw_and1 (at_cmp (op_gtA) (ae_v 3) (ae_v 1))))) ass_never ass_nil)
    (ass_cons (as_set 2 sc_groups_of.nd (ae_callX G_parted_groups (hr.mono (by first | decide | omega)) (takes_of rfl rfl rfl rfl) (aa_cons (ae_ix (ae_v 0) ae_int) (aa_cons (ae_v 2) aa_nil))))
    ass_nil))))
    (ass_cons (as_ret (ae_v 2))
    ass_nil))))
abbrev s_least_of : Stmt := topS 34
theorem sc_least_of : FnScope ["question", "most", "groups", "chosen", "numbers", "rows", "letters", "steps", "answers", "state", "row", "reached"] ["question", "most"] (defScope s_least_of) := ⟨rfl, rfl, rfl, by decide +kernel, rfl, by decide +kernel, by decide +kernel⟩
def S_least_of : SF :=
  (sSeq (sAsg (.tp [(.nm 6), (.nm 7), (.nm 8)]) (eVar 0))
    (sSeq (sAsg (.nm 2) (eCall 2 F_groups_of (eCons (eVar 0) (eCons (eVar 1) eNil))))
    (sSeq (sAsg (.nm 3) (eLst (eCons (eC (.int 0)) eNil)))
    (sSeq (sAsg (.nm 4) (eDisp1 (eOp oIx (eVar 2) (eC (.int 0))) (eC (.int 0))))
    (sSeq (sAsg (.nm 5) (eLst eNil))
    (sSeq (fun τ M => whileA (eB (eOp oLt (eFn oLenN (eCons (eVar 5) eNil)) (eFn oLenN (eCons (eVar 3) eNil)))) (sSeq (sAsg (.nm 9) (eOp oIx (eVar 3) (eFn oLenN (eCons (eVar 5) eNil))))
    (sSeq (sAsg (.nm 10) (eLst eNil))
    (sSeq (sFor (iSeq (eOp oIx (eVar 7) (eVar 9))) (.nm 11) (sSeq (sIf (eB (eOp oNotIn (eOp oIx (eVar 2) (eVar 11)) (eVar 4))) (sSeq (sDput (eVar 4) (eOp oIx (eVar 2) (eVar 11)) (eFn oLenN (eCons (eVar 3) eNil)))
    (sSeq (sExpr (eMeth oAppend (eVar 3) (eCons (eVar 11) eNil)))
    sNil)) sNil)
    (sSeq (sExpr (eMeth oAppend (eVar 10) (eCons (eOp oDget (eVar 4) (eOp oIx (eVar 2) (eVar 11))) eNil)))
    sNil)))
    (sSeq (sExpr (eMeth oAppend (eVar 5) (eCons (eFn oTuple (eCons (eVar 10) eNil)) eNil)))
    sNil)))) fuel τ M)
    (sSeq (sRet (eTup (eCons (eVar 6) (eCons (eFn oTuple (eCons (eVar 5) eNil)) (eCons (eFn oTuple (eCons (eLc (iSeq (eVar 3)) (.nm 9) bYes (eOp oIx (eVar 8) (eVar 9)) [9]) eNil)) eNil)))))
    sNil)))))))
def F_least_of : On' := defA 12 S_least_of
set_option maxHeartbeats 16000000 in
theorem ok_least_of {fa : Addr} {fd : FuncData} (T : Txt w K mg) (G_groups_of : FnXD P w K mg Tb base "groups_of" 2 2 [.non] F_groups_of) (F : FunD K "least_of" "least_of" (defArgs s_least_of) (defBody s_least_of) (defScope s_least_of) [.non] [] fa fd) (hm : mg "least_of" = some (.ref fa)) : FnXD P w K mg Tb base "least_of" 3 2 [.non] F_least_of := by
  have h1 := F.binds1 (ps := ["question", "most"]) 2 1 (by simp) rfl fun _ _ _ _ _ _ _ us its hl hd => match us, its, hl, hd with | [_, _], [_], _, _ => ⟨_, rfl, rfl⟩
  have h2 := F.binds1 (ps := ["question", "most"]) 1 0 (by simp) rfl fun _ _ _ _ _ _ _ us its hl hd => match us, its, hl, hd with | [_], [_], _, _ => ⟨_, rfl, rfl⟩
  obtain ⟨u1, v1, h1⟩ := h1
  cases v1
  obtain ⟨u2, v2, h2⟩ := h2
  refine ⟨fa, fd, ["question", "most"], fn_AD (k := 2) (st := s_least_of) F sc_least_of (fun cdv A outer s₀ H E hr => ?_), hm, F.kp, h1, u2, h2, _, v2, fun _ _ => .cons .non .nil⟩
  unfold S_least_of
  exact (ass_cons (as_asg (ae_v 0) (ag_tp rfl (ags_cons (ag_nm 6 sc_least_of.nd) (ags_cons (ag_nm 7 sc_least_of.nd) (ags_cons (ag_nm 8 sc_least_of.nd) ags_nil)))))
    (ass_cons (as_set 2 sc_least_of.nd (ae_callX G_groups_of.x (hr.mono (by first | decide | omega)) (takes_of rfl rfl rfl rfl) (aa_cons (ae_v 0) (aa_cons (ae_v 1) aa_nil))))
    (ass_cons (as_set 3 sc_least_of.nd (ae_lst (aa_cons ae_int aa_nil)))
    (ass_cons (as_set 4 sc_least_of.nd (ae_disp1 (ae_ix (ae_v 2) ae_int) ae_int))
    (ass_cons (as_set 5 sc_least_of.nd (ae_lst aa_nil))
    (ass_cons (as_while (fun _ _ => fuel) (passes_of rfl) (at_cmp (op_ltA) (ae_B cr_lenN T.b_len (aa_cons (ae_v 5) aa_nil)) (ae_B cr_lenN T.b_len (aa_cons (ae_v 3) aa_nil))) (ass_cons (as_set 9 sc_least_of.nd (ae_ix (ae_v 3) (ae_B cr_lenN T.b_len (aa_cons (ae_v 5) aa_nil))))
    (ass_cons (as_set 10 sc_least_of.nd (ae_lst aa_nil))
    (ass_cons (as_for (passes_of rfl) rfl (ai_seq (ae_ix (ae_v 7) (ae_v 9))) (ag_nm 11 sc_least_of.nd) (ass_cons (as_if (at_cmp (op_notInA (hu65 hr)) (ae_ix (ae_v 2) (ae_v 11)) (ae_v 4)) (ass_cons (as_dput (hu1 hr) (ae_v 4) (ae_ix (ae_v 2) (ae_v 11)) (ae_B cr_lenN T.b_len (aa_cons (ae_v 3) aa_nil)))
    (ass_cons (as_expr (ae_append (ae_v 3) (aa_cons (ae_v 11) aa_nil)))
    ass_nil)) ass_nil)
    (ass_cons (as_expr (ae_append (ae_v 10) (aa_cons (ae_dget (hu1 hr) (ae_v 4) (ae_ix (ae_v 2) (ae_v 11))) aa_nil)))
    ass_nil)))
    (ass_cons (as_expr (ae_append (ae_v 5) (aa_cons (ae_Ty cr_tuple T.b_tuple (aa_cons (ae_v 10) aa_nil)) aa_nil)))
    ass_nil)))))
    (ass_cons (as_ret (ae_tup (aa_cons (ae_v 6) (aa_cons (ae_Ty cr_tuple T.b_tuple (aa_cons (ae_v 5) aa_nil)) (aa_cons (ae_Ty cr_tuple T.b_tuple (aa_cons (ae_lc [("state", 9)] rfl sc_least_of.nd (blkOk_by rfl) (by decide) (ai_seq (ae_v 3)) (fun _ _ _ _ _ => (ag_nm 9 sc_least_of.nd)) (fun _ _ _ _ _ => ats_nil) (fun _ _ _ _ _ => (ae_ix (ae_v 8) (ae_v 9)))) aa_nil)) aa_nil)))))
    ass_nil)))))))
abbrev s_question_of : Stmt := topS 113
theorem sc_question_of : FnScope ["letters", "ask", "plains", "moves", "letter", "answers", "row", "steps", "rows", "truths", "plain", "known", "place"] ["letters", "ask"] (defScope s_question_of) := ⟨rfl, rfl, rfl, by decide +kernel, rfl, by decide +kernel, by decide +kernel⟩
def S_question_of : SF :=
  (sSeq (sExpr (eCall 1 F_check_letters (eCons (eVar 0) eNil)))
    (sSeq (sExpr (eCall 2 F_check_ask (eCons (eVar 0) (eCons (eVar 1) eNil))))
    (sSeq (sAsg (.nm 2) (eCall 1 (F_plains_of 8) (eCons (eVar 1) eNil)))
    (sSeq (sAsg (.nm 3) (eLst eNil))
    (sSeq (sFor (iRng1 (eCons (eVar 0) eNil)) (.nm 4) (sSeq (sExpr (eMeth oAppend (eVar 3) (eCons (eFn oTuple (eCons (eLc (iEnumA (eCons (eVar 2) eNil)) (.tp [(.nm 12), (.nm 10)]) bYes (eTup (eCons (eVar 12) (eCons (eCall 2 F_table_behind (eCons (eVar 10) (eCons (eVar 4) eNil))) eNil))) [12, 10]) eNil)) eNil)))
    sNil))
    (sSeq (sAsg (.tp [(.nm 7), (.nm 8)]) (eCall 3 F_numbered (eCons (eOp oMulT (eTup (eCons (eC (.int 0)) eNil)) (eFn oLenN (eCons (eVar 2) eNil))) (eCons (eVar 3) (eCons (eC (.int 2000)) eNil)))))
    (sSeq (sAsg (.nm 5) (eLst eNil))
    (sSeq (sFor (iSeq (eVar 8)) (.nm 6) (sSeq (sAsg (.nm 9) (eDcS (iZipA (eCons (eVar 2) (eCons (eVar 6) eNil))) (.tp [(.nm 10), (.nm 11)]) bYes (eVar 10) (eCall 2 F_is_met (eCons (eVar 10) (eCons (eVar 11) eNil))) [10, 11]))
    (sSeq (sExpr (eMeth oAppend (eVar 5) (eCons (eFn oInt1 (eCons (eCall 2 (F_is_joined 8) (eCons (eVar 1) (eCons (eVar 9) eNil))) eNil)) eNil)))
    sNil)))
    (sSeq (sRet (eCall 2 F_least_of (eCons (eTup (eCons (eVar 0) (eCons (eVar 7) (eCons (eFn oTuple (eCons (eVar 5) eNil)) eNil)))) (eCons (eC (.int 40)) eNil))))
    sNil)))))))))
def F_question_of : On' := defA 13 S_question_of
set_option maxHeartbeats 16000000 in
theorem ok_question_of {fa : Addr} {fd : FuncData} (T : Txt w K mg) (G_check_letters : FnX P w K mg Tb base "check_letters" 2 1 F_check_letters) (G_check_ask : FnX P w K mg Tb base "check_ask" 13 2 F_check_ask) (G_plains_of : FnX P w K mg Tb base "plains_of" 8 1 (F_plains_of 8)) (G_table_behind : FnX P w K mg Tb base "table_behind" 2 2 F_table_behind) (G_numbered : FnX P w K mg Tb base "numbered" 1 3 F_numbered) (G_is_met : FnX P w K mg Tb base "is_met" 1 2 F_is_met) (G_is_joined : FnX P w K mg Tb base "is_joined" 8 2 (F_is_joined 8)) (G_least_of : FnXD P w K mg Tb base "least_of" 3 2 [.non] F_least_of) (F : Fun K "question_of" "question_of" s_question_of fa fd) (hm : mg "question_of" = some (.ref fa)) : FnX P w K mg Tb base "question_of" 14 2 F_question_of := by
  refine ⟨fa, fd, ["letters", "ask"], fn_A (k := 13) F sc_question_of (fun cdv A outer s₀ H E hr => ?_), hm, F.kp, F.binds (ps := ["letters", "ask"]) fun _ _ _ _ _ _ us hl => match us, hl with | [_, _], _ => rfl⟩
  unfold S_question_of
  exact (ass_cons (as_expr (ae_callX G_check_letters (hr.mono (by first | decide | omega)) (takes_of rfl rfl rfl rfl) (aa_cons (ae_v 0) aa_nil)))
    (ass_cons (as_expr (ae_callX G_check_ask (hr.mono (by first | decide | omega)) (takes_of rfl rfl rfl rfl) (aa_cons (ae_v 0) (aa_cons (ae_v 1) aa_nil))))
    (ass_cons (as_set 2 sc_question_of.nd (ae_callX G_plains_of (hr.mono (by first | decide | omega)) (takes_of rfl rfl rfl rfl) (aa_cons (ae_v 1) aa_nil)))
    (ass_cons (as_set 3 sc_question_of.nd (ae_lst aa_nil))
    (ass_cons (as_for (passes_of rfl) rfl (ai_rng1 T.b_range (aa_cons (ae_v 0) aa_nil)) (ag_nm 4 sc_question_of.nd) (ass_cons (as_expr (ae_append (ae_v 3) (aa_cons (ae_Ty cr_tuple T.b_tuple (aa_cons (ae_lc [("place", 12), ("plain", 10)] rfl sc_question_of.nd (blkOk_by rfl) (by decide) (ai_enum T.b_enumerate (aa_cons (ae_v 2) aa_nil)) (fun _ _ _ _ _ => (ag_tp rfl (ags_cons (ag_nm 12 sc_question_of.nd) (ags_cons (ag_nm 10 sc_question_of.nd) ags_nil)))) (fun _ _ _ _ _ => ats_nil) (fun _ _ _ _ _ => (ae_tup (aa_cons (ae_v 12) (aa_cons (ae_callX G_table_behind (hr.mono (by first | decide | omega)) takes0 (aa_cons (ae_v 10) (aa_cons (ae_v 4) aa_nil))) aa_nil))))) aa_nil)) aa_nil)))
    ass_nil))
    (ass_cons (as_asg (ae_callX G_numbered (hr.mono (by first | decide | omega)) (takes_of rfl rfl rfl rfl) (aa_cons (ae_op op_mulT (ae_tup (aa_cons ae_int aa_nil)) (ae_B cr_lenN T.b_len (aa_cons (ae_v 2) aa_nil))) (aa_cons (ae_v 3) (aa_cons (ae_glob T.c_MOST_ROWS.choose_spec (fun _ _ => .int 2000) ⟨_, rfl⟩) aa_nil)))) (ag_tp rfl (ags_cons (ag_nm 7 sc_question_of.nd) (ags_cons (ag_nm 8 sc_question_of.nd) ags_nil))))
    (ass_cons (as_set 5 sc_question_of.nd (ae_lst aa_nil))
    (ass_cons (as_for (passes_of rfl) rfl (ai_seq (ae_v 8)) (ag_nm 6 sc_question_of.nd) (ass_cons (as_setDcS 9 [("plain", 10), ("known", 11)] (hu9 hr) rfl sc_question_of.nd (sw_trueD rfl rfl rfl (by decide +kernel)) (blkOk_by rfl) (by decide) (ai_zipM T.b_zip (aa_cons (ae_v 2) (aa_cons (ae_v 6) aa_nil))) (fun _ _ _ _ _ => (ag_tp rfl (ags_cons (ag_nm 10 sc_question_of.nd) (ags_cons (ag_nm 11 sc_question_of.nd) ags_nil)))) (fun _ _ _ _ _ => ats_nil) (fun _ _ _ _ _ => (ae_v 10)) (fun _ _ _ _ _ => (ae_callX G_is_met (hr.mono (by first | decide | omega)) takes0 (aa_cons (ae_v 10) (aa_cons (ae_v 11) aa_nil)))))
    (ass_cons (as_expr (ae_append (ae_v 5) (aa_cons (ae_Ty cr_int T.b_int (aa_cons (ae_callX G_is_joined (hr.mono (by first | decide | omega)) (takes_of rfl rfl rfl rfl) (aa_cons (ae_v 1) (aa_cons (ae_v 9) aa_nil))) aa_nil)) aa_nil)))
    ass_nil)))
    (ass_cons (as_ret (ae_callX G_least_of.x (hr.mono (by first | decide | omega)) (takes_of rfl rfl rfl rfl) (aa_cons (ae_tup (aa_cons (ae_v 0) (aa_cons (ae_v 7) (aa_cons (ae_Ty cr_tuple T.b_tuple (aa_cons (ae_v 5) aa_nil)) aa_nil)))) (aa_cons (ae_glob T.c_MOST_STATES.choose_spec (fun _ _ => .int 40) ⟨_, rfl⟩) aa_nil))))
    ass_nil)))))))))
abbrev s_write_ask : Stmt := topS 134
theorem sc_write_ask : FnScope ["letters", "ask"] ["letters", "ask"] (defScope s_write_ask) := ⟨rfl, rfl, rfl, by decide +kernel, rfl, by decide +kernel, by decide +kernel⟩
def S_write_ask : SF :=
  (sSeq (sExpr (eCall 1 F_check_letters (eCons (eVar 0) eNil)))
    (sSeq (sExpr (eCall 2 F_check_ask (eCons (eVar 0) (eCons (eVar 1) eNil))))
    sBad))
def F_write_ask : On' := defA 2 S_write_ask
set_option maxHeartbeats 16000000 in
theorem ok_write_ask {fa : Addr} {fd : FuncData} (T : Txt w K mg) (G_check_letters : FnX P w K mg Tb base "check_letters" 2 1 F_check_letters) (G_check_ask : FnX P w K mg Tb base "check_ask" 13 2 F_check_ask) (F : Fun K "write_ask" "write_ask" s_write_ask fa fd) (hm : mg "write_ask" = some (.ref fa)) : FnX P w K mg Tb base "write_ask" 14 2 F_write_ask := by
  refine ⟨fa, fd, ["letters", "ask"], fn_A (k := 13) F sc_write_ask (fun cdv A outer s₀ H E hr => ?_), hm, F.kp, F.binds (ps := ["letters", "ask"]) fun _ _ _ _ _ _ us hl => match us, hl with | [_, _], _ => rfl⟩
  unfold S_write_ask
  exact (ass_cons (as_expr (ae_callX G_check_letters (hr.mono (by first | decide | omega)) (takes_of rfl rfl rfl rfl) (aa_cons (ae_v 0) aa_nil)))
    (ass_cons (as_expr (ae_callX G_check_ask (hr.mono (by first | decide | omega)) (takes_of rfl rfl rfl rfl) (aa_cons (ae_v 0) (aa_cons (ae_v 1) aa_nil))))
    ass_never))
abbrev s_check_string : Stmt := topS 129
theorem sc_check_string : FnScope ["text"] ["text"] (defScope s_check_string) := ⟨rfl, rfl, rfl, by decide +kernel, rfl, by decide +kernel, by decide +kernel⟩
def S_check_string : SF :=
  (sSeq (sIf (bNot (eT (eFn oIsi (eCons (eVar 0) (eCons (eC (.ty "str")) eNil))))) (sSeq (sRaise0 "BadString")
    sNil) sNil)
    sNil)
def F_check_string : On' := defA 1 S_check_string
set_option maxHeartbeats 16000000 in
theorem ok_check_string {fa : Addr} {fd : FuncData} (T : Txt w K mg)  (F : Fun K "check_string" "check_string" s_check_string fa fd) (hm : mg "check_string" = some (.ref fa)) : FnX P w K mg Tb base "check_string" 1 1 F_check_string := by
  refine ⟨fa, fd, ["text"], fn_A (k := 0) F sc_check_string (fun cdv A outer s₀ H E hr => ?_), hm, F.kp, F.binds (ps := ["text"]) fun _ _ _ _ _ _ us hl => match us, hl with | [_], _ => rfl⟩
  unfold S_check_string
  exact (ass_cons (as_if (at_not (at_val (ae_B cr_isi T.b_isinstance (aa_cons (ae_v 0) (aa_cons (ae_type T.b_str) aa_nil))))) (ass_cons (as_raiseC rfl (takes_of rfl rfl rfl rfl) T.e_BadString)
    ass_nil) ass_nil)
    ass_nil)
abbrev s_read_ask : Stmt := topS 135
theorem sc_read_ask : FnScope ["letters", "text", "phrase", "ask"] ["letters", "text"] (defScope s_read_ask) := ⟨rfl, rfl, rfl, by decide +kernel, rfl, by decide +kernel, by decide +kernel⟩
def S_read_ask : SF :=
  (sSeq (sExpr (eCall 1 F_check_letters (eCons (eVar 0) eNil)))
    (sSeq (sExpr (eCall 1 F_check_string (eCons (eVar 1) eNil)))
    sBad))
def F_read_ask : On' := defA 4 S_read_ask
set_option maxHeartbeats 16000000 in
theorem ok_read_ask {fa : Addr} {fd : FuncData} (T : Txt w K mg) (G_check_letters : FnX P w K mg Tb base "check_letters" 2 1 F_check_letters) (G_check_string : FnX P w K mg Tb base "check_string" 1 1 F_check_string) (F : Fun K "read_ask" "read_ask" s_read_ask fa fd) (hm : mg "read_ask" = some (.ref fa)) : FnX P w K mg Tb base "read_ask" 3 2 F_read_ask := by
  refine ⟨fa, fd, ["letters", "text"], fn_A (k := 2) F sc_read_ask (fun cdv A outer s₀ H E hr => ?_), hm, F.kp, F.binds (ps := ["letters", "text"]) fun _ _ _ _ _ _ us hl => match us, hl with | [_, _], _ => rfl⟩
  unfold S_read_ask
  exact (ass_cons (as_expr (ae_callX G_check_letters (hr.mono (by first | decide | omega)) (takes_of rfl rfl rfl rfl) (aa_cons (ae_v 0) aa_nil)))
    (ass_cons (as_expr (ae_callX G_check_string (hr.mono (by first | decide | omega)) (takes_of rfl rfl rfl rfl) (aa_cons (ae_v 1) aa_nil)))
    ass_never))
abbrev s_check_further : Stmt := topS 72
theorem sc_check_further : FnScope ["world"] ["world"] (defScope s_check_further) := ⟨rfl, rfl, rfl, by decide +kernel, rfl, by decide +kernel, by decide +kernel⟩
def S_check_further : SF :=
  (sSeq (sIf (bOr (bNot (eT (eFn oIsi (eCons (eVar 0) (eCons (eC (.ty "str")) eNil))))) (eB (eInTN tb_FURTHER_WORDS no_FURTHER_WORDS (eVar 0)))) (sSeq (sRaise0 "BadWorld")
    sNil) sNil)
    sNil)
def F_check_further : On' := defA 1 S_check_further
set_option maxHeartbeats 16000000 in
theorem ok_check_further {fa : Addr} {fd : FuncData} (T : Txt w K mg)  (F : Fun K "check_further" "check_further" s_check_further fa fd) (hm : mg "check_further" = some (.ref fa)) : FnX P w K mg Tb base "check_further" 1 1 F_check_further := by
  refine ⟨fa, fd, ["world"], fn_A (k := 0) F sc_check_further (fun cdv A outer s₀ H E hr => ?_), hm, F.kp, F.binds (ps := ["world"]) fun _ _ _ _ _ _ us hl => match us, hl with | [_], _ => rfl⟩
  unfold S_check_further
  exact (ass_cons (as_if (AW.at (aw_or (at_not (at_val (ae_B cr_isi T.b_isinstance (aa_cons (ae_v 0) (aa_cons (ae_type T.b_str) aa_nil))))) (aw_or1 (at_ninTN T.n_FURTHER_WORDS.choose_spec.1 T.n_FURTHER_WORDS.choose_spec.2.1 T.n_FURTHER_WORDS.choose_spec.2.2 (ae_v 0))))) (ass_cons (as_raiseC rfl (takes_of rfl rfl rfl rfl) T.e_BadWorld)
    ass_nil) ass_nil)
    ass_nil)
abbrev s_texts_by : Stmt := topS 39
theorem sc_texts_by : FnScope ["edits", "behind", "texts", "index", "edit", "text"] ["edits", "behind"] (defScope s_texts_by) := ⟨rfl, rfl, rfl, by decide +kernel, rfl, by decide +kernel, by decide +kernel⟩
def S_texts_by (l0 : Nat) (act : On') : SF :=
  (sSeq (sIf (bOr (bNot (eT (eFn oIsi (eCons (eVar 0) (eCons (eC (.ty "tuple")) eNil))))) (eB (eOp oGt (eFn oLenN (eCons (eVar 0) eNil)) (eC (.int 100))))) (sSeq (sRaise1 "BadEdits" "index" (eCons (eC .non) eNil))
    sNil) sNil)
    sBad)
set_option maxHeartbeats 16000000 in
theorem ok_texts_by {k : Nat} (hk : 2 ≤ k) {fa : Addr} {fd : FuncData} (T : Txt w K mg) (G_BadEdits : SI.Exc1 P w K mg base "BadEdits" "index" 1) (F : Fun K "texts_by" "texts_by" s_texts_by fa fd) (hm : mg "texts_by" = some (.ref fa)) : FnL P w K mg Tb base "texts_by" k 2 2 6 S_texts_by := by
  refine ⟨fa, fd, s_texts_by, ["edits", "behind", "texts", "index", "edit", "text"], ["edits", "behind"], F, sc_texts_by, hm, rfl, rfl, F.binds (ps := ["edits", "behind"]) fun _ _ _ _ _ _ us hl => match us, hl with | [_, _], _ => rfl, fun cdv A outer s₀ H E l0 r act hr ha => ?_⟩
  unfold S_texts_by
  exact (ass_cons (as_if (AW.at (aw_or (at_not (at_val (ae_B cr_isi T.b_isinstance (aa_cons (ae_v 0) (aa_cons (ae_type T.b_tuple) aa_nil))))) (aw_or1 (at_cmp (op_gtA) (ae_B cr_lenN T.b_len (aa_cons (ae_v 0) aa_nil)) (ae_glob T.c_MOST_EDITS.choose_spec (fun _ _ => .int 100) ⟨_, rfl⟩))))) (ass_cons (as_raise1 rfl (takes_of rfl rfl rfl rfl) G_BadEdits (hr.mono (by first | decide | omega)) (aa_cons ae_non aa_nil))
    ass_nil) ass_nil)
    ass_never)
abbrev s_further_text : Stmt := topS 67
theorem sc_further_text : FnScope ["world", "letters", "edits"] ["world", "letters", "edits"] (defScope s_further_text) := ⟨rfl, rfl, rfl, by decide +kernel, rfl, by decide +kernel, by decide +kernel⟩
def S_further_text : SF :=
  (sSeq (sExpr (eCall 1 F_check_further (eCons (eVar 0) eNil)))
    (sSeq (sExpr (eCall 1 F_check_letters (eCons (eVar 1) eNil)))
    (sSeq (sRet (eOp oIx (eLam 2 6 S_texts_by eBad (eCons (eVar 2) eNil)) (eUn oNeg (eC (.int 1)))))
    sNil)))
def F_further_text : On' := defA 3 S_further_text
set_option maxHeartbeats 16000000 in
theorem ok_further_text {fa : Addr} {fd : FuncData} (T : Txt w K mg) (G_check_further : FnX P w K mg Tb base "check_further" 1 1 F_check_further) (G_check_letters : FnX P w K mg Tb base "check_letters" 2 1 F_check_letters) (G_texts_by : FnL P w K mg Tb base "texts_by" 2 2 2 6 S_texts_by) (F : Fun K "further_text" "further_text" s_further_text fa fd) (hm : mg "further_text" = some (.ref fa)) {cL pL : Addr} (B : LamB mg Tb base fd ((("further_text" : Str) ++ ".<locals>.") ++ "<lambda>") cL pL) : FnX P w K mg Tb base "further_text" 4 3 F_further_text := by
  refine ⟨fa, fd, ["world", "letters", "edits"], fn_AL (k := 3) F sc_further_text B (fun cdv A outer s₀ H E hr LI => ?_), hm, F.kp, F.binds (ps := ["world", "letters", "edits"]) fun _ _ _ _ _ _ us hl => match us, hl with | [_, _, _], _ => rfl⟩
  unfold S_further_text
  exact (ass_cons (as_expr (ae_callX G_check_further (hr.mono (by first | decide | omega)) (takes_of rfl rfl rfl rfl) (aa_cons (ae_v 0) aa_nil)))
    (ass_cons (as_expr (ae_callX G_check_letters (hr.mono (by first | decide | omega)) (takes_of rfl rfl rfl rfl) (aa_cons (ae_v 1) aa_nil)))
    (ass_cons (as_ret (ae_ix (ae_lam (ps := ["text", "edit"]) (kl := 0) G_texts_by hr (takes_of rfl rfl rfl rfl) rfl (lamP_by (sc := defScope s_further_text) (by decide +kernel)) (alm_cons (ae_v 2) (alm_nil LI (lamP_by (sc := defScope s_further_text) (ps := ["text", "edit"]) (by decide +kernel)))) (fun A outer s s' H E f c' hr2 => ae_never) (show ∀ x ∈ (["text", "edit"] : List Str), x ∉ (["world", "letters", "edits"] : List Str) from by decide +kernel) (by decide) (by decide) (fun _ _ _ _ _ us hl => match us, hl with | [_, _], _ => rfl)) (ae_un un_negA ae_int)))
    ass_nil)))
abbrev s_further_told : Stmt := topS 68
theorem sc_further_told : FnScope ["world", "letters", "edits", "edit"] ["world", "letters", "edits"] (defScope s_further_told) := ⟨rfl, rfl, rfl, by decide +kernel, rfl, by decide +kernel, by decide +kernel⟩
def S_further_told : SF :=
  (sSeq (sExpr (eCall 3 F_further_text (eCons (eVar 0) (eCons (eVar 1) (eCons (eVar 2) eNil)))))
    sBad)
def F_further_told : On' := defA 4 S_further_told
set_option maxHeartbeats 16000000 in
theorem ok_further_told {fa : Addr} {fd : FuncData} (T : Txt w K mg) (G_further_text : FnX P w K mg Tb base "further_text" 4 3 F_further_text) (F : Fun K "further_told" "further_told" s_further_told fa fd) (hm : mg "further_told" = some (.ref fa)) : FnX P w K mg Tb base "further_told" 5 3 F_further_told := by
  refine ⟨fa, fd, ["world", "letters", "edits"], fn_A (k := 4) F sc_further_told (fun cdv A outer s₀ H E hr => ?_), hm, F.kp, F.binds (ps := ["world", "letters", "edits"]) fun _ _ _ _ _ _ us hl => match us, hl with | [_, _, _], _ => rfl⟩
  unfold S_further_told
  exact (ass_cons (as_expr (ae_callX G_further_text (hr.mono (by first | decide | omega)) (takes_of rfl rfl rfl rfl) (aa_cons (ae_v 0) (aa_cons (ae_v 1) (aa_cons (ae_v 2) aa_nil)))))
    ass_never)
abbrev s_further_messages_with : Stmt := topS 73
theorem sc_further_messages_with : FnScope ["letters", "word", "many", "row"] ["letters", "word", "many"] (defScope s_further_messages_with) := ⟨rfl, rfl, rfl, by decide +kernel, rfl, by decide +kernel, by decide +kernel⟩
def S_further_messages_with : SF :=
  (sSeq (sRet (eLc (iPerm2 2 (g1 (eVar 0))) (.nm 3) bYes (eOp oAdd (eTup (eCons (eVar 1) eNil)) (eVar 3)) [3]))
    sNil)
def F_further_messages_with : On' := defA 4 S_further_messages_with
set_option maxHeartbeats 16000000 in
theorem ok_further_messages_with {fa : Addr} {fd : FuncData} (T : Txt w K mg)  (F : Fun K "further_messages_with" "further_messages_with" s_further_messages_with fa fd) (hm : mg "further_messages_with" = some (.ref fa)) : FnX P w K mg Tb base "further_messages_with" 1 3 F_further_messages_with := by
  refine ⟨fa, fd, ["letters", "word", "many"], fn_A (k := 0) F sc_further_messages_with (fun cdv A outer s₀ H E hr => ?_), hm, F.kp, F.binds (ps := ["letters", "word", "many"]) fun _ _ _ _ _ _ us hl => match us, hl with | [_, _, _], _ => rfl⟩
  unfold S_further_messages_with
  exact (ass_cons (as_ret (ae_lc [("row", 3)] rfl sc_further_messages_with.nd (blkOk_by rfl) (by decide) (ai_perm2 2 rfl T.p_permutations (ar_1 T.b_range (ae_v 0))) (fun _ _ _ _ _ => (ag_nm 3 sc_further_messages_with.nd)) (fun _ _ _ _ _ => ats_nil) (fun _ _ _ _ _ => (ae_op op_addA (ae_tup (aa_cons (ae_v 1) aa_nil)) (ae_v 3)))))
    ass_nil)
abbrev s_further_messages : Stmt := topS 69
theorem sc_further_messages : FnScope ["world", "letters", "found", "word"] ["world", "letters"] (defScope s_further_messages) := ⟨rfl, rfl, rfl, by decide +kernel, rfl, by decide +kernel, by decide +kernel⟩
def S_further_messages : SF :=
  (sSeq (sExpr (eCall 1 F_check_further (eCons (eVar 0) eNil)))
    (sSeq (sExpr (eCall 1 F_check_letters (eCons (eVar 1) eNil)))
    (sSeq (sAsg (.nm 2) (eLst eNil))
    (sSeq (sFor (iK (kIx tb_FURTHER_WORDS (eVar 0))) (.nm 3) (sSeq (sExpr (eMeth oExtend (eVar 2) (eCons (eCall 3 F_further_messages_with (eCons (eVar 1) (eCons (eVar 3) (eCons (eIxT tb_TOLD_LETTERS (eVar 3)) eNil)))) eNil)))
    sNil))
    (sSeq (sRet (eFn oTuple (eCons (eFn oSortM (eCons (eVar 2) eNil)) eNil)))
    sNil)))))
def F_further_messages : On' := defA 4 S_further_messages
set_option maxHeartbeats 16000000 in
theorem ok_further_messages {fa : Addr} {fd : FuncData} (T : Txt w K mg) (G_check_further : FnX P w K mg Tb base "check_further" 1 1 F_check_further) (G_check_letters : FnX P w K mg Tb base "check_letters" 2 1 F_check_letters) (G_further_messages_with : FnX P w K mg Tb base "further_messages_with" 1 3 F_further_messages_with) (F : Fun K "further_messages" "further_messages" s_further_messages fa fd) (hm : mg "further_messages" = some (.ref fa)) : FnX P w K mg Tb base "further_messages" 3 2 F_further_messages := by
  refine ⟨fa, fd, ["world", "letters"], fn_A (k := 2) F sc_further_messages (fun cdv A outer s₀ H E hr => ?_), hm, F.kp, F.binds (ps := ["world", "letters"]) fun _ _ _ _ _ _ us hl => match us, hl with | [_, _], _ => rfl⟩
  unfold S_further_messages
  exact (ass_cons (as_expr (ae_callX G_check_further (hr.mono (by first | decide | omega)) (takes_of rfl rfl rfl rfl) (aa_cons (ae_v 0) aa_nil)))
    (ass_cons (as_expr (ae_callX G_check_letters (hr.mono (by first | decide | omega)) (takes_of rfl rfl rfl rfl) (aa_cons (ae_v 1) aa_nil)))
    (ass_cons (as_set 2 sc_further_messages.nd (ae_lst aa_nil))
    (ass_cons (as_for (passes_of rfl) rfl (ai_K (ak_ix T.g_FURTHER_WORDS.choose_spec.1 T.g_FURTHER_WORDS.choose_spec.2 (ae_v 0))) (ag_nm 3 sc_further_messages.nd) (ass_cons (as_expr (ae_extend (ae_v 2) (aa_cons (ae_callX G_further_messages_with (hr.mono (by first | decide | omega)) (takes_of rfl rfl rfl rfl) (aa_cons (ae_v 1) (aa_cons (ae_v 3) (aa_cons (ae_ixT T.g_TOLD_LETTERS.choose_spec.1 T.g_TOLD_LETTERS.choose_spec.2 (ae_v 3)) aa_nil)))) aa_nil)))
    ass_nil))
    (ass_cons (as_ret (ae_Ty cr_tuple T.b_tuple (aa_cons (ae_B (cr_sortM (hu64 hr)) T.b_sorted (aa_cons (ae_v 2) aa_nil)) aa_nil)))
    ass_nil)))))
abbrev s_are_steps : Stmt := topS 23
theorem sc_are_steps : FnScope ["value", "letters", "row"] ["value", "letters"] (defScope s_are_steps) := ⟨rfl, rfl, rfl, by decide +kernel, rfl, by decide +kernel, by decide +kernel⟩
def S_are_steps : SF :=
  (sSeq (sIf (bOr (bNot (eT (eFn oIsi (eCons (eVar 0) (eCons (eC (.ty "tuple")) eNil))))) (bNot (eB (eChain oLe oLe (eC (.int 1)) (eFn oLenN (eCons (eVar 0) eNil)) (eC (.int 40)))))) (sSeq (sRet (eC (.bl false)))
    sNil) sNil)
    (sSeq (sRet (eFn oAll (eCons (eLc (iSeq (eVar 0)) (.nm 2) bYes (eCall 3 F_are_numbers (eCons (eVar 2) (eCons (eVar 1) (eCons (eOp oSub (eFn oLenN (eCons (eVar 0) eNil)) (eC (.int 1))) eNil)))) [2]) eNil)))
    sNil))
def F_are_steps : On' := defA 3 S_are_steps
set_option maxHeartbeats 16000000 in
theorem ok_are_steps {fa : Addr} {fd : FuncData} (T : Txt w K mg) (G_are_numbers : FnX P w K mg Tb base "are_numbers" 2 3 F_are_numbers) (F : Fun K "are_steps" "are_steps" s_are_steps fa fd) (hm : mg "are_steps" = some (.ref fa)) : FnX P w K mg Tb base "are_steps" 3 2 F_are_steps := by
  refine ⟨fa, fd, ["value", "letters"], fn_A (k := 2) F sc_are_steps (fun cdv A outer s₀ H E hr => ?_), hm, F.kp, F.binds (ps := ["value", "letters"]) fun _ _ _ _ _ _ us hl => match us, hl with | [_, _], _ => rfl⟩
  unfold S_are_steps
  exact (ass_cons (as_if (AW.at (aw_or (at_not (at_val (ae_B cr_isi T.b_isinstance (aa_cons (ae_v 0) (aa_cons (ae_type T.b_tuple) aa_nil))))) (aw_or1 (at_not (at_chain (op_leA) (op_leA) ae_int (ae_B cr_lenN T.b_len (aa_cons (ae_v 0) aa_nil)) (ae_glob T.c_MOST_STATES.choose_spec (fun _ _ => .int 40) ⟨_, rfl⟩)))))) (ass_cons (as_ret ae_bl)
    ass_nil) ass_nil)
    (ass_cons (as_ret (ae_B (cr_allA rfl) T.b_all (aa_cons (ae_lc [("row", 2)] rfl sc_are_steps.nd (blkOk_by rfl) (by decide) (ai_seq (ae_v 0)) (fun _ _ _ _ _ => (ag_nm 2 sc_are_steps.nd)) (fun _ _ _ _ _ => ats_nil) (fun _ _ _ _ _ => (ae_callX G_are_numbers (hr.mono (by first | decide | omega)) takes0 (aa_cons (ae_v 2) (aa_cons (ae_v 1) (aa_cons (ae_op op_subA (ae_B cr_lenN T.b_len (aa_cons (ae_v 0) aa_nil)) ae_int) aa_nil)))))) aa_nil)))
    ass_nil))
abbrev s_check_question : Stmt := topS 25
theorem sc_check_question : FnScope ["question", "letters", "steps", "answers"] ["question"] (defScope s_check_question) := ⟨rfl, rfl, rfl, by decide +kernel, rfl, by decide +kernel, by decide +kernel⟩
def S_check_question : SF :=
  (sSeq (sIf (bOr (bNot (eT (eFn oIsi (eCons (eVar 0) (eCons (eC (.ty "tuple")) eNil))))) (eB (eOp oNe (eFn oLenN (eCons (eVar 0) eNil)) (eC (.int 3))))) (sSeq (sRaise1 "BadQuestion" "part" (eCons (eC (.str (Str.ofString "question"))) eNil))
    sNil) sNil)
    (sSeq (sAsg (.tp [(.nm 1), (.nm 2), (.nm 3)]) (eVar 0))
    (sSeq (sIf (bNot (eT (eCall 3 F_is_number (eCons (eVar 1) (eCons (eC (.int 1)) (eCons (eC (.int 3)) eNil)))))) (sSeq (sRaise1 "BadQuestion" "part" (eCons (eC (.str (Str.ofString "letters"))) eNil))
    sNil) sNil)
    (sSeq (sIf (bNot (eT (eCall 2 F_are_steps (eCons (eVar 2) (eCons (eVar 1) eNil))))) (sSeq (sRaise1 "BadQuestion" "part" (eCons (eC (.str (Str.ofString "steps"))) eNil))
    sNil) sNil)
    (sSeq (sIf (bNot (eT (eCall 3 F_are_numbers (eCons (eVar 3) (eCons (eFn oLenN (eCons (eVar 2) eNil)) (eCons (eC (.int 3)) eNil)))))) (sSeq (sRaise1 "BadQuestion" "part" (eCons (eC (.str (Str.ofString "answers"))) eNil))
    sNil) sNil)
    sNil)))))
def F_check_question : On' := defA 4 S_check_question
set_option maxHeartbeats 16000000 in
theorem ok_check_question {fa : Addr} {fd : FuncData} (T : Txt w K mg) (G_BadQuestion : SI.Exc1 P w K mg base "BadQuestion" "part" 1) (G_is_number : FnX P w K mg Tb base "is_number" 1 3 F_is_number) (G_are_steps : FnX P w K mg Tb base "are_steps" 3 2 F_are_steps) (G_are_numbers : FnX P w K mg Tb base "are_numbers" 2 3 F_are_numbers) (F : Fun K "check_question" "check_question" s_check_question fa fd) (hm : mg "check_question" = some (.ref fa)) : FnX P w K mg Tb base "check_question" 4 1 F_check_question := by
  refine ⟨fa, fd, ["question"], fn_A (k := 3) F sc_check_question (fun cdv A outer s₀ H E hr => ?_), hm, F.kp, F.binds (ps := ["question"]) fun _ _ _ _ _ _ us hl => match us, hl with | [_], _ => rfl⟩
  unfold S_check_question
  exact (ass_cons (as_if (AW.at (aw_or (at_not (at_val (ae_B cr_isi T.b_isinstance (aa_cons (ae_v 0) (aa_cons (ae_type T.b_tuple) aa_nil))))) (aw_or1 (at_cmp (op_neA (hu64 hr)) (ae_B cr_lenN T.b_len (aa_cons (ae_v 0) aa_nil)) ae_int)))) (ass_cons (as_raise1 rfl (takes_of rfl rfl rfl rfl) G_BadQuestion (hr.mono (by first | decide | omega)) (aa_cons ae_str aa_nil))
    ass_nil) ass_nil)
    (ass_cons (as_asg (ae_v 0) (ag_tp rfl (ags_cons (ag_nm 1 sc_check_question.nd) (ags_cons (ag_nm 2 sc_check_question.nd) (ags_cons (ag_nm 3 sc_check_question.nd) ags_nil)))))
    (ass_cons (as_if (at_not (at_val (ae_callX G_is_number (hr.mono (by first | decide | omega)) (takes_of rfl rfl rfl rfl) (aa_cons (ae_v 1) (aa_cons ae_int (aa_cons (ae_glob T.c_MOST_LETTERS.choose_spec (fun _ _ => .int 3) ⟨_, rfl⟩) aa_nil)))))) (ass_cons (as_raise1 rfl (takes_of rfl rfl rfl rfl) G_BadQuestion (hr.mono (by first | decide | omega)) (aa_cons ae_str aa_nil))
    ass_nil) ass_nil)
    (ass_cons (as_if (at_not (at_val (ae_callX G_are_steps (hr.mono (by first | decide | omega)) (takes_of rfl rfl rfl rfl) (aa_cons (ae_v 2) (aa_cons (ae_v 1) aa_nil))))) (ass_cons (as_raise1 rfl (takes_of rfl rfl rfl rfl) G_BadQuestion (hr.mono (by first | decide | omega)) (aa_cons ae_str aa_nil))
    ass_nil) ass_nil)
    (ass_cons (as_if (at_not (at_val (ae_callX G_are_numbers (hr.mono (by first | decide | omega)) (takes_of rfl rfl rfl rfl) (aa_cons (ae_v 3) (aa_cons (ae_B cr_lenN T.b_len (aa_cons (ae_v 2) aa_nil)) (aa_cons (ae_glob T.c_MOST_ANSWER.choose_spec (fun _ _ => .int 3) ⟨_, rfl⟩) aa_nil)))))) (ass_cons (as_raise1 rfl (takes_of rfl rfl rfl rfl) G_BadQuestion (hr.mono (by first | decide | omega)) (aa_cons ae_str aa_nil))
    ass_nil) ass_nil)
    ass_nil)))))
abbrev s_can_keep_further : Stmt := topS 70
theorem sc_can_keep_further : FnScope ["world", "question"] ["world", "question"] (defScope s_can_keep_further) := ⟨rfl, rfl, rfl, by decide +kernel, rfl, by decide +kernel, by decide +kernel⟩
def S_can_keep_further : SF :=
  (sSeq (sExpr (eCall 1 F_check_further (eCons (eVar 0) eNil)))
    (sSeq (sExpr (eCall 1 F_check_question (eCons (eVar 1) eNil)))
    sBad))
def F_can_keep_further : On' := defA 2 S_can_keep_further
set_option maxHeartbeats 16000000 in
theorem ok_can_keep_further {fa : Addr} {fd : FuncData} (T : Txt w K mg) (G_check_further : FnX P w K mg Tb base "check_further" 1 1 F_check_further) (G_check_question : FnX P w K mg Tb base "check_question" 4 1 F_check_question) (F : Fun K "can_keep_further" "can_keep_further" s_can_keep_further fa fd) (hm : mg "can_keep_further" = some (.ref fa)) : FnX P w K mg Tb base "can_keep_further" 5 2 F_can_keep_further := by
  refine ⟨fa, fd, ["world", "question"], fn_A (k := 4) F sc_can_keep_further (fun cdv A outer s₀ H E hr => ?_), hm, F.kp, F.binds (ps := ["world", "question"]) fun _ _ _ _ _ _ us hl => match us, hl with | [_, _], _ => rfl⟩
  unfold S_can_keep_further
  exact (ass_cons (as_expr (ae_callX G_check_further (hr.mono (by first | decide | omega)) (takes_of rfl rfl rfl rfl) (aa_cons (ae_v 0) aa_nil)))
    (ass_cons (as_expr (ae_callX G_check_question (hr.mono (by first | decide | omega)) (takes_of rfl rfl rfl rfl) (aa_cons (ae_v 1) aa_nil)))
    ass_never))
abbrev s_further_keeper : Stmt := topS 71
theorem sc_further_keeper : FnScope ["world", "question", "small", "memories", "numbers", "every", "steps", "memory", "number", "message"] ["world", "question"] (defScope s_further_keeper) := ⟨rfl, rfl, rfl, by decide +kernel, rfl, by decide +kernel, by decide +kernel⟩
def S_further_keeper : SF :=
  (sSeq (sExpr (eCall 1 F_check_further (eCons (eVar 0) eNil)))
    (sSeq (sExpr (eCall 1 F_check_question (eCons (eVar 1) eNil)))
    sBad))
def F_further_keeper : On' := defA 10 S_further_keeper
set_option maxHeartbeats 16000000 in
theorem ok_further_keeper {fa : Addr} {fd : FuncData} (T : Txt w K mg) (G_check_further : FnX P w K mg Tb base "check_further" 1 1 F_check_further) (G_check_question : FnX P w K mg Tb base "check_question" 4 1 F_check_question) (F : Fun K "further_keeper" "further_keeper" s_further_keeper fa fd) (hm : mg "further_keeper" = some (.ref fa)) : FnX P w K mg Tb base "further_keeper" 5 2 F_further_keeper := by
  refine ⟨fa, fd, ["world", "question"], fn_A (k := 4) F sc_further_keeper (fun cdv A outer s₀ H E hr => ?_), hm, F.kp, F.binds (ps := ["world", "question"]) fun _ _ _ _ _ _ us hl => match us, hl with | [_, _], _ => rfl⟩
  unfold S_further_keeper
  exact (ass_cons (as_expr (ae_callX G_check_further (hr.mono (by first | decide | omega)) (takes_of rfl rfl rfl rfl) (aa_cons (ae_v 0) aa_nil)))
    (ass_cons (as_expr (ae_callX G_check_question (hr.mono (by first | decide | omega)) (takes_of rfl rfl rfl rfl) (aa_cons (ae_v 1) aa_nil)))
    ass_never))
abbrev s_check_states : Stmt := topS 46
theorem sc_check_states : FnScope ["value", "many", "steps", "answers", "state", "row"] ["value", "many"] (defScope s_check_states) := ⟨rfl, rfl, rfl, by decide +kernel, rfl, by decide +kernel, by decide +kernel⟩
def S_check_states : SF :=
  (sSeq (sIf (bOr (bNot (eT (eFn oIsi (eCons (eVar 0) (eCons (eC (.ty "tuple")) eNil))))) (eB (eOp oNe (eFn oLenN (eCons (eVar 0) eNil)) (eC (.int 2))))) (sSeq (sRaise1 "BadKeeper" "index" (eCons (eC .non) eNil))
    sNil) sNil)
    (sSeq (sAsg (.tp [(.nm 2), (.nm 3)]) (eVar 0))
    (sSeq (sIf (bOr (bNot (eT (eFn oIsi (eCons (eVar 2) (eCons (eC (.ty "tuple")) eNil))))) (bNot (eB (eChain oLe oLe (eC (.int 1)) (eFn oLenN (eCons (eVar 2) eNil)) (eC (.int 3000)))))) (sSeq (sRaise1 "BadKeeper" "index" (eCons (eC .non) eNil))
    sNil) sNil)
    (sSeq (sIf (bOr (bNot (eT (eFn oIsi (eCons (eVar 3) (eCons (eC (.ty "tuple")) eNil))))) (eB (eOp oNe (eFn oLenN (eCons (eVar 3) eNil)) (eFn oLenN (eCons (eVar 2) eNil))))) (sSeq (sRaise1 "BadKeeper" "index" (eCons (eC .non) eNil))
    sNil) sNil)
    (sSeq (sFor (iEnumA (eCons (eVar 2) eNil)) (.tp [(.nm 4), (.nm 5)]) (sSeq (sIf (bOr (bNot (eT (eCall 3 F_are_numbers (eCons (eVar 5) (eCons (eVar 1) (eCons (eOp oSub (eFn oLenN (eCons (eVar 2) eNil)) (eC (.int 1))) eNil)))))) (bNot (eT (eCall 3 F_is_number (eCons (eOp oIx (eVar 3) (eVar 4)) (eCons (eC (.int 0)) (eCons (eC (.int 3)) eNil))))))) (sSeq (sRaise1 "BadKeeper" "index" (eCons (eVar 4) eNil))
    sNil) sNil)
    sNil))
    sNil)))))
def F_check_states : On' := defA 6 S_check_states
set_option maxHeartbeats 16000000 in
theorem ok_check_states {fa : Addr} {fd : FuncData} (T : Txt w K mg) (G_BadKeeper : SI.Exc1 P w K mg base "BadKeeper" "index" 1) (G_are_numbers : FnX P w K mg Tb base "are_numbers" 2 3 F_are_numbers) (G_is_number : FnX P w K mg Tb base "is_number" 1 3 F_is_number) (F : Fun K "check_states" "check_states" s_check_states fa fd) (hm : mg "check_states" = some (.ref fa)) : FnX P w K mg Tb base "check_states" 3 2 F_check_states := by
  refine ⟨fa, fd, ["value", "many"], fn_A (k := 2) F sc_check_states (fun cdv A outer s₀ H E hr => ?_), hm, F.kp, F.binds (ps := ["value", "many"]) fun _ _ _ _ _ _ us hl => match us, hl with | [_, _], _ => rfl⟩
  unfold S_check_states
  exact (ass_cons (as_if (AW.at (aw_or (at_not (at_val (ae_B cr_isi T.b_isinstance (aa_cons (ae_v 0) (aa_cons (ae_type T.b_tuple) aa_nil))))) (aw_or1 (at_cmp (op_neA (hu64 hr)) (ae_B cr_lenN T.b_len (aa_cons (ae_v 0) aa_nil)) ae_int)))) (ass_cons (as_raise1 rfl (takes_of rfl rfl rfl rfl) G_BadKeeper (hr.mono (by first | decide | omega)) (aa_cons ae_non aa_nil))
    ass_nil) ass_nil)
    (ass_cons (as_asg (ae_v 0) (ag_tp rfl (ags_cons (ag_nm 2 sc_check_states.nd) (ags_cons (ag_nm 3 sc_check_states.nd) ags_nil))))
    (ass_cons (as_if (AW.at (aw_or (at_not (at_val (ae_B cr_isi T.b_isinstance (aa_cons (ae_v 2) (aa_cons (ae_type T.b_tuple) aa_nil))))) (aw_or1 (at_not (at_chain (op_leA) (op_leA) ae_int (ae_B cr_lenN T.b_len (aa_cons (ae_v 2) aa_nil)) (ae_glob T.c_MOST_MEMORIES.choose_spec (fun _ _ => .int 3000) ⟨_, rfl⟩)))))) (ass_cons (as_raise1 rfl (takes_of rfl rfl rfl rfl) G_BadKeeper (hr.mono (by first | decide | omega)) (aa_cons ae_non aa_nil))
    ass_nil) ass_nil)
    (ass_cons (as_if (AW.at (aw_or (at_not (at_val (ae_B cr_isi T.b_isinstance (aa_cons (ae_v 3) (aa_cons (ae_type T.b_tuple) aa_nil))))) (aw_or1 (at_cmp (op_neA (hu64 hr)) (ae_B cr_lenN T.b_len (aa_cons (ae_v 3) aa_nil)) (ae_B cr_lenN T.b_len (aa_cons (ae_v 2) aa_nil)))))) (ass_cons (as_raise1 rfl (takes_of rfl rfl rfl rfl) G_BadKeeper (hr.mono (by first | decide | omega)) (aa_cons ae_non aa_nil))
    ass_nil) ass_nil)
    (ass_cons (as_for (passes_of rfl) rfl (ai_enum T.b_enumerate (aa_cons (ae_v 2) aa_nil)) (ag_tp rfl (ags_cons (ag_nm 4 sc_check_states.nd) (ags_cons (ag_nm 5 sc_check_states.nd) ags_nil))) (ass_cons (as_if (AW.at (aw_or (at_not (at_val (ae_callX G_are_numbers (hr.mono (by first | decide | omega)) (takes_of rfl rfl rfl rfl) (aa_cons (ae_v 5) (aa_cons (ae_v 1) (aa_cons (ae_op op_subA (ae_B cr_lenN T.b_len (aa_cons (ae_v 2) aa_nil)) ae_int) aa_nil)))))) (aw_or1 (at_not (at_val (ae_callX G_is_number (hr.mono (by first | decide | omega)) (takes_of rfl rfl rfl rfl) (aa_cons (ae_ix (ae_v 3) (ae_v 4)) (aa_cons ae_int (aa_cons (ae_glob T.c_MOST_ANSWER.choose_spec (fun _ _ => .int 3) ⟨_, rfl⟩) aa_nil))))))))) (ass_cons (as_raise1 rfl (takes_of rfl rfl rfl rfl) G_BadKeeper (hr.mono (by first | decide | omega)) (aa_cons (ae_v 4) aa_nil))
    ass_nil) ass_nil)
    ass_nil))
    ass_nil)))))
abbrev s_check_messages : Stmt := topS 47
theorem sc_check_messages : FnScope ["row", "is_told", "index", "message"] ["row", "is_told"] (defScope s_check_messages) := ⟨rfl, rfl, rfl, by decide +kernel, rfl, by decide +kernel, by decide +kernel⟩
def S_check_messages (l0 : Nat) (act : On') : SF :=
  (sSeq (sIf (bOr (bNot (eT (eFn oIsi (eCons (eVar 0) (eCons (eC (.ty "tuple")) eNil))))) (eB (eOp oGt (eFn oLenN (eCons (eVar 0) eNil)) (eC (.int 100))))) (sSeq (sRaise1 "BadMessages" "index" (eCons (eC .non) eNil))
    sNil) sNil)
    (sSeq (sFor (iEnumA (eCons (eVar 0) eNil)) (.tp [(.nm 2), (.nm 3)]) (sSeq (sIf (bNot (eT (eAct 1 l0 1 act (eCons (eVar 3) eNil)))) (sSeq (sRaise1 "BadMessages" "index" (eCons (eVar 2) eNil))
    sNil) sNil)
    sNil))
    sNil))
set_option maxHeartbeats 16000000 in
theorem ok_check_messages {k : Nat} (hk : 2 ≤ k) {fa : Addr} {fd : FuncData} (T : Txt w K mg) (G_BadMessages : SI.Exc1 P w K mg base "BadMessages" "index" 1) (F : Fun K "check_messages" "check_messages" s_check_messages fa fd) (hm : mg "check_messages" = some (.ref fa)) : FnL P w K mg Tb base "check_messages" k 2 1 4 S_check_messages := by
  refine ⟨fa, fd, s_check_messages, ["row", "is_told", "index", "message"], ["row", "is_told"], F, sc_check_messages, hm, rfl, rfl, F.binds (ps := ["row", "is_told"]) fun _ _ _ _ _ _ us hl => match us, hl with | [_, _], _ => rfl, fun cdv A outer s₀ H E l0 r act hr ha => ?_⟩
  unfold S_check_messages
  exact (ass_cons (as_if (AW.at (aw_or (at_not (at_val (ae_B cr_isi T.b_isinstance (aa_cons (ae_v 0) (aa_cons (ae_type T.b_tuple) aa_nil))))) (aw_or1 (at_cmp (op_gtA) (ae_B cr_lenN T.b_len (aa_cons (ae_v 0) aa_nil)) (ae_glob T.c_MOST_MESSAGES.choose_spec (fun _ _ => .int 100) ⟨_, rfl⟩))))) (ass_cons (as_raise1 rfl (takes_of rfl rfl rfl rfl) G_BadMessages (hr.mono (by first | decide | omega)) (aa_cons ae_non aa_nil))
    ass_nil) ass_nil)
    (ass_cons (as_for (passes_of rfl) rfl (ai_enum T.b_enumerate (aa_cons (ae_v 0) aa_nil)) (ag_tp rfl (ags_cons (ag_nm 2 sc_check_messages.nd) (ags_cons (ag_nm 3 sc_check_messages.nd) ags_nil))) (ass_cons (as_if (at_not (at_val (ae_act 1 ha (takes_of rfl rfl rfl rfl) (aa_cons (ae_v 3) aa_nil)))) (ass_cons (as_raise1 rfl (takes_of rfl rfl rfl rfl) G_BadMessages (hr.mono (by first | decide | omega)) (aa_cons (ae_v 2) aa_nil))
    ass_nil) ass_nil)
    ass_nil))
    ass_nil))
abbrev s_is_further_message : Stmt := topS 74
theorem sc_is_further_message : FnScope ["world", "letters", "value"] ["world", "letters", "value"] (defScope s_is_further_message) := ⟨rfl, rfl, rfl, by decide +kernel, rfl, by decide +kernel, by decide +kernel⟩
def S_is_further_message : SF :=
  (sSeq (sIf (bOr (bNot (eT (eFn oIsi (eCons (eVar 2) (eCons (eC (.ty "tuple")) eNil))))) (bOr (eB (eOp oEq (eFn oLenN (eCons (eVar 2) eNil)) (eC (.int 0)))) (eB (eInK true (eOp oIx (eVar 2) (eC (.int 0))) (kIx tb_FURTHER_WORDS (eVar 0)))))) (sSeq (sRet (eC (.bl false)))
    sNil) sNil)
    (sSeq (sIf (bNot (eT (eCall 3 F_are_numbers (eCons (eSl (eVar 2) (ePart (eC (.int 1))) eNoPart) (eCons (eIxT tb_TOLD_LETTERS (eOp oIx (eVar 2) (eC (.int 0)))) (eCons (eOp oSub (eVar 1) (eC (.int 1))) eNil)))))) (sSeq (sRet (eC (.bl false)))
    sNil) sNil)
    (sSeq (sRet (eOr (eOp oNe (eOp oIx (eVar 2) (eC (.int 0))) (eC (.str (Str.ofString "change")))) (eOp oNe (eOp oIx (eVar 2) (eC (.int 1))) (eOp oIx (eVar 2) (eC (.int 2))))))
    sNil)))
def F_is_further_message : On' := defA 3 S_is_further_message
set_option maxHeartbeats 16000000 in
theorem ok_is_further_message {fa : Addr} {fd : FuncData} (T : Txt w K mg) (G_are_numbers : FnX P w K mg Tb base "are_numbers" 2 3 F_are_numbers) (F : Fun K "is_further_message" "is_further_message" s_is_further_message fa fd) (hm : mg "is_further_message" = some (.ref fa)) : FnX P w K mg Tb base "is_further_message" 3 3 F_is_further_message := by
  refine ⟨fa, fd, ["world", "letters", "value"], fn_A (k := 2) F sc_is_further_message (fun cdv A outer s₀ H E hr => ?_), hm, F.kp, F.binds (ps := ["world", "letters", "value"]) fun _ _ _ _ _ _ us hl => match us, hl with | [_, _, _], _ => rfl⟩
  unfold S_is_further_message
  exact (ass_cons (as_if (AW.at (aw_or (at_not (at_val (ae_B cr_isi T.b_isinstance (aa_cons (ae_v 2) (aa_cons (ae_type T.b_tuple) aa_nil))))) (aw_or (at_cmp (op_eqA (hu64 hr)) (ae_B cr_lenN T.b_len (aa_cons (ae_v 2) aa_nil)) ae_int) (aw_or1 (at_ninK (ae_ix (ae_v 2) ae_int) (ak_ix T.g_FURTHER_WORDS.choose_spec.1 T.g_FURTHER_WORDS.choose_spec.2 (ae_v 0))))))) (ass_cons (as_ret ae_bl)
    ass_nil) ass_nil)
    (ass_cons (as_if (at_not (at_val (ae_callX G_are_numbers (hr.mono (by first | decide | omega)) (takes_of rfl rfl rfl rfl) (aa_cons (ae_sl (ae_v 2) (ap_some ae_int) ap_none) (aa_cons (ae_ixT T.g_TOLD_LETTERS.choose_spec.1 T.g_TOLD_LETTERS.choose_spec.2 (ae_ix (ae_v 2) ae_int)) (aa_cons (ae_op op_subA (ae_v 1) ae_int) aa_nil)))))) (ass_cons (as_ret ae_bl)
    ass_nil) ass_nil)
    (ass_cons (as_ret (ae_or (ae_cmp (op_neA (hu64 hr)) (ae_ix (ae_v 2) ae_int) ae_str) (ae_one (ae_cmp (op_neA (hu64 hr)) (ae_ix (ae_v 2) ae_int) (ae_ix (ae_v 2) ae_int)))))
    ass_nil)))
abbrev s_keep_further : Stmt := topS 91
theorem sc_keep_further : FnScope ["world", "letters", "keeper", "row", "every"] ["world", "letters", "keeper", "row"] (defScope s_keep_further) := ⟨rfl, rfl, rfl, by decide +kernel, rfl, by decide +kernel, by decide +kernel⟩
def S_keep_further : SF :=
  (sSeq (sExpr (eCall 1 F_check_further (eCons (eVar 0) eNil)))
    (sSeq (sExpr (eCall 1 F_check_letters (eCons (eVar 1) eNil)))
    (sSeq (sAsg (.nm 4) (eCall 2 F_further_messages (eCons (eVar 0) (eCons (eVar 1) eNil))))
    (sSeq (sExpr (eCall 2 F_check_states (eCons (eVar 2) (eCons (eFn oLenN (eCons (eVar 4) eNil)) eNil))))
    (sSeq (sExpr (eLam 2 4 S_check_messages (eCall 3 F_is_further_message (eCons (eVar 0) (eCons (eVar 1) (eCons (eVar 5) eNil)))) (eCons (eVar 3) eNil)))
    sBad)))))
def F_keep_further : On' := defA 5 S_keep_further
set_option maxHeartbeats 16000000 in
theorem ok_keep_further {fa : Addr} {fd : FuncData} (T : Txt w K mg) (G_check_further : FnX P w K mg Tb base "check_further" 1 1 F_check_further) (G_check_letters : FnX P w K mg Tb base "check_letters" 2 1 F_check_letters) (G_further_messages : FnX P w K mg Tb base "further_messages" 3 2 F_further_messages) (G_check_states : FnX P w K mg Tb base "check_states" 3 2 F_check_states) (G_check_messages : FnL P w K mg Tb base "check_messages" 4 2 1 4 S_check_messages) (G_is_further_message : FnX P w K mg Tb base "is_further_message" 3 3 F_is_further_message) (F : Fun K "keep_further" "keep_further" s_keep_further fa fd) (hm : mg "keep_further" = some (.ref fa)) {cL pL : Addr} (B : LamB mg Tb base fd ((("keep_further" : Str) ++ ".<locals>.") ++ "<lambda>") cL pL) : FnX P w K mg Tb base "keep_further" 6 4 F_keep_further := by
  refine ⟨fa, fd, ["world", "letters", "keeper", "row"], fn_AL (k := 5) F sc_keep_further B (fun cdv A outer s₀ H E hr LI => ?_), hm, F.kp, F.binds (ps := ["world", "letters", "keeper", "row"]) fun _ _ _ _ _ _ us hl => match us, hl with | [_, _, _, _], _ => rfl⟩
  unfold S_keep_further
  exact (ass_cons (as_expr (ae_callX G_check_further (hr.mono (by first | decide | omega)) (takes_of rfl rfl rfl rfl) (aa_cons (ae_v 0) aa_nil)))
    (ass_cons (as_expr (ae_callX G_check_letters (hr.mono (by first | decide | omega)) (takes_of rfl rfl rfl rfl) (aa_cons (ae_v 1) aa_nil)))
    (ass_cons (as_set 4 sc_keep_further.nd (ae_callX G_further_messages (hr.mono (by first | decide | omega)) (takes_of rfl rfl rfl rfl) (aa_cons (ae_v 0) (aa_cons (ae_v 1) aa_nil))))
    (ass_cons (as_expr (ae_callX G_check_states (hr.mono (by first | decide | omega)) (takes_of rfl rfl rfl rfl) (aa_cons (ae_v 2) (aa_cons (ae_B cr_lenN T.b_len (aa_cons (ae_v 4) aa_nil)) aa_nil))))
    (ass_cons (as_expr (ae_lam (ps := ["message"]) (kl := 3) G_check_messages hr (takes_of rfl rfl rfl rfl) rfl (lamP_by (sc := defScope s_keep_further) (by decide +kernel)) (alm_cons (ae_v 3) (alm_nil LI (lamP_by (sc := defScope s_keep_further) (ps := ["message"]) (by decide +kernel)))) (fun A outer s s' H E f c' hr2 => (ae_callX G_is_further_message (hr2.mono (by first | decide | omega)) (takes_of rfl rfl rfl rfl) (aa_cons (ae_v 0) (aa_cons (ae_v 1) (aa_cons (ae_v 5) aa_nil))))) (show ∀ x ∈ (["message"] : List Str), x ∉ (["world", "letters", "keeper", "row", "every"] : List Str) from by decide +kernel) (by decide) (by decide) (fun _ _ _ _ _ us hl => match us, hl with | [_], _ => rfl)))
    ass_never)))))
abbrev s_is_commuting : Stmt := topS 45
theorem sc_is_commuting : FnScope ["small", "row", "letters", "steps", "_", "a", "b"] ["small"] (defScope s_is_commuting) := ⟨rfl, rfl, rfl, by decide +kernel, rfl, by decide +kernel, by decide +kernel⟩
def S_is_commuting : SF :=
  (sSeq (sAsg (.tp [(.nm 2), (.nm 3), (.nm 4)]) (eVar 0))
    (sSeq (sFor (iSeq (eVar 3)) (.nm 1) (sSeq (sFor (iRng1 (eCons (eVar 2) eNil)) (.nm 5) (sSeq (sIf (eT (eFn oAny (eCons (eLc (iRng1 (eCons (eVar 5) eNil)) (.nm 6) bYes (eOp oNe (eOp oIx (eOp oIx (eVar 3) (eOp oIx (eVar 1) (eVar 5))) (eVar 6)) (eOp oIx (eOp oIx (eVar 3) (eOp oIx (eVar 1) (eVar 6))) (eVar 5))) [6]) eNil))) (sSeq (sRet (eC (.bl false)))
    sNil) sNil)
    sNil))
    sNil))
    (sSeq (sRet (eC (.bl true)))
    sNil)))
def F_is_commuting : On' := defA 7 S_is_commuting
set_option maxHeartbeats 16000000 in
theorem ok_is_commuting {fa : Addr} {fd : FuncData} (T : Txt w K mg)  (F : Fun K "is_commuting" "is_commuting" s_is_commuting fa fd) (hm : mg "is_commuting" = some (.ref fa)) : FnX P w K mg Tb base "is_commuting" 1 1 F_is_commuting := by
  refine ⟨fa, fd, ["small"], fn_A (k := 0) F sc_is_commuting (fun cdv A outer s₀ H E hr => ?_), hm, F.kp, F.binds (ps := ["small"]) fun _ _ _ _ _ _ us hl => match us, hl with | [_], _ => rfl⟩
  unfold S_is_commuting
  exact (ass_cons (as_asg (ae_v 0) (ag_tp rfl (ags_cons (ag_nm 2 sc_is_commuting.nd) (ags_cons (ag_nm 3 sc_is_commuting.nd) (ags_cons (ag_nm 4 sc_is_commuting.nd) ags_nil)))))
    (ass_cons (as_for (passes_of rfl) rfl (ai_seq (ae_v 3)) (ag_nm 1 sc_is_commuting.nd) (ass_cons (as_for (passes_of rfl) rfl (ai_rng1 T.b_range (aa_cons (ae_v 2) aa_nil)) (ag_nm 5 sc_is_commuting.nd) (ass_cons (as_if (at_val (ae_B (cr_anyA rfl) T.b_any (aa_cons (ae_lc [("b", 6)] rfl sc_is_commuting.nd (blkOk_by rfl) (by decide) (ai_rng1 T.b_range (aa_cons (ae_v 5) aa_nil)) (fun _ _ _ _ _ => (ag_nm 6 sc_is_commuting.nd)) (fun _ _ _ _ _ => ats_nil) (fun _ _ _ _ _ => (ae_cmp (op_neA (hu64 hr)) (ae_ix (ae_ix (ae_v 3) (ae_ix (ae_v 1) (ae_v 5))) (ae_v 6)) (ae_ix (ae_ix (ae_v 3) (ae_ix (ae_v 1) (ae_v 6))) (ae_v 5))))) aa_nil))) (ass_cons (as_ret ae_bl)
    ass_nil) ass_nil)
    ass_nil))
    ass_nil))
    (ass_cons (as_ret ae_bl)
    ass_nil)))
abbrev s_is_kept_further : Stmt := topS 79
theorem sc_is_kept_further : FnScope ["world", "small"] ["world", "small"] (defScope s_is_kept_further) := ⟨rfl, rfl, rfl, by decide +kernel, rfl, by decide +kernel, by decide +kernel⟩
def S_is_kept_further : SF :=
  (sSeq (sIf (bNot (eT (eCall 1 F_is_commuting (eCons (eVar 1) eNil)))) (sSeq (sRet (eC (.bl false)))
    sNil) sNil)
    (sSeq (sRet (eOr (eOp oNe (eVar 0) (eC (.str (Str.ofString "turned")))) (eOp oIs eBad (eC .non))))
    sNil))
def F_is_kept_further : On' := defA 2 S_is_kept_further
set_option maxHeartbeats 16000000 in
theorem ok_is_kept_further {fa : Addr} {fd : FuncData} (T : Txt w K mg) (G_is_commuting : FnX P w K mg Tb base "is_commuting" 1 1 F_is_commuting) (F : Fun K "is_kept_further" "is_kept_further" s_is_kept_further fa fd) (hm : mg "is_kept_further" = some (.ref fa)) : FnX P w K mg Tb base "is_kept_further" 2 2 F_is_kept_further := by
  refine ⟨fa, fd, ["world", "small"], fn_A (k := 1) F sc_is_kept_further (fun cdv A outer s₀ H E hr => ?_), hm, F.kp, F.binds (ps := ["world", "small"]) fun _ _ _ _ _ _ us hl => match us, hl with | [_, _], _ => rfl⟩
  unfold S_is_kept_further
  exact (ass_cons (as_if (at_not (at_val (ae_callX G_is_commuting (hr.mono (by first | decide | omega)) (takes_of rfl rfl rfl rfl) (aa_cons (ae_v 1) aa_nil)))) (ass_cons (as_ret ae_bl)
    ass_nil) ass_nil)
    (ass_cons (as_ret (ae_or (ae_cmp (op_neA (hu64 hr)) (ae_v 0) ae_str) (ae_one (ae_cmp (op_isA) ae_never ae_non))))
    ass_nil))
abbrev s_check_unkept : Stmt := topS 96
theorem sc_check_unkept : FnScope ["world", "question", "keeper"] ["world", "question", "keeper"] (defScope s_check_unkept) := ⟨rfl, rfl, rfl, by decide +kernel, rfl, by decide +kernel, by decide +kernel⟩
def S_check_unkept : SF :=
  (sSeq (sExpr (eCall 1 F_check_further (eCons (eVar 0) eNil)))
    (sSeq (sExpr (eCall 1 F_check_question (eCons (eVar 1) eNil)))
    (sSeq (sExpr (eCall 2 F_check_states (eCons (eVar 2) (eCons (eFn oLenN (eCons (eCall 2 F_further_messages (eCons (eVar 0) (eCons (eOp oIx (eVar 1) (eC (.int 0))) eNil))) eNil)) eNil))))
    (sSeq (sIf (eT (eCall 2 F_is_kept_further (eCons (eVar 0) (eCons (eCallD 2 F_least_of [.non] (eCons (eVar 1) eNil)) eNil)))) (sSeq (sRaise0 "Answerable")
    sNil) sNil)
    sNil))))
def F_check_unkept : On' := defA 3 S_check_unkept
set_option maxHeartbeats 16000000 in
theorem ok_check_unkept {fa : Addr} {fd : FuncData} (T : Txt w K mg) (G_check_further : FnX P w K mg Tb base "check_further" 1 1 F_check_further) (G_check_question : FnX P w K mg Tb base "check_question" 4 1 F_check_question) (G_check_states : FnX P w K mg Tb base "check_states" 3 2 F_check_states) (G_further_messages : FnX P w K mg Tb base "further_messages" 3 2 F_further_messages) (G_is_kept_further : FnX P w K mg Tb base "is_kept_further" 2 2 F_is_kept_further) (G_least_of : FnXD P w K mg Tb base "least_of" 3 2 [.non] F_least_of) (F : Fun K "check_unkept" "check_unkept" s_check_unkept fa fd) (hm : mg "check_unkept" = some (.ref fa)) : FnX P w K mg Tb base "check_unkept" 5 3 F_check_unkept := by
  refine ⟨fa, fd, ["world", "question", "keeper"], fn_A (k := 4) F sc_check_unkept (fun cdv A outer s₀ H E hr => ?_), hm, F.kp, F.binds (ps := ["world", "question", "keeper"]) fun _ _ _ _ _ _ us hl => match us, hl with | [_, _, _], _ => rfl⟩
  unfold S_check_unkept
  exact (ass_cons (as_expr (ae_callX G_check_further (hr.mono (by first | decide | omega)) (takes_of rfl rfl rfl rfl) (aa_cons (ae_v 0) aa_nil)))
    (ass_cons (as_expr (ae_callX G_check_question (hr.mono (by first | decide | omega)) (takes_of rfl rfl rfl rfl) (aa_cons (ae_v 1) aa_nil)))
    (ass_cons (as_expr (ae_callX G_check_states (hr.mono (by first | decide | omega)) (takes_of rfl rfl rfl rfl) (aa_cons (ae_v 2) (aa_cons (ae_B cr_lenN T.b_len (aa_cons (ae_callX G_further_messages (hr.mono (by first | decide | omega)) (takes_of rfl rfl rfl rfl) (aa_cons (ae_v 0) (aa_cons (ae_ix (ae_v 1) ae_int) aa_nil))) aa_nil)) aa_nil))))
    (ass_cons (as_if (at_val (ae_callX G_is_kept_further (hr.mono (by first | decide | omega)) (takes_of rfl rfl rfl rfl) (aa_cons (ae_v 0) (aa_cons (ae_callXD G_least_of (hr.mono (by first | decide | omega)) (takes_of rfl rfl rfl rfl) (aa_cons (ae_v 1) aa_nil)) aa_nil)))) (ass_cons (as_raiseC rfl (takes_of rfl rfl rfl rfl) T.e_Answerable)
    ass_nil) ass_nil)
    ass_nil))))
abbrev s_mislead : Stmt := topS 94
theorem sc_mislead : FnScope ["world", "question", "keeper", "small", "rows", "found", "edits"] ["world", "question", "keeper"] (defScope s_mislead) := ⟨rfl, rfl, rfl, by decide +kernel, rfl, by decide +kernel, by decide +kernel⟩
def S_mislead : SF :=
  (sSeq (sExpr (eCall 3 F_check_unkept (eCons (eVar 0) (eCons (eVar 1) (eCons (eVar 2) eNil)))))
    sBad)
def F_mislead : On' := defA 7 S_mislead
set_option maxHeartbeats 16000000 in
theorem ok_mislead {fa : Addr} {fd : FuncData} (T : Txt w K mg) (G_check_unkept : FnX P w K mg Tb base "check_unkept" 5 3 F_check_unkept) (F : Fun K "mislead" "mislead" s_mislead fa fd) (hm : mg "mislead" = some (.ref fa)) : FnX P w K mg Tb base "mislead" 6 3 F_mislead := by
  refine ⟨fa, fd, ["world", "question", "keeper"], fn_A (k := 5) F sc_mislead (fun cdv A outer s₀ H E hr => ?_), hm, F.kp, F.binds (ps := ["world", "question", "keeper"]) fun _ _ _ _ _ _ us hl => match us, hl with | [_, _, _], _ => rfl⟩
  unfold S_mislead
  exact (ass_cons (as_expr (ae_callX G_check_unkept (hr.mono (by first | decide | omega)) (takes_of rfl rfl rfl rfl) (aa_cons (ae_v 0) (aa_cons (ae_v 1) (aa_cons (ae_v 2) aa_nil)))))
    ass_never)
abbrev s_shows_misled : Stmt := topS 95
theorem sc_shows_misled : FnScope ["world", "question", "keeper", "value"] ["world", "question", "keeper", "value"] (defScope s_shows_misled) := ⟨rfl, rfl, rfl, by decide +kernel, rfl, by decide +kernel, by decide +kernel⟩
def S_shows_misled : SF :=
  (sSeq (sExpr (eCall 3 F_check_unkept (eCons (eVar 0) (eCons (eVar 1) (eCons (eVar 2) eNil)))))
    sBad)
def F_shows_misled : On' := defA 4 S_shows_misled
set_option maxHeartbeats 16000000 in
theorem ok_shows_misled {fa : Addr} {fd : FuncData} (T : Txt w K mg) (G_check_unkept : FnX P w K mg Tb base "check_unkept" 5 3 F_check_unkept) (F : Fun K "shows_misled" "shows_misled" s_shows_misled fa fd) (hm : mg "shows_misled" = some (.ref fa)) : FnX P w K mg Tb base "shows_misled" 6 4 F_shows_misled := by
  refine ⟨fa, fd, ["world", "question", "keeper", "value"], fn_A (k := 5) F sc_shows_misled (fun cdv A outer s₀ H E hr => ?_), hm, F.kp, F.binds (ps := ["world", "question", "keeper", "value"]) fun _ _ _ _ _ _ us hl => match us, hl with | [_, _, _, _], _ => rfl⟩
  unfold S_shows_misled
  exact (ass_cons (as_expr (ae_callX G_check_unkept (hr.mono (by first | decide | omega)) (takes_of rfl rfl rfl rfl) (aa_cons (ae_v 0) (aa_cons (ae_v 1) (aa_cons (ae_v 2) aa_nil)))))
    ass_never)
abbrev s_further_reason : Stmt := topS 92
theorem sc_further_reason : FnScope ["world", "question", "small", "texts", "letter", "one", "other"] ["world", "question"] (defScope s_further_reason) := ⟨rfl, rfl, rfl, by decide +kernel, rfl, by decide +kernel, by decide +kernel⟩
def S_further_reason : SF :=
  (sSeq (sExpr (eCall 1 F_check_further (eCons (eVar 0) eNil)))
    (sSeq (sExpr (eCall 1 F_check_question (eCons (eVar 1) eNil)))
    sBad))
def F_further_reason : On' := defA 7 S_further_reason
set_option maxHeartbeats 16000000 in
theorem ok_further_reason {fa : Addr} {fd : FuncData} (T : Txt w K mg) (G_check_further : FnX P w K mg Tb base "check_further" 1 1 F_check_further) (G_check_question : FnX P w K mg Tb base "check_question" 4 1 F_check_question) (F : Fun K "further_reason" "further_reason" s_further_reason fa fd) (hm : mg "further_reason" = some (.ref fa)) : FnX P w K mg Tb base "further_reason" 5 2 F_further_reason := by
  refine ⟨fa, fd, ["world", "question"], fn_A (k := 4) F sc_further_reason (fun cdv A outer s₀ H E hr => ?_), hm, F.kp, F.binds (ps := ["world", "question"]) fun _ _ _ _ _ _ us hl => match us, hl with | [_, _], _ => rfl⟩
  unfold S_further_reason
  exact (ass_cons (as_expr (ae_callX G_check_further (hr.mono (by first | decide | omega)) (takes_of rfl rfl rfl rfl) (aa_cons (ae_v 0) aa_nil)))
    (ass_cons (as_expr (ae_callX G_check_question (hr.mono (by first | decide | omega)) (takes_of rfl rfl rfl rfl) (aa_cons (ae_v 1) aa_nil)))
    ass_never))
abbrev s_shows_further_reason : Stmt := topS 93
theorem sc_shows_further_reason : FnScope ["world", "question", "value", "small"] ["world", "question", "value"] (defScope s_shows_further_reason) := ⟨rfl, rfl, rfl, by decide +kernel, rfl, by decide +kernel, by decide +kernel⟩
def S_shows_further_reason : SF :=
  (sSeq (sExpr (eCall 1 F_check_further (eCons (eVar 0) eNil)))
    (sSeq (sExpr (eCall 1 F_check_question (eCons (eVar 1) eNil)))
    sBad))
def F_shows_further_reason : On' := defA 4 S_shows_further_reason
set_option maxHeartbeats 16000000 in
theorem ok_shows_further_reason {fa : Addr} {fd : FuncData} (T : Txt w K mg) (G_check_further : FnX P w K mg Tb base "check_further" 1 1 F_check_further) (G_check_question : FnX P w K mg Tb base "check_question" 4 1 F_check_question) (F : Fun K "shows_further_reason" "shows_further_reason" s_shows_further_reason fa fd) (hm : mg "shows_further_reason" = some (.ref fa)) : FnX P w K mg Tb base "shows_further_reason" 5 3 F_shows_further_reason := by
  refine ⟨fa, fd, ["world", "question", "value"], fn_A (k := 4) F sc_shows_further_reason (fun cdv A outer s₀ H E hr => ?_), hm, F.kp, F.binds (ps := ["world", "question", "value"]) fun _ _ _ _ _ _ us hl => match us, hl with | [_, _, _], _ => rfl⟩
  unfold S_shows_further_reason
  exact (ass_cons (as_expr (ae_callX G_check_further (hr.mono (by first | decide | omega)) (takes_of rfl rfl rfl rfl) (aa_cons (ae_v 0) aa_nil)))
    (ass_cons (as_expr (ae_callX G_check_question (hr.mono (by first | decide | omega)) (takes_of rfl rfl rfl rfl) (aa_cons (ae_v 1) aa_nil)))
    ass_never))
abbrev s_law : Stmt := topS 144
theorem sc_law : FnScope ["script", "row", "asks", "question", "found", "keeper", "right", "told", "number", "world", "bad", "fine"] ["script"] (defScope s_law) := ⟨rfl, rfl, rfl, by decide +kernel, rfl, by decide +kernel, by decide +kernel⟩
def S_law : SF :=
  (sSeq (sAsg (.nm 1) (eLst (eCons (eVar 0) (eCons (eC (.int 0)) (eCons (eC (.int 11208)) (eCons (eC (.int 0)) eNil))))))
    (sSeq (sAsg (.tp [(.nm 8), (.nm 9)]) (eTup (eCons (eCall 2 F_law_pick (eCons (eVar 1) (eCons (eLst (eCons (eC .non) (eCons (eC (.int 0)) (eCons (eC (.int 4)) (eCons (eC (.bl true)) (eCons (eC (.str (Str.ofString "1"))) eNil)))))) eNil))) (eCons (eCall 2 F_law_pick (eCons (eVar 1) (eCons (eLst (eCons (eC .non) (eCons (eC (.str (Str.ofString ""))) (eCons (eC (.str (Str.ofString "end"))) (eCons (eC (.str (Str.ofString "stack"))) (eCons (eC (.int 5)) (eCons (eTup (eCons (eC (.str (Str.ofString "move"))) eNil)) eNil))))))) eNil))) eNil))))
    (sSeq (sAsg (.nm 2) (eLst (eCons (eC .non) (eCons (eTup eNil) (eCons (eTup (eCons (eC (.str (Str.ofString "void"))) (eCons (eC (.int 1)) eNil))) (eCons (eTup (eCons (eC (.str (Str.ofString "begins"))) eNil)) (eCons (eTup (eCons (eC (.str (Str.ofString "begins"))) (eCons (eTup eNil) eNil))) (eCons (eTup (eCons (eC (.str (Str.ofString "begins"))) (eCons (eTup (eCons (eC (.int 2)) eNil)) eNil))) (eCons (eTup (eCons (eC (.str (Str.ofString "ends"))) (eCons (eOp oMulT (eTup (eCons (eC (.int 0)) eNil)) (eC (.int 7))) eNil))) eNil)))))))))
    (sSeq (sAsg (.nm 2) (eOp oAdd (eVar 2) (eLst (eCons (eTup (eCons (eC (.str (Str.ofString "holds"))) (eCons (eLst (eCons (eC (.int 0)) eNil)) eNil))) (eCons (eTup (eCons (eC (.str (Str.ofString "least"))) (eCons (eC (.int 0)) (eCons (eC (.int 0)) eNil)))) (eCons (eTup (eCons (eC (.str (Str.ofString "least"))) (eCons (eC (.int 7)) (eCons (eC (.int 0)) eNil)))) (eCons (eTup (eCons (eC (.str (Str.ofString "least"))) (eCons (eC (.int 1)) (eCons (eC (.int 2)) eNil)))) eNil)))))))
    (sSeq (sAsg (.nm 2) (eOp oAdd (eVar 2) (eLst (eCons (eTup (eCons (eC (.str (Str.ofString "sum"))) (eCons (eTup (eCons (eC (.int 1)) eNil)) (eCons (eC (.int 2)) (eCons (eC (.int 0)) eNil))))) (eCons (eTup (eCons (eC (.str (Str.ofString "sum"))) (eCons (eTup (eCons (eC (.int 1)) (eCons (eC (.int 2)) eNil))) (eCons (eC (.int 2)) (eCons (eC (.int 0)) eNil))))) (eCons (eTup (eCons (eC (.str (Str.ofString "sum"))) (eCons (eTup (eCons (eC (.int 1)) (eCons (eC (.int 1)) eNil))) (eCons (eC (.int 9)) (eCons (eC (.int 0)) eNil))))) (eCons (eTup (eCons (eC (.str (Str.ofString "sum"))) (eCons (eTup (eCons (eC (.int 1)) (eCons (eC (.int 1)) eNil))) (eCons (eC (.int 2)) (eCons (eC (.int 2)) eNil))))) eNil)))))))
    (sSeq (sAsg (.nm 2) (eOp oAdd (eVar 2) (eLst (eCons (eTup (eCons (eC (.str (Str.ofString "not"))) eNil)) (eCons (eTup (eCons (eC (.str (Str.ofString "not"))) (eCons (eC .non) eNil))) (eCons (eTup (eCons (eC (.str (Str.ofString "and"))) (eCons (eTup (eCons (eC (.str (Str.ofString "void"))) eNil)) eNil))) (eCons (eLst (eCons (eC (.str (Str.ofString "void"))) eNil)) (eCons (eTup (eCons (eC (.str (Str.ofString "xor"))) (eCons (eTup (eCons (eC (.str (Str.ofString "void"))) eNil)) (eCons (eTup (eCons (eC (.str (Str.ofString "void"))) eNil)) eNil)))) eNil))))))))
    (sSeq (sAsg (.tp [(.nm 10), (.nm 11)]) (eTup (eCons (eCall 2 F_law_pick (eCons (eVar 1) (eCons (eOp oAdd (eVar 2) (eLst (eCons (eCall 1 F_law_deep (eCons (eC (.int 7)) eNil)) (eCons (eCall 1 F_law_wide (eCons (eC (.int 17)) eNil)) eNil)))) eNil))) (eCons (eTup (eCons (eC (.int 2)) (eCons (eTup (eCons (eTup (eCons (eC (.int 0)) (eCons (eC (.int 0)) eNil))) eNil)) (eCons (eTup (eCons (eC (.int 0)) eNil)) eNil)))) eNil))))
    (sSeq (sAsg (.nm 3) (eCall 2 F_law_pick (eCons (eVar 1) (eCons (eLst (eCons (eC .non) (eCons (eTup (eCons (eC (.int 2)) eNil)) (eCons (eTup (eCons (eC (.int 0)) (eCons (eTup eNil) (eCons (eTup eNil) eNil)))) (eCons (eTup (eCons (eC (.int 2)) (eCons (eTup (eCons (eTup (eCons (eC (.int 0)) eNil)) eNil)) (eCons (eTup (eCons (eC (.int 0)) eNil)) eNil)))) (eCons (eTup (eCons (eC (.int 2)) (eCons (eTup (eCons (eTup (eCons (eC (.int 0)) (eCons (eC (.int 0)) eNil))) eNil)) (eCons (eTup (eCons (eC (.int 4)) eNil)) eNil)))) (eCons (eTup (eCons (eC (.int 2)) (eCons (eTup (eCons (eTup (eCons (eC (.int 0)) (eCons (eC (.int 1)) eNil))) eNil)) (eCons (eTup (eCons (eC (.int 0)) eNil)) eNil)))) eNil))))))) eNil))))
    (sSeq (gkS 4 (sAsg (.nm 4) (eLst (eCons (eLam 1 4 S_law_error (eCall 3 F_is_true (eCons (eVar 8) (eCons (eVar 10) (eCons (eC .non) eNil)))) eNil) (eCons (eLamD 4 0 S_law_error (eCall 3 F_is_true (eCons (eC (.int 2)) (eCons (eVar 10) (eCons (eC .non) eNil))))) eNil)))))
    (sSeq (gkS 4 (sAsg (.nm 4) (eOp oAdd (eVar 4) (eLst (eCons (eLamD 4 0 S_law_error (eCall 3 F_is_true (eCons (eC (.int 2)) (eCons (eTup (eCons (eC (.str (Str.ofString "void"))) eNil)) (eCons (eTup (eCons (eC (.int 2)) eNil)) eNil))))) eNil)))))
    (sSeq (gkS 4 (sAsg (.nm 4) (eOp oAdd (eVar 4) (eLst (eCons (eLam 1 4 S_law_error (eCall 2 F_question_of (eCons (eVar 8) (eCons (eC .non) eNil))) eNil) (eCons (eLamD 4 0 S_law_error (eCall 2 F_question_of (eCons (eC (.int 2)) (eCons (eVar 10) eNil)))) eNil))))))
    (sSeq (gkS 4 (sAsg (.nm 4) (eOp oAdd (eVar 4) (eLst (eCons (eLamD 4 0 S_law_error (eCall 2 F_write_ask (eCons (eC (.int 2)) (eCons (eVar 10) eNil)))) eNil)))))
    (sSeq (gkS 4 (sAsg (.nm 4) (eOp oAdd (eVar 4) (eLst (eCons (eLam 1 4 S_law_error (eCall 2 F_read_ask (eCons (eVar 8) (eCons (eC .non) eNil))) eNil) (eCons (eLamD 4 0 S_law_error (eCall 2 F_read_ask (eCons (eC (.int 2)) (eCons (eC .non) eNil)))) eNil))))))
    (sSeq (gkS 4 (sAsg (.nm 4) (eOp oAdd (eVar 4) (eLst (eCons (eLamD 4 0 S_law_error (eCall 2 F_question_of (eCons (eC (.int 2)) (eCons (eCall 1 F_law_deep (eCons (eC (.int 6)) eNil)) eNil)))) eNil)))))
    (sSeq (gkS 4 (sAsg (.nm 4) (eOp oAdd (eVar 4) (eLst (eCons (eLam 1 4 S_law_error (eCall 2 F_question_of (eCons (eC (.int 2)) (eCons (eCall 1 F_law_wide (eCons (eC (.int 16)) eNil)) eNil))) eNil) eNil)))))
    (sSeq (gtS (sIf (eB (eOp oNe (eVar 4) (eLst (eCons (eC (.int 2)) (eCons (eC (.int 0)) (eCons (eC (.int 8)) (eCons (eC (.int 2)) (eCons (eC (.int 0)) (eCons (eC (.int 0)) (eCons (eC (.int 2)) (eCons (eC (.int 7)) (eCons (eC .non) (eCons (eC .non) eNil))))))))))))) (sSeq (sRet (eC (.bl false)))
    sNil) sNil))
    (sSeq (gkS 4 (sAsg (.nm 4) (eLst (eCons (eLam 1 4 S_law_error (eCall 3 F_further_text (eCons (eVar 9) (eCons (eVar 8) (eCons (eC .non) eNil)))) eNil) eNil))))
    (sSeq (gkS 4 (sAsg (.nm 4) (eOp oAdd (eVar 4) (eLst (eCons (eLamD 4 0 S_law_error (eCall 3 F_further_told (eCons (eC (.str (Str.ofString "cut"))) (eCons (eVar 8) (eCons (eC .non) eNil))))) eNil)))))
    (sSeq (gkS 4 (sAsg (.nm 4) (eOp oAdd (eVar 4) (eLst (eCons (eLamD 4 0 S_law_error (eCall 3 F_further_text (eCons (eC (.str (Str.ofString "cut"))) (eCons (eC (.int 2)) (eCons (eC .non) eNil))))) eNil)))))
    (sSeq (gkS 4 (sAsg (.nm 4) (eOp oAdd (eVar 4) (eLst (eCons (eLam 1 4 S_law_error (eCall 2 F_further_messages (eCons (eVar 9) (eCons (eVar 8) eNil))) eNil) eNil)))))
    (sSeq (gkS 4 (sAsg (.nm 4) (eOp oAdd (eVar 4) (eLst (eCons (eLamD 4 0 S_law_error (eCall 2 F_further_messages (eCons (eC (.str (Str.ofString "flip"))) (eCons (eVar 8) eNil)))) eNil)))))
    (sSeq (gkS 4 (sAsg (.nm 4) (eOp oAdd (eVar 4) (eLst (eCons (eLamD 4 0 S_law_error (eCall 2 F_can_keep_further (eCons (eVar 9) (eCons (eVar 3) eNil)))) eNil)))))
    (sSeq (gkS 4 (sAsg (.nm 4) (eOp oAdd (eVar 4) (eLst (eCons (eLam 1 4 S_law_error (eCall 2 F_can_keep_further (eCons (eC (.str (Str.ofString "move"))) (eCons (eVar 3) eNil))) eNil) eNil)))))
    (sSeq (gkS 4 (sAsg (.nm 4) (eOp oAdd (eVar 4) (eLst (eCons (eLamD 4 0 S_law_error (eCall 2 F_further_keeper (eCons (eVar 9) (eCons (eC .non) eNil)))) eNil)))))
    (sSeq (gkS 4 (sAsg (.nm 4) (eOp oAdd (eVar 4) (eLst (eCons (eLamD 4 0 S_law_error (eCall 2 F_further_keeper (eCons (eC (.str (Str.ofString "cut"))) (eCons (eVar 3) eNil)))) eNil)))))
    (sSeq (gtS (sIf (eB (eOp oNe (eVar 4) (eLst (eCons (eC (.int 1)) (eCons (eC (.int 2)) (eCons (eC (.int 4)) (eCons (eC (.int 1)) (eCons (eC (.int 2)) (eCons (eC (.int 1)) (eCons (eC (.int 3)) (eCons (eC (.int 1)) (eCons (eC (.int 3)) eNil)))))))))))) (sSeq (sRet (eC (.bl false)))
    sNil) sNil))
    (sSeq (sAsg (.nm 5) (eCall 2 F_law_pick (eCons (eVar 1) (eCons (eLst (eCons (eC .non) (eCons (eTup (eCons (eTup eNil) (eCons (eTup eNil) eNil))) (eCons (eTup (eCons (eTup (eCons (eTup (eCons (eC (.int 0)) (eCons (eC (.int 0)) (eCons (eC (.int 0)) eNil)))) eNil)) (eCons (eTup (eCons (eC (.int 4)) eNil)) eNil))) (eCons (eTup (eCons (eTup (eCons (eTup (eCons (eC (.int 0)) (eCons (eC (.int 0)) eNil))) eNil)) (eCons (eTup (eCons (eC (.int 0)) eNil)) eNil))) (eCons (eTup (eCons (eTup (eCons (eTup (eCons (eC (.int 0)) (eCons (eC (.int 0)) (eCons (eC (.int 1)) eNil)))) eNil)) (eCons (eTup (eCons (eC (.int 0)) eNil)) eNil))) (eCons (eTup (eCons (eLst eNil) (eCons (eTup eNil) eNil))) eNil))))))) eNil))))
    (sSeq (sAsg (.nm 6) (eTup (eCons (eTup (eCons (eTup (eCons (eC (.int 0)) (eCons (eC (.int 0)) (eCons (eC (.int 0)) eNil)))) eNil)) (eCons (eTup (eCons (eC (.int 0)) eNil)) eNil))))
    (sSeq (gkS 4 (sAsg (.nm 4) (eLst (eCons (eLam 1 4 S_law_error (eCall 4 F_keep_further (eCons (eVar 9) (eCons (eC .non) (eCons (eC .non) (eCons (eC .non) eNil))))) eNil) eNil))))
    (sSeq (gkS 4 (sAsg (.nm 4) (eOp oAdd (eVar 4) (eLst (eCons (eLamD 4 0 S_law_error (eCall 4 F_keep_further (eCons (eC (.str (Str.ofString "cut"))) (eCons (eVar 8) (eCons (eC .non) (eCons (eC .non) eNil)))))) eNil)))))
    (sSeq (gkS 4 (sAsg (.nm 4) (eOp oAdd (eVar 4) (eLst (eCons (eLamD 4 0 S_law_error (eCall 4 F_keep_further (eCons (eC (.str (Str.ofString "cut"))) (eCons (eC (.int 2)) (eCons (eVar 5) (eCons (eC .non) eNil)))))) eNil)))))
    (sSeq (sAsg (.nm 7) (eCall 2 F_law_pick (eCons (eVar 1) (eCons (eLst (eCons (eC .non) (eCons (eLst eNil) (eCons (eTup (eCons (eTup (eCons (eC (.str (Str.ofString "cut"))) (eCons (eC (.int 0)) eNil))) eNil)) (eCons (eTup (eCons (eTup (eCons (eC (.str (Str.ofString "put"))) (eCons (eC (.int 2)) eNil))) eNil)) (eCons (eTup (eCons (eTup (eCons (eC (.str (Str.ofString "put"))) (eCons (eC (.bl true)) eNil))) eNil)) (eCons (eOp oMulT (eTup (eCons (eTup (eCons (eC (.str (Str.ofString "cut"))) eNil)) eNil)) (eC (.int 101))) eNil))))))) eNil))))
    (sSeq (gkS 4 (sAsg (.nm 4) (eOp oAdd (eVar 4) (eLst (eCons (eLam 1 4 S_law_error (eCall 4 F_keep_further (eCons (eC (.str (Str.ofString "cut"))) (eCons (eC (.int 2)) (eCons (eVar 6) (eCons (eVar 7) eNil))))) eNil) eNil)))))
    (sSeq (gkS 4 (sAsg (.nm 4) (eOp oAdd (eVar 4) (eLst (eCons (eLam 1 4 S_law_error (eCall 3 F_mislead (eCons (eC (.str (Str.ofString "cut"))) (eCons (eVar 3) (eCons (eVar 5) eNil)))) eNil) eNil)))))
    (sSeq (gkS 4 (sAsg (.nm 4) (eOp oAdd (eVar 4) (eLst (eCons (eLamD 4 0 S_law_error (eCall 3 F_mislead (eCons (eC (.str (Str.ofString "cut"))) (eCons (eVar 11) (eCons (eVar 5) eNil))))) eNil)))))
    (sSeq (gkS 4 (sAsg (.nm 4) (eOp oAdd (eVar 4) (eLst (eCons (eLamD 4 0 S_law_error (eCall 3 F_mislead (eCons (eC (.str (Str.ofString "cut"))) (eCons (eVar 11) (eCons (eVar 6) eNil))))) eNil)))))
    (sSeq (gkS 4 (sAsg (.nm 4) (eOp oAdd (eVar 4) (eLst (eCons (eLam 1 4 S_law_error (eCall 4 F_shows_misled (eCons (eC (.str (Str.ofString "cut"))) (eCons (eVar 11) (eCons (eVar 6) (eCons (eC .non) eNil))))) eNil) eNil)))))
    (sSeq (gkS 4 (sAsg (.nm 4) (eOp oAdd (eVar 4) (eLst (eCons (eLamD 4 0 S_law_error (eCall 2 F_further_reason (eCons (eVar 9) (eCons (eVar 3) eNil)))) eNil)))))
    (sSeq (gkS 4 (sAsg (.nm 4) (eOp oAdd (eVar 4) (eLst (eCons (eLamD 4 0 S_law_error (eCall 3 F_shows_further_reason (eCons (eC (.str (Str.ofString "cut"))) (eCons (eVar 3) (eCons (eC .non) eNil))))) eNil)))))
    (sSeq (sRet (eOp oEq (eVar 4) (eLst (eCons (eC (.int 1)) (eCons (eC (.int 2)) (eCons (eC (.int 5)) (eCons (eC (.int 6)) (eCons (eC (.int 3)) (eCons (eC (.int 5)) (eCons (eC (.int 10)) (eCons (eC (.int 10)) (eCons (eC (.int 1)) (eCons (eC (.int 3)) eNil)))))))))))))
    sNil))))))))))))))))))))))))))))))))))))))))
def F_law : On' := defA 12 S_law
set_option maxHeartbeats 16000000 in
theorem ok_law {fa : Addr} {fd : FuncData} (T : Txt w K mg) (G_law_pick : FnX P w K mg Tb base "_law_pick" 2 2 F_law_pick) (G_law_deep : FnX P w K mg Tb base "_law_deep" 1 1 F_law_deep) (G_law_wide : FnX P w K mg Tb base "_law_wide" 1 1 F_law_wide) (G_law_error : FnL P w K mg Tb base "_law_error" 15 1 0 4 S_law_error) (G_is_true : FnX P w K mg Tb base "is_true" 14 3 F_is_true) (G_question_of : FnX P w K mg Tb base "question_of" 14 2 F_question_of) (G_write_ask : FnX P w K mg Tb base "write_ask" 14 2 F_write_ask) (G_read_ask : FnX P w K mg Tb base "read_ask" 3 2 F_read_ask) (G_further_text : FnX P w K mg Tb base "further_text" 4 3 F_further_text) (G_further_told : FnX P w K mg Tb base "further_told" 5 3 F_further_told) (G_further_messages : FnX P w K mg Tb base "further_messages" 3 2 F_further_messages) (G_can_keep_further : FnX P w K mg Tb base "can_keep_further" 5 2 F_can_keep_further) (G_further_keeper : FnX P w K mg Tb base "further_keeper" 5 2 F_further_keeper) (G_keep_further : FnX P w K mg Tb base "keep_further" 6 4 F_keep_further) (G_mislead : FnX P w K mg Tb base "mislead" 6 3 F_mislead) (G_shows_misled : FnX P w K mg Tb base "shows_misled" 6 4 F_shows_misled) (G_further_reason : FnX P w K mg Tb base "further_reason" 5 2 F_further_reason) (G_shows_further_reason : FnX P w K mg Tb base "shows_further_reason" 5 3 F_shows_further_reason) (F : Fun K "law" "law" s_law fa fd) {cL pL : Addr} (B : LamB mg Tb base fd ((("law" : Str) ++ ".<locals>.") ++ "<lambda>") cL pL) : FnOk P w K mg base (L2.CX P w) 17 fa fd ["script"] (spA ⟨mg, ⟨w, K, mg, Tb⟩⟩ 1 F_law) := by
  refine fn_AL (k := 16) F sc_law B (fun cdv A outer s₀ H E hr LI => ?_)
  unfold S_law
  exact (ass_cons (as_set 1 sc_law.nd (ae_lst (aa_cons (ae_v 0) (aa_cons ae_int (aa_cons ae_int (aa_cons ae_int aa_nil))))))
    (ass_cons (as_asg (ae_tup (aa_cons (ae_callX G_law_pick (hr.mono (by first | decide | omega)) (takes_of rfl rfl rfl rfl) (aa_cons (ae_v 1) (aa_cons (ae_lst (aa_cons ae_non (aa_cons ae_int (aa_cons ae_int (aa_cons ae_bl (aa_cons ae_str aa_nil)))))) aa_nil))) (aa_cons (ae_callX G_law_pick (hr.mono (by first | decide | omega)) (takes_of rfl rfl rfl rfl) (aa_cons (ae_v 1) (aa_cons (ae_lst (aa_cons ae_non (aa_cons ae_str (aa_cons ae_str (aa_cons ae_str (aa_cons ae_int (aa_cons (ae_tup (aa_cons ae_str aa_nil)) aa_nil))))))) aa_nil))) aa_nil))) (ag_tp rfl (ags_cons (ag_nm 8 sc_law.nd) (ags_cons (ag_nm 9 sc_law.nd) ags_nil))))
    (ass_cons (as_set 2 sc_law.nd (ae_lst (aa_cons ae_non (aa_cons (ae_tup aa_nil) (aa_cons (ae_tup (aa_cons ae_str (aa_cons ae_int aa_nil))) (aa_cons (ae_tup (aa_cons ae_str aa_nil)) (aa_cons (ae_tup (aa_cons ae_str (aa_cons (ae_tup aa_nil) aa_nil))) (aa_cons (ae_tup (aa_cons ae_str (aa_cons (ae_tup (aa_cons ae_int aa_nil)) aa_nil))) (aa_cons (ae_tup (aa_cons ae_str (aa_cons (ae_op op_mulT (ae_tup (aa_cons ae_int aa_nil)) ae_int) aa_nil))) aa_nil)))))))))
    (ass_cons (as_set 2 sc_law.nd (ae_op op_addA (ae_v 2) (ae_lst (aa_cons (ae_tup (aa_cons ae_str (aa_cons (ae_lst (aa_cons ae_int aa_nil)) aa_nil))) (aa_cons (ae_tup (aa_cons ae_str (aa_cons ae_int (aa_cons ae_int aa_nil)))) (aa_cons (ae_tup (aa_cons ae_str (aa_cons ae_int (aa_cons ae_int aa_nil)))) (aa_cons (ae_tup (aa_cons ae_str (aa_cons ae_int (aa_cons ae_int aa_nil)))) aa_nil)))))))
    (ass_cons (as_set 2 sc_law.nd (ae_op op_addA (ae_v 2) (ae_lst (aa_cons (ae_tup (aa_cons ae_str (aa_cons (ae_tup (aa_cons ae_int aa_nil)) (aa_cons ae_int (aa_cons ae_int aa_nil))))) (aa_cons (ae_tup (aa_cons ae_str (aa_cons (ae_tup (aa_cons ae_int (aa_cons ae_int aa_nil))) (aa_cons ae_int (aa_cons ae_int aa_nil))))) (aa_cons (ae_tup (aa_cons ae_str (aa_cons (ae_tup (aa_cons ae_int (aa_cons ae_int aa_nil))) (aa_cons ae_int (aa_cons ae_int aa_nil))))) (aa_cons (ae_tup (aa_cons ae_str (aa_cons (ae_tup (aa_cons ae_int (aa_cons ae_int aa_nil))) (aa_cons ae_int (aa_cons ae_int aa_nil))))) aa_nil)))))))
    (ass_cons (as_set 2 sc_law.nd (ae_op op_addA (ae_v 2) (ae_lst (aa_cons (ae_tup (aa_cons ae_str aa_nil)) (aa_cons (ae_tup (aa_cons ae_str (aa_cons ae_non aa_nil))) (aa_cons (ae_tup (aa_cons ae_str (aa_cons (ae_tup (aa_cons ae_str aa_nil)) aa_nil))) (aa_cons (ae_lst (aa_cons ae_str aa_nil)) (aa_cons (ae_tup (aa_cons ae_str (aa_cons (ae_tup (aa_cons ae_str aa_nil)) (aa_cons (ae_tup (aa_cons ae_str aa_nil)) aa_nil)))) aa_nil))))))))
    (ass_cons (as_asg (ae_tup (aa_cons (ae_callX G_law_pick (hr.mono (by first | decide | omega)) (takes_of rfl rfl rfl rfl) (aa_cons (ae_v 1) (aa_cons (ae_op op_addA (ae_v 2) (ae_lst (aa_cons (ae_callX G_law_deep (hr.mono (by first | decide | omega)) (takes_of rfl rfl rfl rfl) (aa_cons ae_int aa_nil)) (aa_cons (ae_callX G_law_wide (hr.mono (by first | decide | omega)) (takes_of rfl rfl rfl rfl) (aa_cons ae_int aa_nil)) aa_nil)))) aa_nil))) (aa_cons (ae_tup (aa_cons ae_int (aa_cons (ae_tup (aa_cons (ae_tup (aa_cons ae_int (aa_cons ae_int aa_nil))) aa_nil)) (aa_cons (ae_tup (aa_cons ae_int aa_nil)) aa_nil)))) aa_nil))) (ag_tp rfl (ags_cons (ag_nm 10 sc_law.nd) (ags_cons (ag_nm 11 sc_law.nd) ags_nil))))
    (ass_cons (as_set 3 sc_law.nd (ae_callX G_law_pick (hr.mono (by first | decide | omega)) (takes_of rfl rfl rfl rfl) (aa_cons (ae_v 1) (aa_cons (ae_lst (aa_cons ae_non (aa_cons (ae_tup (aa_cons ae_int aa_nil)) (aa_cons (ae_tup (aa_cons ae_int (aa_cons (ae_tup aa_nil) (aa_cons (ae_tup aa_nil) aa_nil)))) (aa_cons (ae_tup (aa_cons ae_int (aa_cons (ae_tup (aa_cons (ae_tup (aa_cons ae_int aa_nil)) aa_nil)) (aa_cons (ae_tup (aa_cons ae_int aa_nil)) aa_nil)))) (aa_cons (ae_tup (aa_cons ae_int (aa_cons (ae_tup (aa_cons (ae_tup (aa_cons ae_int (aa_cons ae_int aa_nil))) aa_nil)) (aa_cons (ae_tup (aa_cons ae_int aa_nil)) aa_nil)))) (aa_cons (ae_tup (aa_cons ae_int (aa_cons (ae_tup (aa_cons (ae_tup (aa_cons ae_int (aa_cons ae_int aa_nil))) aa_nil)) (aa_cons (ae_tup (aa_cons ae_int aa_nil)) aa_nil)))) aa_nil))))))) aa_nil))))
    (ass_gk 4 (as_set 4 sc_law.nd (ae_lst (aa_cons (ae_lam (ps := []) (kl := 14) G_law_error hr (takes_of rfl rfl rfl rfl) rfl (lamP_by (sc := defScope s_law) (by decide +kernel)) (alm_nil LI (lamP_by (sc := defScope s_law) (ps := []) (by decide +kernel))) (fun A outer s s' H E f c' hr2 => (ae_callX G_is_true (hr2.mono (by first | decide | omega)) (takes_of rfl rfl rfl rfl) (aa_cons (ae_v 8) (aa_cons (ae_v 10) (aa_cons ae_non aa_nil))))) (show ∀ x ∈ ([] : List Str), x ∉ (["script", "row", "asks", "question", "found", "keeper", "right", "told", "number", "world", "bad", "fine"] : List Str) from by decide +kernel) (by decide) (by decide) (fun _ _ _ _ _ us hl => match us, hl with | [], _ => rfl)) (aa_cons (ae_lamD (kl := 14) G_law_error hr (takes_of rfl rfl rfl rfl) LI (lamP_by (sc := defScope s_law) (by decide +kernel)) (fun A outer s s' H E f c' hr2 => (ae_callX G_is_true (hr2.mono (by first | decide | omega)) (takes_of rfl rfl rfl rfl) (aa_cons ae_int (aa_cons (ae_v 10) (aa_cons ae_non aa_nil))))) (show ∀ x ∈ (["a"] : List Str), x ∉ (["script", "row", "asks", "question", "found", "keeper", "right", "told", "number", "world", "bad", "fine"] : List Str) from by decide +kernel) (by decide) (by decide) (fun _ _ _ _ _ _ _ _ => ⟨_, rfl, rfl⟩)) aa_nil))))
    (ass_gk 4 (as_set 4 sc_law.nd (ae_op op_addA (ae_v 4) (ae_lst (aa_cons (ae_lamD (kl := 14) G_law_error hr (takes_of rfl rfl rfl rfl) LI (lamP_by (sc := defScope s_law) (by decide +kernel)) (fun A outer s s' H E f c' hr2 => (ae_callX G_is_true (hr2.mono (by first | decide | omega)) (takes_of rfl rfl rfl rfl) (aa_cons ae_int (aa_cons (ae_tup (aa_cons ae_str aa_nil)) (aa_cons (ae_tup (aa_cons ae_int aa_nil)) aa_nil))))) (show ∀ x ∈ (["b"] : List Str), x ∉ (["script", "row", "asks", "question", "found", "keeper", "right", "told", "number", "world", "bad", "fine"] : List Str) from by decide +kernel) (by decide) (by decide) (fun _ _ _ _ _ _ _ _ => ⟨_, rfl, rfl⟩)) aa_nil))))
    (ass_gk 4 (as_set 4 sc_law.nd (ae_op op_addA (ae_v 4) (ae_lst (aa_cons (ae_lam (ps := []) (kl := 14) G_law_error hr (takes_of rfl rfl rfl rfl) rfl (lamP_by (sc := defScope s_law) (by decide +kernel)) (alm_nil LI (lamP_by (sc := defScope s_law) (ps := []) (by decide +kernel))) (fun A outer s s' H E f c' hr2 => (ae_callX G_question_of (hr2.mono (by first | decide | omega)) (takes_of rfl rfl rfl rfl) (aa_cons (ae_v 8) (aa_cons ae_non aa_nil)))) (show ∀ x ∈ ([] : List Str), x ∉ (["script", "row", "asks", "question", "found", "keeper", "right", "told", "number", "world", "bad", "fine"] : List Str) from by decide +kernel) (by decide) (by decide) (fun _ _ _ _ _ us hl => match us, hl with | [], _ => rfl)) (aa_cons (ae_lamD (kl := 14) G_law_error hr (takes_of rfl rfl rfl rfl) LI (lamP_by (sc := defScope s_law) (by decide +kernel)) (fun A outer s s' H E f c' hr2 => (ae_callX G_question_of (hr2.mono (by first | decide | omega)) (takes_of rfl rfl rfl rfl) (aa_cons ae_int (aa_cons (ae_v 10) aa_nil)))) (show ∀ x ∈ (["a"] : List Str), x ∉ (["script", "row", "asks", "question", "found", "keeper", "right", "told", "number", "world", "bad", "fine"] : List Str) from by decide +kernel) (by decide) (by decide) (fun _ _ _ _ _ _ _ _ => ⟨_, rfl, rfl⟩)) aa_nil)))))
    (ass_gk 4 (as_set 4 sc_law.nd (ae_op op_addA (ae_v 4) (ae_lst (aa_cons (ae_lamD (kl := 14) G_law_error hr (takes_of rfl rfl rfl rfl) LI (lamP_by (sc := defScope s_law) (by decide +kernel)) (fun A outer s s' H E f c' hr2 => (ae_callX G_write_ask (hr2.mono (by first | decide | omega)) (takes_of rfl rfl rfl rfl) (aa_cons ae_int (aa_cons (ae_v 10) aa_nil)))) (show ∀ x ∈ (["b"] : List Str), x ∉ (["script", "row", "asks", "question", "found", "keeper", "right", "told", "number", "world", "bad", "fine"] : List Str) from by decide +kernel) (by decide) (by decide) (fun _ _ _ _ _ _ _ _ => ⟨_, rfl, rfl⟩)) aa_nil))))
    (ass_gk 4 (as_set 4 sc_law.nd (ae_op op_addA (ae_v 4) (ae_lst (aa_cons (ae_lam (ps := []) (kl := 3) G_law_error hr (takes_of rfl rfl rfl rfl) rfl (lamP_by (sc := defScope s_law) (by decide +kernel)) (alm_nil LI (lamP_by (sc := defScope s_law) (ps := []) (by decide +kernel))) (fun A outer s s' H E f c' hr2 => (ae_callX G_read_ask (hr2.mono (by first | decide | omega)) (takes_of rfl rfl rfl rfl) (aa_cons (ae_v 8) (aa_cons ae_non aa_nil)))) (show ∀ x ∈ ([] : List Str), x ∉ (["script", "row", "asks", "question", "found", "keeper", "right", "told", "number", "world", "bad", "fine"] : List Str) from by decide +kernel) (by decide) (by decide) (fun _ _ _ _ _ us hl => match us, hl with | [], _ => rfl)) (aa_cons (ae_lamD (kl := 3) G_law_error hr (takes_of rfl rfl rfl rfl) LI (lamP_by (sc := defScope s_law) (by decide +kernel)) (fun A outer s s' H E f c' hr2 => (ae_callX G_read_ask (hr2.mono (by first | decide | omega)) (takes_of rfl rfl rfl rfl) (aa_cons ae_int (aa_cons ae_non aa_nil)))) (show ∀ x ∈ (["a"] : List Str), x ∉ (["script", "row", "asks", "question", "found", "keeper", "right", "told", "number", "world", "bad", "fine"] : List Str) from by decide +kernel) (by decide) (by decide) (fun _ _ _ _ _ _ _ _ => ⟨_, rfl, rfl⟩)) aa_nil)))))
    (ass_gk 4 (as_set 4 sc_law.nd (ae_op op_addA (ae_v 4) (ae_lst (aa_cons (ae_lamD (kl := 14) G_law_error hr (takes_of rfl rfl rfl rfl) LI (lamP_by (sc := defScope s_law) (by decide +kernel)) (fun A outer s s' H E f c' hr2 => (ae_callX G_question_of (hr2.mono (by first | decide | omega)) (takes_of rfl rfl rfl rfl) (aa_cons ae_int (aa_cons (ae_callX G_law_deep (hr2.mono (by first | decide | omega)) (takes_of rfl rfl rfl rfl) (aa_cons ae_int aa_nil)) aa_nil)))) (show ∀ x ∈ (["b"] : List Str), x ∉ (["script", "row", "asks", "question", "found", "keeper", "right", "told", "number", "world", "bad", "fine"] : List Str) from by decide +kernel) (by decide) (by decide) (fun _ _ _ _ _ _ _ _ => ⟨_, rfl, rfl⟩)) aa_nil))))
    (ass_gk 4 (as_set 4 sc_law.nd (ae_op op_addA (ae_v 4) (ae_lst (aa_cons (ae_lam (ps := []) (kl := 14) G_law_error hr (takes_of rfl rfl rfl rfl) rfl (lamP_by (sc := defScope s_law) (by decide +kernel)) (alm_nil LI (lamP_by (sc := defScope s_law) (ps := []) (by decide +kernel))) (fun A outer s s' H E f c' hr2 => (ae_callX G_question_of (hr2.mono (by first | decide | omega)) (takes_of rfl rfl rfl rfl) (aa_cons ae_int (aa_cons (ae_callX G_law_wide (hr2.mono (by first | decide | omega)) (takes_of rfl rfl rfl rfl) (aa_cons ae_int aa_nil)) aa_nil)))) (show ∀ x ∈ ([] : List Str), x ∉ (["script", "row", "asks", "question", "found", "keeper", "right", "told", "number", "world", "bad", "fine"] : List Str) from by decide +kernel) (by decide) (by decide) (fun _ _ _ _ _ us hl => match us, hl with | [], _ => rfl)) aa_nil))))
    (ass_gt (as_if (at_cmp (op_neA (hu64 hr)) (ae_v 4) (ae_lst (aa_cons ae_int (aa_cons ae_int (aa_cons ae_int (aa_cons ae_int (aa_cons ae_int (aa_cons ae_int (aa_cons ae_int (aa_cons ae_int (aa_cons ae_non (aa_cons ae_non aa_nil)))))))))))) (ass_cons (as_ret ae_bl)
    ass_nil) ass_nil)
    (ass_gk 4 (as_set 4 sc_law.nd (ae_lst (aa_cons (ae_lam (ps := []) (kl := 4) G_law_error hr (takes_of rfl rfl rfl rfl) rfl (lamP_by (sc := defScope s_law) (by decide +kernel)) (alm_nil LI (lamP_by (sc := defScope s_law) (ps := []) (by decide +kernel))) (fun A outer s s' H E f c' hr2 => (ae_callX G_further_text (hr2.mono (by first | decide | omega)) (takes_of rfl rfl rfl rfl) (aa_cons (ae_v 9) (aa_cons (ae_v 8) (aa_cons ae_non aa_nil))))) (show ∀ x ∈ ([] : List Str), x ∉ (["script", "row", "asks", "question", "found", "keeper", "right", "told", "number", "world", "bad", "fine"] : List Str) from by decide +kernel) (by decide) (by decide) (fun _ _ _ _ _ us hl => match us, hl with | [], _ => rfl)) aa_nil)))
    (ass_gk 4 (as_set 4 sc_law.nd (ae_op op_addA (ae_v 4) (ae_lst (aa_cons (ae_lamD (kl := 5) G_law_error hr (takes_of rfl rfl rfl rfl) LI (lamP_by (sc := defScope s_law) (by decide +kernel)) (fun A outer s s' H E f c' hr2 => (ae_callX G_further_told (hr2.mono (by first | decide | omega)) (takes_of rfl rfl rfl rfl) (aa_cons ae_str (aa_cons (ae_v 8) (aa_cons ae_non aa_nil))))) (show ∀ x ∈ (["a"] : List Str), x ∉ (["script", "row", "asks", "question", "found", "keeper", "right", "told", "number", "world", "bad", "fine"] : List Str) from by decide +kernel) (by decide) (by decide) (fun _ _ _ _ _ _ _ _ => ⟨_, rfl, rfl⟩)) aa_nil))))
    (ass_gk 4 (as_set 4 sc_law.nd (ae_op op_addA (ae_v 4) (ae_lst (aa_cons (ae_lamD (kl := 4) G_law_error hr (takes_of rfl rfl rfl rfl) LI (lamP_by (sc := defScope s_law) (by decide +kernel)) (fun A outer s s' H E f c' hr2 => (ae_callX G_further_text (hr2.mono (by first | decide | omega)) (takes_of rfl rfl rfl rfl) (aa_cons ae_str (aa_cons ae_int (aa_cons ae_non aa_nil))))) (show ∀ x ∈ (["b"] : List Str), x ∉ (["script", "row", "asks", "question", "found", "keeper", "right", "told", "number", "world", "bad", "fine"] : List Str) from by decide +kernel) (by decide) (by decide) (fun _ _ _ _ _ _ _ _ => ⟨_, rfl, rfl⟩)) aa_nil))))
    (ass_gk 4 (as_set 4 sc_law.nd (ae_op op_addA (ae_v 4) (ae_lst (aa_cons (ae_lam (ps := []) (kl := 3) G_law_error hr (takes_of rfl rfl rfl rfl) rfl (lamP_by (sc := defScope s_law) (by decide +kernel)) (alm_nil LI (lamP_by (sc := defScope s_law) (ps := []) (by decide +kernel))) (fun A outer s s' H E f c' hr2 => (ae_callX G_further_messages (hr2.mono (by first | decide | omega)) (takes_of rfl rfl rfl rfl) (aa_cons (ae_v 9) (aa_cons (ae_v 8) aa_nil)))) (show ∀ x ∈ ([] : List Str), x ∉ (["script", "row", "asks", "question", "found", "keeper", "right", "told", "number", "world", "bad", "fine"] : List Str) from by decide +kernel) (by decide) (by decide) (fun _ _ _ _ _ us hl => match us, hl with | [], _ => rfl)) aa_nil))))
    (ass_gk 4 (as_set 4 sc_law.nd (ae_op op_addA (ae_v 4) (ae_lst (aa_cons (ae_lamD (kl := 3) G_law_error hr (takes_of rfl rfl rfl rfl) LI (lamP_by (sc := defScope s_law) (by decide +kernel)) (fun A outer s s' H E f c' hr2 => (ae_callX G_further_messages (hr2.mono (by first | decide | omega)) (takes_of rfl rfl rfl rfl) (aa_cons ae_str (aa_cons (ae_v 8) aa_nil)))) (show ∀ x ∈ (["a"] : List Str), x ∉ (["script", "row", "asks", "question", "found", "keeper", "right", "told", "number", "world", "bad", "fine"] : List Str) from by decide +kernel) (by decide) (by decide) (fun _ _ _ _ _ _ _ _ => ⟨_, rfl, rfl⟩)) aa_nil))))
    (ass_gk 4 (as_set 4 sc_law.nd (ae_op op_addA (ae_v 4) (ae_lst (aa_cons (ae_lamD (kl := 5) G_law_error hr (takes_of rfl rfl rfl rfl) LI (lamP_by (sc := defScope s_law) (by decide +kernel)) (fun A outer s s' H E f c' hr2 => (ae_callX G_can_keep_further (hr2.mono (by first | decide | omega)) (takes_of rfl rfl rfl rfl) (aa_cons (ae_v 9) (aa_cons (ae_v 3) aa_nil)))) (show ∀ x ∈ (["b"] : List Str), x ∉ (["script", "row", "asks", "question", "found", "keeper", "right", "told", "number", "world", "bad", "fine"] : List Str) from by decide +kernel) (by decide) (by decide) (fun _ _ _ _ _ _ _ _ => ⟨_, rfl, rfl⟩)) aa_nil))))
    (ass_gk 4 (as_set 4 sc_law.nd (ae_op op_addA (ae_v 4) (ae_lst (aa_cons (ae_lam (ps := []) (kl := 5) G_law_error hr (takes_of rfl rfl rfl rfl) rfl (lamP_by (sc := defScope s_law) (by decide +kernel)) (alm_nil LI (lamP_by (sc := defScope s_law) (ps := []) (by decide +kernel))) (fun A outer s s' H E f c' hr2 => (ae_callX G_can_keep_further (hr2.mono (by first | decide | omega)) (takes_of rfl rfl rfl rfl) (aa_cons ae_str (aa_cons (ae_v 3) aa_nil)))) (show ∀ x ∈ ([] : List Str), x ∉ (["script", "row", "asks", "question", "found", "keeper", "right", "told", "number", "world", "bad", "fine"] : List Str) from by decide +kernel) (by decide) (by decide) (fun _ _ _ _ _ us hl => match us, hl with | [], _ => rfl)) aa_nil))))
    (ass_gk 4 (as_set 4 sc_law.nd (ae_op op_addA (ae_v 4) (ae_lst (aa_cons (ae_lamD (kl := 5) G_law_error hr (takes_of rfl rfl rfl rfl) LI (lamP_by (sc := defScope s_law) (by decide +kernel)) (fun A outer s s' H E f c' hr2 => (ae_callX G_further_keeper (hr2.mono (by first | decide | omega)) (takes_of rfl rfl rfl rfl) (aa_cons (ae_v 9) (aa_cons ae_non aa_nil)))) (show ∀ x ∈ (["a"] : List Str), x ∉ (["script", "row", "asks", "question", "found", "keeper", "right", "told", "number", "world", "bad", "fine"] : List Str) from by decide +kernel) (by decide) (by decide) (fun _ _ _ _ _ _ _ _ => ⟨_, rfl, rfl⟩)) aa_nil))))
    (ass_gk 4 (as_set 4 sc_law.nd (ae_op op_addA (ae_v 4) (ae_lst (aa_cons (ae_lamD (kl := 5) G_law_error hr (takes_of rfl rfl rfl rfl) LI (lamP_by (sc := defScope s_law) (by decide +kernel)) (fun A outer s s' H E f c' hr2 => (ae_callX G_further_keeper (hr2.mono (by first | decide | omega)) (takes_of rfl rfl rfl rfl) (aa_cons ae_str (aa_cons (ae_v 3) aa_nil)))) (show ∀ x ∈ (["b"] : List Str), x ∉ (["script", "row", "asks", "question", "found", "keeper", "right", "told", "number", "world", "bad", "fine"] : List Str) from by decide +kernel) (by decide) (by decide) (fun _ _ _ _ _ _ _ _ => ⟨_, rfl, rfl⟩)) aa_nil))))
    (ass_gt (as_if (at_cmp (op_neA (hu64 hr)) (ae_v 4) (ae_lst (aa_cons ae_int (aa_cons ae_int (aa_cons ae_int (aa_cons ae_int (aa_cons ae_int (aa_cons ae_int (aa_cons ae_int (aa_cons ae_int (aa_cons ae_int aa_nil))))))))))) (ass_cons (as_ret ae_bl)
    ass_nil) ass_nil)
    (ass_cons (as_set 5 sc_law.nd (ae_callX G_law_pick (hr.mono (by first | decide | omega)) (takes_of rfl rfl rfl rfl) (aa_cons (ae_v 1) (aa_cons (ae_lst (aa_cons ae_non (aa_cons (ae_tup (aa_cons (ae_tup aa_nil) (aa_cons (ae_tup aa_nil) aa_nil))) (aa_cons (ae_tup (aa_cons (ae_tup (aa_cons (ae_tup (aa_cons ae_int (aa_cons ae_int (aa_cons ae_int aa_nil)))) aa_nil)) (aa_cons (ae_tup (aa_cons ae_int aa_nil)) aa_nil))) (aa_cons (ae_tup (aa_cons (ae_tup (aa_cons (ae_tup (aa_cons ae_int (aa_cons ae_int aa_nil))) aa_nil)) (aa_cons (ae_tup (aa_cons ae_int aa_nil)) aa_nil))) (aa_cons (ae_tup (aa_cons (ae_tup (aa_cons (ae_tup (aa_cons ae_int (aa_cons ae_int (aa_cons ae_int aa_nil)))) aa_nil)) (aa_cons (ae_tup (aa_cons ae_int aa_nil)) aa_nil))) (aa_cons (ae_tup (aa_cons (ae_lst aa_nil) (aa_cons (ae_tup aa_nil) aa_nil))) aa_nil))))))) aa_nil))))
    (ass_cons (as_set 6 sc_law.nd (ae_tup (aa_cons (ae_tup (aa_cons (ae_tup (aa_cons ae_int (aa_cons ae_int (aa_cons ae_int aa_nil)))) aa_nil)) (aa_cons (ae_tup (aa_cons ae_int aa_nil)) aa_nil))))
    (ass_gk 4 (as_set 4 sc_law.nd (ae_lst (aa_cons (ae_lam (ps := []) (kl := 6) G_law_error hr (takes_of rfl rfl rfl rfl) rfl (lamP_by (sc := defScope s_law) (by decide +kernel)) (alm_nil LI (lamP_by (sc := defScope s_law) (ps := []) (by decide +kernel))) (fun A outer s s' H E f c' hr2 => (ae_callX G_keep_further (hr2.mono (by first | decide | omega)) (takes_of rfl rfl rfl rfl) (aa_cons (ae_v 9) (aa_cons ae_non (aa_cons ae_non (aa_cons ae_non aa_nil)))))) (show ∀ x ∈ ([] : List Str), x ∉ (["script", "row", "asks", "question", "found", "keeper", "right", "told", "number", "world", "bad", "fine"] : List Str) from by decide +kernel) (by decide) (by decide) (fun _ _ _ _ _ us hl => match us, hl with | [], _ => rfl)) aa_nil)))
    (ass_gk 4 (as_set 4 sc_law.nd (ae_op op_addA (ae_v 4) (ae_lst (aa_cons (ae_lamD (kl := 6) G_law_error hr (takes_of rfl rfl rfl rfl) LI (lamP_by (sc := defScope s_law) (by decide +kernel)) (fun A outer s s' H E f c' hr2 => (ae_callX G_keep_further (hr2.mono (by first | decide | omega)) (takes_of rfl rfl rfl rfl) (aa_cons ae_str (aa_cons (ae_v 8) (aa_cons ae_non (aa_cons ae_non aa_nil)))))) (show ∀ x ∈ (["a"] : List Str), x ∉ (["script", "row", "asks", "question", "found", "keeper", "right", "told", "number", "world", "bad", "fine"] : List Str) from by decide +kernel) (by decide) (by decide) (fun _ _ _ _ _ _ _ _ => ⟨_, rfl, rfl⟩)) aa_nil))))
    (ass_gk 4 (as_set 4 sc_law.nd (ae_op op_addA (ae_v 4) (ae_lst (aa_cons (ae_lamD (kl := 6) G_law_error hr (takes_of rfl rfl rfl rfl) LI (lamP_by (sc := defScope s_law) (by decide +kernel)) (fun A outer s s' H E f c' hr2 => (ae_callX G_keep_further (hr2.mono (by first | decide | omega)) (takes_of rfl rfl rfl rfl) (aa_cons ae_str (aa_cons ae_int (aa_cons (ae_v 5) (aa_cons ae_non aa_nil)))))) (show ∀ x ∈ (["b"] : List Str), x ∉ (["script", "row", "asks", "question", "found", "keeper", "right", "told", "number", "world", "bad", "fine"] : List Str) from by decide +kernel) (by decide) (by decide) (fun _ _ _ _ _ _ _ _ => ⟨_, rfl, rfl⟩)) aa_nil))))
    (ass_cons (as_set 7 sc_law.nd (ae_callX G_law_pick (hr.mono (by first | decide | omega)) (takes_of rfl rfl rfl rfl) (aa_cons (ae_v 1) (aa_cons (ae_lst (aa_cons ae_non (aa_cons (ae_lst aa_nil) (aa_cons (ae_tup (aa_cons (ae_tup (aa_cons ae_str (aa_cons ae_int aa_nil))) aa_nil)) (aa_cons (ae_tup (aa_cons (ae_tup (aa_cons ae_str (aa_cons ae_int aa_nil))) aa_nil)) (aa_cons (ae_tup (aa_cons (ae_tup (aa_cons ae_str (aa_cons ae_bl aa_nil))) aa_nil)) (aa_cons (ae_op op_mulT (ae_tup (aa_cons (ae_tup (aa_cons ae_str aa_nil)) aa_nil)) ae_int) aa_nil))))))) aa_nil))))
    (ass_gk 4 (as_set 4 sc_law.nd (ae_op op_addA (ae_v 4) (ae_lst (aa_cons (ae_lam (ps := []) (kl := 6) G_law_error hr (takes_of rfl rfl rfl rfl) rfl (lamP_by (sc := defScope s_law) (by decide +kernel)) (alm_nil LI (lamP_by (sc := defScope s_law) (ps := []) (by decide +kernel))) (fun A outer s s' H E f c' hr2 => (ae_callX G_keep_further (hr2.mono (by first | decide | omega)) (takes_of rfl rfl rfl rfl) (aa_cons ae_str (aa_cons ae_int (aa_cons (ae_v 6) (aa_cons (ae_v 7) aa_nil)))))) (show ∀ x ∈ ([] : List Str), x ∉ (["script", "row", "asks", "question", "found", "keeper", "right", "told", "number", "world", "bad", "fine"] : List Str) from by decide +kernel) (by decide) (by decide) (fun _ _ _ _ _ us hl => match us, hl with | [], _ => rfl)) aa_nil))))
    (ass_gk 4 (as_set 4 sc_law.nd (ae_op op_addA (ae_v 4) (ae_lst (aa_cons (ae_lam (ps := []) (kl := 6) G_law_error hr (takes_of rfl rfl rfl rfl) rfl (lamP_by (sc := defScope s_law) (by decide +kernel)) (alm_nil LI (lamP_by (sc := defScope s_law) (ps := []) (by decide +kernel))) (fun A outer s s' H E f c' hr2 => (ae_callX G_mislead (hr2.mono (by first | decide | omega)) (takes_of rfl rfl rfl rfl) (aa_cons ae_str (aa_cons (ae_v 3) (aa_cons (ae_v 5) aa_nil))))) (show ∀ x ∈ ([] : List Str), x ∉ (["script", "row", "asks", "question", "found", "keeper", "right", "told", "number", "world", "bad", "fine"] : List Str) from by decide +kernel) (by decide) (by decide) (fun _ _ _ _ _ us hl => match us, hl with | [], _ => rfl)) aa_nil))))
    (ass_gk 4 (as_set 4 sc_law.nd (ae_op op_addA (ae_v 4) (ae_lst (aa_cons (ae_lamD (kl := 6) G_law_error hr (takes_of rfl rfl rfl rfl) LI (lamP_by (sc := defScope s_law) (by decide +kernel)) (fun A outer s s' H E f c' hr2 => (ae_callX G_mislead (hr2.mono (by first | decide | omega)) (takes_of rfl rfl rfl rfl) (aa_cons ae_str (aa_cons (ae_v 11) (aa_cons (ae_v 5) aa_nil))))) (show ∀ x ∈ (["a"] : List Str), x ∉ (["script", "row", "asks", "question", "found", "keeper", "right", "told", "number", "world", "bad", "fine"] : List Str) from by decide +kernel) (by decide) (by decide) (fun _ _ _ _ _ _ _ _ => ⟨_, rfl, rfl⟩)) aa_nil))))
    (ass_gk 4 (as_set 4 sc_law.nd (ae_op op_addA (ae_v 4) (ae_lst (aa_cons (ae_lamD (kl := 6) G_law_error hr (takes_of rfl rfl rfl rfl) LI (lamP_by (sc := defScope s_law) (by decide +kernel)) (fun A outer s s' H E f c' hr2 => (ae_callX G_mislead (hr2.mono (by first | decide | omega)) (takes_of rfl rfl rfl rfl) (aa_cons ae_str (aa_cons (ae_v 11) (aa_cons (ae_v 6) aa_nil))))) (show ∀ x ∈ (["b"] : List Str), x ∉ (["script", "row", "asks", "question", "found", "keeper", "right", "told", "number", "world", "bad", "fine"] : List Str) from by decide +kernel) (by decide) (by decide) (fun _ _ _ _ _ _ _ _ => ⟨_, rfl, rfl⟩)) aa_nil))))
    (ass_gk 4 (as_set 4 sc_law.nd (ae_op op_addA (ae_v 4) (ae_lst (aa_cons (ae_lam (ps := []) (kl := 6) G_law_error hr (takes_of rfl rfl rfl rfl) rfl (lamP_by (sc := defScope s_law) (by decide +kernel)) (alm_nil LI (lamP_by (sc := defScope s_law) (ps := []) (by decide +kernel))) (fun A outer s s' H E f c' hr2 => (ae_callX G_shows_misled (hr2.mono (by first | decide | omega)) (takes_of rfl rfl rfl rfl) (aa_cons ae_str (aa_cons (ae_v 11) (aa_cons (ae_v 6) (aa_cons ae_non aa_nil)))))) (show ∀ x ∈ ([] : List Str), x ∉ (["script", "row", "asks", "question", "found", "keeper", "right", "told", "number", "world", "bad", "fine"] : List Str) from by decide +kernel) (by decide) (by decide) (fun _ _ _ _ _ us hl => match us, hl with | [], _ => rfl)) aa_nil))))
    (ass_gk 4 (as_set 4 sc_law.nd (ae_op op_addA (ae_v 4) (ae_lst (aa_cons (ae_lamD (kl := 5) G_law_error hr (takes_of rfl rfl rfl rfl) LI (lamP_by (sc := defScope s_law) (by decide +kernel)) (fun A outer s s' H E f c' hr2 => (ae_callX G_further_reason (hr2.mono (by first | decide | omega)) (takes_of rfl rfl rfl rfl) (aa_cons (ae_v 9) (aa_cons (ae_v 3) aa_nil)))) (show ∀ x ∈ (["a"] : List Str), x ∉ (["script", "row", "asks", "question", "found", "keeper", "right", "told", "number", "world", "bad", "fine"] : List Str) from by decide +kernel) (by decide) (by decide) (fun _ _ _ _ _ _ _ _ => ⟨_, rfl, rfl⟩)) aa_nil))))
    (ass_gk 4 (as_set 4 sc_law.nd (ae_op op_addA (ae_v 4) (ae_lst (aa_cons (ae_lamD (kl := 5) G_law_error hr (takes_of rfl rfl rfl rfl) LI (lamP_by (sc := defScope s_law) (by decide +kernel)) (fun A outer s s' H E f c' hr2 => (ae_callX G_shows_further_reason (hr2.mono (by first | decide | omega)) (takes_of rfl rfl rfl rfl) (aa_cons ae_str (aa_cons (ae_v 3) (aa_cons ae_non aa_nil))))) (show ∀ x ∈ (["b"] : List Str), x ∉ (["script", "row", "asks", "question", "found", "keeper", "right", "told", "number", "world", "bad", "fine"] : List Str) from by decide +kernel) (by decide) (by decide) (fun _ _ _ _ _ _ _ _ => ⟨_, rfl, rfl⟩)) aa_nil))))
    (ass_cons (as_ret (ae_cmp (op_eqA (hu64 hr)) (ae_v 4) (ae_lst (aa_cons ae_int (aa_cons ae_int (aa_cons ae_int (aa_cons ae_int (aa_cons ae_int (aa_cons ae_int (aa_cons ae_int (aa_cons ae_int (aa_cons ae_int (aa_cons ae_int aa_nil)))))))))))))
    ass_nil))))))))))))))))))))))))))))))))))))))))
end
end P68
namespace P68
open PySem PySem.Spec PyProof.Rows L2 AB
/-! ### draws: the store of the law -/
abbrev nI (n : Nat) : A := .int n
def St (ns : List Int) (a b c : Int) (rest : Store) : Store := .frz (ns.map .int) :: .lst [.lst 0, .int a, .int b, .int c] :: rest
def Row (rest : Store) (ns : List Int) (a b c : Int) (M : Store) : Prop := M[0]? = some (.frz (ns.map .int)) ∧ M[1]? = some (.lst [.lst 0, .int a, .int b, .int c]) ∧ M.drop 2 = rest
def RowOk (rest : Store) (ns : List Int) (M : Store) : Prop := ∃ a b c, Row rest ns a b c M ∧ 0 ≤ a ∧ 0 ≤ b ∧ b < 2147483647
theorem drop_set2 (M : Store) (c : Cell) : (M.set 1 c).drop 2 = M.drop 2 := by
  match M with
  | [] => rfl
  | [_] => rfl
  | _ :: _ :: _ => rfl
theorem Row.st {rest : Store} {ns : List Int} {a b c : Int} {M : Store} (r : Row rest ns a b c M) : M = St ns a b c rest := by
  obtain ⟨h0, h1, h2⟩ := r
  match M with
  | [] => cases h0
  | [_] => cases h1
  | x :: y :: z =>
    cases h0
    cases h1
    cases h2
    rfl
theorem setL_ok {M : Store} {l i : Nat} {xs : List A} {v : A} (h : M[l]? = some (.lst xs)) (hi : i < xs.length) : oSetL M (.lst l) (nI i) v = some (M.set l (.lst (xs.set i v))) := by
  unfold oSetL
  dsimp only
  rw [h]
  dsimp only
  unfold ixN
  rw [if_pos (by omega), if_pos (by omega)]
  simp
theorem mod_nat (x : Int) {n : Nat} (h : 1 ≤ n) : ∃ k : Nat, k < n ∧ x % (n : Int) = (k : Int) := by
  have h1 := Int.emod_nonneg x (show (n : Int) ≠ 0 by omega)
  have h2 := Int.emod_lt_of_pos x (show (0 : Int) < n by omega)
  exact ⟨(x % (n : Int)).toNat, by omega, by omega⟩
theorem mod_ok {M : Store} {x : Int} {n : Nat} (h : 1 ≤ n) : oMod (.int x) (nI n) M = some (.int (x % n), M) := by
  show (if 0 < (n : Int) then some (A.int (x % n), M) else none) = _
  rw [if_pos (by omega)]
theorem fdiv_ok {M : Store} {x : Int} {n : Nat} (h : 1 ≤ n) (h2 : n ≤ 1000) : oFdiv (.int x) (nI n) M = some (.int (x / n), M) := by
  show (if 0 < (n : Int) ∧ (n : Int) < 1073741824 then some (A.int (x / n), M) else none) = _
  rw [if_pos (by omega)]
theorem mul_ok {M : Store} {x : Int} : oMul (.int x) (.int 48271) M = some (.int (x * 48271), M) := by
  show (if (-(2 ^ 64) < x ∧ x < 2 ^ 64) ∨ (-(2 ^ 64) < (48271 : Int) ∧ (48271 : Int) < 2 ^ 64) then some (A.int (x * 48271), M) else none) = _
  rw [if_pos (by omega)]
theorem pow_ok {M : Store} : oPow (.int 10) (.int 18) M = some (.int (10 ^ 18), M) := by
  unfold oPow
  simp
theorem rowIx {rest : Store} {ns : List Int} {a b c : Int} {M : Store} (r : Row rest ns a b c M) {i : Nat} {x : A} (h : [A.lst 0, .int a, .int b, .int c][i]? = some x) : oIx (.lst 1) (nI i) M = some (x, M) := ix_lst (listAt_of r.2.1) h
theorem Row.set {rest : Store} {ns : List Int} {a b c : Int} {M : Store} (r : Row rest ns a b c M) {a' b' c' : Int} : Row rest ns a' b' c' (M.set 1 (.lst [.lst 0, .int a', .int b', .int c'])) := ⟨at_ne (by omega) r.1, at_set r.2.1, (drop_set2 M _).trans r.2.2⟩
def Drawn (rest : Store) (ns : List Int) (n : Nat) (M : Store) (a : A) (M' : Store) : Prop := ∃ k : Nat, k < n ∧ a = nI k ∧ Fr (some 1) M M' ∧ RowOk rest ns M'
theorem taken_ok {rest : Store} {ns : List Int} {M : Store} {n : Nat} (h : RowOk rest ns M) (h1 : 1 ≤ n) (h2 : n ≤ 1000) : (F_law_taken [.lst 1, nI n] M).W (Drawn rest ns n M) := by
  obtain ⟨a, b, c, r, ha, hb, hb2⟩ := h
  refine w_def ?_
  unfold S_law_taken
  repeat walk_at "ws"
  refine w_toE (rowIx (i := 3) r rfl) ?_
  repeat walk_at "ws"
  refine w_toE rfl ⟨_, rfl, ?_⟩
  split
  · repeat walk_at "ws"
    refine w_toE (rowIx (i := 3) r rfl) ?_
    repeat walk_at "ws"
    refine w_toE rfl ?_
    repeat walk_at "ws"
    refine w_toE (mod_ok h1) ?_
    repeat walk_at "ws"
    refine w_toE (rowIx (i := 3) r rfl) ?_
    repeat walk_at "ws"
    refine w_toE (fdiv_ok h1 h2) ?_
    repeat walk_at "ws"
    refine ⟨_, setL_ok (i := 3) r.2.1 (by simp), ?_⟩
    repeat walk_at "ws"
    obtain ⟨k, hk, e⟩ := mod_nat c h1
    exact ⟨k, hk, by rw [e], Fr.refl.setr, a, b, _, r.set, ha, hb, hb2⟩
  · repeat walk_at "ws"
    refine w_toE (rowIx (i := 1) r rfl) ?_
    repeat walk_at "ws"
    refine w_toE rfl ?_
    repeat walk_at "ws"
    refine ⟨_, setL_ok (i := 1) r.2.1 (by simp), ?_⟩
    have r1 : Row rest ns (a + 1) b c (M.set 1 (.lst [.lst 0, .int (a + 1), .int b, .int c])) := r.set
    have f1 : Fr (some 1) M (M.set 1 (.lst [.lst 0, .int (a + 1), .int b, .int c])) := Fr.refl.setr
    show ((sSeq _ _ : SF) _ (M.set 1 (.lst [.lst 0, .int (a + 1), .int b, .int c]))).W _ _
    revert r1 f1
    generalize M.set 1 (.lst [.lst 0, .int (a + 1), .int b, .int c]) = M1
    intro r1 f1
    repeat walk_at "ws"
    refine w_toE (rowIx (i := 1) r1 rfl) ?_
    repeat walk_at "ws"
    refine w_toE (rowIx (i := 0) r1 rfl) ?_
    repeat walk_at "ws"
    refine w_toE (len_lst (listAt_frz r1.1)) ?_
    refine w_toE rfl ⟨_, rfl, ?_⟩
    split
    · repeat walk_at "ws"
      refine w_toE (rowIx (i := 2) r1 rfl) ?_
      repeat walk_at "ws"
      refine w_toE mul_ok ?_
      repeat walk_at "ws"
      refine w_toE rfl ?_
      repeat walk_at "ws"
      refine w_toE rfl ?_
      repeat walk_at "ws"
      refine w_toE (mod_ok (n := 2147483647) (by omega)) ?_
      repeat walk_at "ws"
      refine ⟨_, setL_ok (i := 2) r1.2.1 (by simp), ?_⟩
      obtain ⟨k2, hk2, e2⟩ := mod_nat (b * 48271 + 11) (n := 2147483647) (by omega)
      have r2 : Row rest ns (a + 1) ((b * 48271 + 11) % ((2147483647 : Nat) : Int)) c (M1.set 1 (.lst [.lst 0, .int (a + 1), .int ((b * 48271 + 11) % ((2147483647 : Nat) : Int)), .int c])) := r1.set
      have f2 : Fr (some 1) M (M1.set 1 (.lst [.lst 0, .int (a + 1), .int ((b * 48271 + 11) % ((2147483647 : Nat) : Int)), .int c])) := f1.setr
      show ((sSeq _ _ : SF) _ (M1.set 1 (.lst [.lst 0, .int (a + 1), .int ((b * 48271 + 11) % ((2147483647 : Nat) : Int)), .int c]))).W _ _
      revert r2 f2
      generalize M1.set 1 (.lst [.lst 0, .int (a + 1), .int ((b * 48271 + 11) % ((2147483647 : Nat) : Int)), .int c]) = M2
      intro r2 f2
      repeat walk_at "ws"
      refine w_toE (rowIx (i := 2) r2 rfl) ?_
      repeat walk_at "ws"
      refine w_toE (fdiv_ok (n := 7) (by omega) (by omega)) ?_
      repeat walk_at "ws"
      refine w_toE rfl ?_
      repeat walk_at "ws"
      refine w_toE (mod_ok h1) ?_
      obtain ⟨k, hk, e⟩ := mod_nat ((b * 48271 + 11) % ((2147483647 : Nat) : Int) / ((7 : Nat) : Int)) h1
      exact ⟨k, hk, by rw [e], f2, _, _, c, r2, by omega, by omega, by omega⟩
    · rename_i hlen
      have hlen : a < ns.length := by
        simp at hlen
        omega
      repeat walk_at "ws"
      refine w_toE (rowIx (i := 0) r1 rfl) ?_
      repeat walk_at "ws"
      refine w_toE (rowIx (i := 1) r1 rfl) ?_
      repeat walk_at "ws"
      refine w_toE rfl ?_
      obtain ⟨j, rfl⟩ := Int.eq_ofNat_of_zero_le ha
      have hj : j < ns.length := by omega
      have ej : ((j : Int) + 1 - 1) = ((j : Nat) : Int) := by omega
      rw [ej]
      refine w_toE (ix_lst (i := j) (x := .int ns[j]) (listAt_frz r1.1) (by rw [List.getElem?_map, List.getElem?_eq_getElem hj]; rfl)) ?_
      repeat walk_at "ws"
      refine w_toE (rowIx (i := 2) r1 rfl) ?_
      repeat walk_at "ws"
      refine w_toE mul_ok ?_
      repeat walk_at "ws"
      refine w_toE rfl ?_
      repeat walk_at "ws"
      refine w_toE rfl ?_
      repeat walk_at "ws"
      refine w_toE rfl ?_
      repeat walk_at "ws"
      refine w_toE (mod_ok (n := 2147483647) (by omega)) ?_
      repeat walk_at "ws"
      refine ⟨_, setL_ok (i := 2) r1.2.1 (by simp), ?_⟩
      obtain ⟨k2, hk2, e2⟩ := mod_nat (b * 48271 + ns[j] + 11) (n := 2147483647) (by omega)
      have r2 : Row rest ns (j + 1) ((b * 48271 + ns[j] + 11) % ((2147483647 : Nat) : Int)) c (M1.set 1 (.lst [.lst 0, .int (j + 1), .int ((b * 48271 + ns[j] + 11) % ((2147483647 : Nat) : Int)), .int c])) := r1.set
      have f2 : Fr (some 1) M (M1.set 1 (.lst [.lst 0, .int (j + 1), .int ((b * 48271 + ns[j] + 11) % ((2147483647 : Nat) : Int)), .int c])) := f1.setr
      show ((sSeq _ _ : SF) _ (M1.set 1 (.lst [.lst 0, .int (j + 1), .int ((b * 48271 + ns[j] + 11) % ((2147483647 : Nat) : Int)), .int c]))).W _ _
      revert r2 f2
      generalize M1.set 1 (.lst [.lst 0, .int (j + 1), .int ((b * 48271 + ns[j] + 11) % ((2147483647 : Nat) : Int)), .int c]) = M2
      intro r2 f2
      obtain ⟨k, hk, e⟩ := mod_nat ns[j] h1
      repeat walk_at "ws"
      refine w_toE pow_ok ?_
      refine w_toE rfl ⟨_, rfl, ?_⟩
      split
      · repeat walk_at "ws"
        refine w_toE (fdiv_ok h1 h2) ?_
        repeat walk_at "ws"
        refine ⟨_, setL_ok (i := 3) r2.2.1 (by simp), ?_⟩
        repeat walk_at "ws"
        refine w_toE rfl ?_
        repeat walk_at "ws"
        refine w_toE (mod_ok h1) ?_
        exact ⟨k, hk, by rw [e], f2.setr, _, _, _, r2.set, by omega, by omega, by omega⟩
      · repeat walk_at "ws"
        refine w_toE rfl ?_
        repeat walk_at "ws"
        refine w_toE (mod_ok h1) ?_
        exact ⟨k, hk, by rw [e], f2, _, _, _, r2, by omega, by omega, by omega⟩
theorem pick_eq {rest : Store} {ns : List Int} {a b c : Int} {l : Nat} {xs : List A} (ha : 0 ≤ a) (hb : 0 ≤ b) (hb2 : b < 2147483647) (hx : (St ns a b c rest)[l]? = some (.lst xs)) (hl : 1 < l) (h1 : 1 ≤ xs.length) (h2 : xs.length ≤ 1000) :
    ∃ v ∈ xs, ∃ a' b' c', F_law_pick [.lst 1, .lst l] (St ns a b c rest) = .ok v (St ns a' b' c' rest) ∧ 0 ≤ a' ∧ 0 ≤ b' ∧ b' < 2147483647 := by
  have r : RowOk rest ns (St ns a b c rest) := ⟨a, b, c, ⟨rfl, rfl, rfl⟩, ha, hb, hb2⟩
  have h : (F_law_pick [.lst 1, .lst l] (St ns a b c rest)).W fun v M' => v ∈ xs ∧ RowOk rest ns M' := by
    refine w_def ?_
    unfold S_law_pick
    repeat walk_at "ws"
    refine w_toE (len_lst (listAt_of hx)) ?_
    walk_at "ws"
    refine ⟨rfl, (taken_ok r h1 h2).imp ?_⟩
    rintro _ M1 ⟨k, hk, rfl, f, r1⟩
    have e : xs[k]? = some xs[k] := List.getElem?_eq_getElem hk
    exact w_toE (ix_lst (listAt_of (f.at hx (by simp; omega))) e) ⟨List.getElem_mem hk, r1⟩
  obtain ⟨v, M', e, hv, a', b', c', r', z1, z2, z3⟩ := EO.W.out h
  exact ⟨v, hv, a', b', c', by rw [e, r'.st], z1, z2, z3⟩
end P68
namespace P68
open PySem PySem.Spec PyProof.Rows L2 AB
/-! ### the law: what each statement makes is reckoned, for each value that it looks at -/
theorem seq_k {s t : SF} {τ τ1 : Sl} {M M1 : Store} {N : Sl → Store → Prop} {R : A → Store → Prop} (h : s τ M = .nx τ1 M1) (k : (t τ1 M1).W N R) : (sSeq s t τ M).W N R := by
  unfold sSeq
  rw [h]
  exact k
def isTb : SO → Bool
  | .rt (.bl true) _ => true
  | _ => false
theorem ret_k {o : SO} {N : Sl → Store → Prop} (h : isTb o = true) : o.W N fun v _ => v = .bl true := by
  unfold isTb at h
  split at h
  · exact (show SO.W (.rt (.bl true) _) N fun v _ => v = .bl true by with_unfolding_all rfl)
  · cases h
def x1 : List A := [.non, .int 0, .int 4, .bl true, .str (Str.ofString "1")]
def x2 : List A := [.non, .str (Str.ofString ""), .str (Str.ofString "end"), .str (Str.ofString "stack"), .int 5, .tup [.str (Str.ofString "move")]]
def x6 : List A := [.non, .tup [], .tup [.str (Str.ofString "void"), .int 1], .tup [.str (Str.ofString "begins")], .tup [.str (Str.ofString "begins"), .tup []], .tup [.str (Str.ofString "begins"), .tup [.int 2]], .tup [.str (Str.ofString "ends"), .tup [.int 0, .int 0, .int 0, .int 0, .int 0, .int 0, .int 0]], .tup [.str (Str.ofString "holds"), .lst 5], .tup [.str (Str.ofString "least"), .int 0, .int 0], .tup [.str (Str.ofString "least"), .int 7, .int 0], .tup [.str (Str.ofString "least"), .int 1, .int 2], .tup [.str (Str.ofString "sum"), .tup [.int 1], .int 2, .int 0], .tup [.str (Str.ofString "sum"), .tup [.int 1, .int 2], .int 2, .int 0], .tup [.str (Str.ofString "sum"), .tup [.int 1, .int 1], .int 9, .int 0], .tup [.str (Str.ofString "sum"), .tup [.int 1, .int 1], .int 2, .int 2], .tup [.str (Str.ofString "not")], .tup [.str (Str.ofString "not"), .non], .tup [.str (Str.ofString "and"), .tup [.str (Str.ofString "void")]], .lst 10, .tup [.str (Str.ofString "xor"), .tup [.str (Str.ofString "void")], .tup [.str (Str.ofString "void")]], .tup [.str (Str.ofString "not"), .tup [.str (Str.ofString "not"), .tup [.str (Str.ofString "not"), .tup [.str (Str.ofString "not"), .tup [.str (Str.ofString "not"), .tup [.str (Str.ofString "not"), .tup [.str (Str.ofString "void")]]]]]]], .tup [.str (Str.ofString "or"), .tup [.str (Str.ofString "or"), .tup [.str (Str.ofString "or"), .tup [.str (Str.ofString "or"), .tup [.str (Str.ofString "or"), .tup [.str (Str.ofString "void")], .tup [.str (Str.ofString "void")]], .tup [.str (Str.ofString "or"), .tup [.str (Str.ofString "void")], .tup [.str (Str.ofString "void")]]], .tup [.str (Str.ofString "or"), .tup [.str (Str.ofString "or"), .tup [.str (Str.ofString "void")], .tup [.str (Str.ofString "void")]], .tup [.str (Str.ofString "or"), .tup [.str (Str.ofString "void")], .tup [.str (Str.ofString "void")]]]], .tup [.str (Str.ofString "or"), .tup [.str (Str.ofString "or"), .tup [.str (Str.ofString "or"), .tup [.str (Str.ofString "void")], .tup [.str (Str.ofString "void")]], .tup [.str (Str.ofString "or"), .tup [.str (Str.ofString "void")], .tup [.str (Str.ofString "void")]]], .tup [.str (Str.ofString "or"), .tup [.str (Str.ofString "or"), .tup [.str (Str.ofString "void")], .tup [.str (Str.ofString "void")]], .tup [.str (Str.ofString "or"), .tup [.str (Str.ofString "void")], .tup [.str (Str.ofString "void")]]]]], .tup [.str (Str.ofString "void")]]]
def x7 : List A := [.non, .tup [.int 2], .tup [.int 0, .tup [], .tup []], .tup [.int 2, .tup [.tup [.int 0]], .tup [.int 0]], .tup [.int 2, .tup [.tup [.int 0, .int 0]], .tup [.int 4]], .tup [.int 2, .tup [.tup [.int 0, .int 1]], .tup [.int 0]]]
def x26 : List A := [.non, .tup [.tup [], .tup []], .tup [.tup [.tup [.int 0, .int 0, .int 0]], .tup [.int 4]], .tup [.tup [.tup [.int 0, .int 0]], .tup [.int 0]], .tup [.tup [.tup [.int 0, .int 0, .int 1]], .tup [.int 0]], .tup [.lst 39, .tup []]]
def x31 : List A := [.non, .lst 44, .tup [.tup [.str (Str.ofString "cut"), .int 0]], .tup [.tup [.str (Str.ofString "put"), .int 2]], .tup [.tup [.str (Str.ofString "put"), .bl true]], .tup (List.replicate 101 (.tup [.str (Str.ofString "cut")]))]
def d1 : List A := [.int 2, .int 0, .int 8, .int 2, .int 0, .int 0, .int 2, .int 7, .non, .non]
def d2 : List A := [.int 1, .int 2, .int 4, .int 1, .int 2, .int 1, .int 3, .int 1, .int 3]
def d3 : List A := [.int 1, .int 2, .int 5, .int 6, .int 3, .int 5, .int 10, .int 10, .int 1, .int 3]
def fine : A := .tup [.int 2, .tup [.tup [.int 0, .int 0]], .tup [.int 0]]
def right : A := .tup [.tup [.tup [.int 0, .int 0, .int 0]], .tup [.int 0]]
def R1 : Store := [.lst x1, .lst x2]
def R5 : Store := [.lst [.non, .int 0, .int 4, .bl true, .str (Str.ofString "1")], .lst [.non, .str (Str.ofString ""), .str (Str.ofString "end"), .str (Str.ofString "stack"), .int 5, .tup [.str (Str.ofString "move")]], .lst [.non, .tup [], .tup [.str (Str.ofString "void"), .int 1], .tup [.str (Str.ofString "begins")], .tup [.str (Str.ofString "begins"), .tup []], .tup [.str (Str.ofString "begins"), .tup [.int 2]], .tup [.str (Str.ofString "ends"), .tup [.int 0, .int 0, .int 0, .int 0, .int 0, .int 0, .int 0]]], .lst [.int 0], .lst [.tup [.str (Str.ofString "holds"), .lst 5], .tup [.str (Str.ofString "least"), .int 0, .int 0], .tup [.str (Str.ofString "least"), .int 7, .int 0], .tup [.str (Str.ofString "least"), .int 1, .int 2]], .lst [.non, .tup [], .tup [.str (Str.ofString "void"), .int 1], .tup [.str (Str.ofString "begins")], .tup [.str (Str.ofString "begins"), .tup []], .tup [.str (Str.ofString "begins"), .tup [.int 2]], .tup [.str (Str.ofString "ends"), .tup [.int 0, .int 0, .int 0, .int 0, .int 0, .int 0, .int 0]], .tup [.str (Str.ofString "holds"), .lst 5], .tup [.str (Str.ofString "least"), .int 0, .int 0], .tup [.str (Str.ofString "least"), .int 7, .int 0], .tup [.str (Str.ofString "least"), .int 1, .int 2]], .lst [.tup [.str (Str.ofString "sum"), .tup [.int 1], .int 2, .int 0], .tup [.str (Str.ofString "sum"), .tup [.int 1, .int 2], .int 2, .int 0], .tup [.str (Str.ofString "sum"), .tup [.int 1, .int 1], .int 9, .int 0], .tup [.str (Str.ofString "sum"), .tup [.int 1, .int 1], .int 2, .int 2]], .lst [.non, .tup [], .tup [.str (Str.ofString "void"), .int 1], .tup [.str (Str.ofString "begins")], .tup [.str (Str.ofString "begins"), .tup []], .tup [.str (Str.ofString "begins"), .tup [.int 2]], .tup [.str (Str.ofString "ends"), .tup [.int 0, .int 0, .int 0, .int 0, .int 0, .int 0, .int 0]], .tup [.str (Str.ofString "holds"), .lst 5], .tup [.str (Str.ofString "least"), .int 0, .int 0], .tup [.str (Str.ofString "least"), .int 7, .int 0], .tup [.str (Str.ofString "least"), .int 1, .int 2], .tup [.str (Str.ofString "sum"), .tup [.int 1], .int 2, .int 0], .tup [.str (Str.ofString "sum"), .tup [.int 1, .int 2], .int 2, .int 0], .tup [.str (Str.ofString "sum"), .tup [.int 1, .int 1], .int 9, .int 0], .tup [.str (Str.ofString "sum"), .tup [.int 1, .int 1], .int 2, .int 2]], .lst [.str (Str.ofString "void")], .lst [.tup [.str (Str.ofString "not")], .tup [.str (Str.ofString "not"), .non], .tup [.str (Str.ofString "and"), .tup [.str (Str.ofString "void")]], .lst 10, .tup [.str (Str.ofString "xor"), .tup [.str (Str.ofString "void")], .tup [.str (Str.ofString "void")]]], .lst [.non, .tup [], .tup [.str (Str.ofString "void"), .int 1], .tup [.str (Str.ofString "begins")], .tup [.str (Str.ofString "begins"), .tup []], .tup [.str (Str.ofString "begins"), .tup [.int 2]], .tup [.str (Str.ofString "ends"), .tup [.int 0, .int 0, .int 0, .int 0, .int 0, .int 0, .int 0]], .tup [.str (Str.ofString "holds"), .lst 5], .tup [.str (Str.ofString "least"), .int 0, .int 0], .tup [.str (Str.ofString "least"), .int 7, .int 0], .tup [.str (Str.ofString "least"), .int 1, .int 2], .tup [.str (Str.ofString "sum"), .tup [.int 1], .int 2, .int 0], .tup [.str (Str.ofString "sum"), .tup [.int 1, .int 2], .int 2, .int 0], .tup [.str (Str.ofString "sum"), .tup [.int 1, .int 1], .int 9, .int 0], .tup [.str (Str.ofString "sum"), .tup [.int 1, .int 1], .int 2, .int 2], .tup [.str (Str.ofString "not")], .tup [.str (Str.ofString "not"), .non], .tup [.str (Str.ofString "and"), .tup [.str (Str.ofString "void")]], .lst 10, .tup [.str (Str.ofString "xor"), .tup [.str (Str.ofString "void")], .tup [.str (Str.ofString "void")]]]]
def R6 : Store := [.lst [.non, .int 0, .int 4, .bl true, .str (Str.ofString "1")], .lst [.non, .str (Str.ofString ""), .str (Str.ofString "end"), .str (Str.ofString "stack"), .int 5, .tup [.str (Str.ofString "move")]], .lst [.non, .tup [], .tup [.str (Str.ofString "void"), .int 1], .tup [.str (Str.ofString "begins")], .tup [.str (Str.ofString "begins"), .tup []], .tup [.str (Str.ofString "begins"), .tup [.int 2]], .tup [.str (Str.ofString "ends"), .tup [.int 0, .int 0, .int 0, .int 0, .int 0, .int 0, .int 0]]], .lst [.int 0], .lst [.tup [.str (Str.ofString "holds"), .lst 5], .tup [.str (Str.ofString "least"), .int 0, .int 0], .tup [.str (Str.ofString "least"), .int 7, .int 0], .tup [.str (Str.ofString "least"), .int 1, .int 2]], .lst [.non, .tup [], .tup [.str (Str.ofString "void"), .int 1], .tup [.str (Str.ofString "begins")], .tup [.str (Str.ofString "begins"), .tup []], .tup [.str (Str.ofString "begins"), .tup [.int 2]], .tup [.str (Str.ofString "ends"), .tup [.int 0, .int 0, .int 0, .int 0, .int 0, .int 0, .int 0]], .tup [.str (Str.ofString "holds"), .lst 5], .tup [.str (Str.ofString "least"), .int 0, .int 0], .tup [.str (Str.ofString "least"), .int 7, .int 0], .tup [.str (Str.ofString "least"), .int 1, .int 2]], .lst [.tup [.str (Str.ofString "sum"), .tup [.int 1], .int 2, .int 0], .tup [.str (Str.ofString "sum"), .tup [.int 1, .int 2], .int 2, .int 0], .tup [.str (Str.ofString "sum"), .tup [.int 1, .int 1], .int 9, .int 0], .tup [.str (Str.ofString "sum"), .tup [.int 1, .int 1], .int 2, .int 2]], .lst [.non, .tup [], .tup [.str (Str.ofString "void"), .int 1], .tup [.str (Str.ofString "begins")], .tup [.str (Str.ofString "begins"), .tup []], .tup [.str (Str.ofString "begins"), .tup [.int 2]], .tup [.str (Str.ofString "ends"), .tup [.int 0, .int 0, .int 0, .int 0, .int 0, .int 0, .int 0]], .tup [.str (Str.ofString "holds"), .lst 5], .tup [.str (Str.ofString "least"), .int 0, .int 0], .tup [.str (Str.ofString "least"), .int 7, .int 0], .tup [.str (Str.ofString "least"), .int 1, .int 2], .tup [.str (Str.ofString "sum"), .tup [.int 1], .int 2, .int 0], .tup [.str (Str.ofString "sum"), .tup [.int 1, .int 2], .int 2, .int 0], .tup [.str (Str.ofString "sum"), .tup [.int 1, .int 1], .int 9, .int 0], .tup [.str (Str.ofString "sum"), .tup [.int 1, .int 1], .int 2, .int 2]], .lst [.str (Str.ofString "void")], .lst [.tup [.str (Str.ofString "not")], .tup [.str (Str.ofString "not"), .non], .tup [.str (Str.ofString "and"), .tup [.str (Str.ofString "void")]], .lst 10, .tup [.str (Str.ofString "xor"), .tup [.str (Str.ofString "void")], .tup [.str (Str.ofString "void")]]], .lst [.non, .tup [], .tup [.str (Str.ofString "void"), .int 1], .tup [.str (Str.ofString "begins")], .tup [.str (Str.ofString "begins"), .tup []], .tup [.str (Str.ofString "begins"), .tup [.int 2]], .tup [.str (Str.ofString "ends"), .tup [.int 0, .int 0, .int 0, .int 0, .int 0, .int 0, .int 0]], .tup [.str (Str.ofString "holds"), .lst 5], .tup [.str (Str.ofString "least"), .int 0, .int 0], .tup [.str (Str.ofString "least"), .int 7, .int 0], .tup [.str (Str.ofString "least"), .int 1, .int 2], .tup [.str (Str.ofString "sum"), .tup [.int 1], .int 2, .int 0], .tup [.str (Str.ofString "sum"), .tup [.int 1, .int 2], .int 2, .int 0], .tup [.str (Str.ofString "sum"), .tup [.int 1, .int 1], .int 9, .int 0], .tup [.str (Str.ofString "sum"), .tup [.int 1, .int 1], .int 2, .int 2], .tup [.str (Str.ofString "not")], .tup [.str (Str.ofString "not"), .non], .tup [.str (Str.ofString "and"), .tup [.str (Str.ofString "void")]], .lst 10, .tup [.str (Str.ofString "xor"), .tup [.str (Str.ofString "void")], .tup [.str (Str.ofString "void")]]], .lst [.tup [.str (Str.ofString "void")]], .lst [.tup [.str (Str.ofString "void")], .tup [.str (Str.ofString "void")], .tup [.str (Str.ofString "void")], .tup [.str (Str.ofString "void")], .tup [.str (Str.ofString "void")], .tup [.str (Str.ofString "void")], .tup [.str (Str.ofString "void")], .tup [.str (Str.ofString "void")], .tup [.str (Str.ofString "void")], .tup [.str (Str.ofString "void")], .tup [.str (Str.ofString "void")], .tup [.str (Str.ofString "void")], .tup [.str (Str.ofString "void")], .tup [.str (Str.ofString "void")], .tup [.str (Str.ofString "void")], .tup [.str (Str.ofString "void")], .tup [.str (Str.ofString "void")]], .lst [.tup [.str (Str.ofString "or"), .tup [.str (Str.ofString "void")], .tup [.str (Str.ofString "void")]], .tup [.str (Str.ofString "or"), .tup [.str (Str.ofString "void")], .tup [.str (Str.ofString "void")]], .tup [.str (Str.ofString "or"), .tup [.str (Str.ofString "void")], .tup [.str (Str.ofString "void")]], .tup [.str (Str.ofString "or"), .tup [.str (Str.ofString "void")], .tup [.str (Str.ofString "void")]], .tup [.str (Str.ofString "or"), .tup [.str (Str.ofString "void")], .tup [.str (Str.ofString "void")]], .tup [.str (Str.ofString "or"), .tup [.str (Str.ofString "void")], .tup [.str (Str.ofString "void")]], .tup [.str (Str.ofString "or"), .tup [.str (Str.ofString "void")], .tup [.str (Str.ofString "void")]], .tup [.str (Str.ofString "or"), .tup [.str (Str.ofString "void")], .tup [.str (Str.ofString "void")]], .tup [.str (Str.ofString "void")]], .lst [.tup [.str (Str.ofString "or"), .tup [.str (Str.ofString "or"), .tup [.str (Str.ofString "void")], .tup [.str (Str.ofString "void")]], .tup [.str (Str.ofString "or"), .tup [.str (Str.ofString "void")], .tup [.str (Str.ofString "void")]]], .tup [.str (Str.ofString "or"), .tup [.str (Str.ofString "or"), .tup [.str (Str.ofString "void")], .tup [.str (Str.ofString "void")]], .tup [.str (Str.ofString "or"), .tup [.str (Str.ofString "void")], .tup [.str (Str.ofString "void")]]], .tup [.str (Str.ofString "or"), .tup [.str (Str.ofString "or"), .tup [.str (Str.ofString "void")], .tup [.str (Str.ofString "void")]], .tup [.str (Str.ofString "or"), .tup [.str (Str.ofString "void")], .tup [.str (Str.ofString "void")]]], .tup [.str (Str.ofString "or"), .tup [.str (Str.ofString "or"), .tup [.str (Str.ofString "void")], .tup [.str (Str.ofString "void")]], .tup [.str (Str.ofString "or"), .tup [.str (Str.ofString "void")], .tup [.str (Str.ofString "void")]]], .tup [.str (Str.ofString "void")]], .lst [.tup [.str (Str.ofString "or"), .tup [.str (Str.ofString "or"), .tup [.str (Str.ofString "or"), .tup [.str (Str.ofString "void")], .tup [.str (Str.ofString "void")]], .tup [.str (Str.ofString "or"), .tup [.str (Str.ofString "void")], .tup [.str (Str.ofString "void")]]], .tup [.str (Str.ofString "or"), .tup [.str (Str.ofString "or"), .tup [.str (Str.ofString "void")], .tup [.str (Str.ofString "void")]], .tup [.str (Str.ofString "or"), .tup [.str (Str.ofString "void")], .tup [.str (Str.ofString "void")]]]], .tup [.str (Str.ofString "or"), .tup [.str (Str.ofString "or"), .tup [.str (Str.ofString "or"), .tup [.str (Str.ofString "void")], .tup [.str (Str.ofString "void")]], .tup [.str (Str.ofString "or"), .tup [.str (Str.ofString "void")], .tup [.str (Str.ofString "void")]]], .tup [.str (Str.ofString "or"), .tup [.str (Str.ofString "or"), .tup [.str (Str.ofString "void")], .tup [.str (Str.ofString "void")]], .tup [.str (Str.ofString "or"), .tup [.str (Str.ofString "void")], .tup [.str (Str.ofString "void")]]]], .tup [.str (Str.ofString "void")]], .lst [.tup [.str (Str.ofString "or"), .tup [.str (Str.ofString "or"), .tup [.str (Str.ofString "or"), .tup [.str (Str.ofString "or"), .tup [.str (Str.ofString "void")], .tup [.str (Str.ofString "void")]], .tup [.str (Str.ofString "or"), .tup [.str (Str.ofString "void")], .tup [.str (Str.ofString "void")]]], .tup [.str (Str.ofString "or"), .tup [.str (Str.ofString "or"), .tup [.str (Str.ofString "void")], .tup [.str (Str.ofString "void")]], .tup [.str (Str.ofString "or"), .tup [.str (Str.ofString "void")], .tup [.str (Str.ofString "void")]]]], .tup [.str (Str.ofString "or"), .tup [.str (Str.ofString "or"), .tup [.str (Str.ofString "or"), .tup [.str (Str.ofString "void")], .tup [.str (Str.ofString "void")]], .tup [.str (Str.ofString "or"), .tup [.str (Str.ofString "void")], .tup [.str (Str.ofString "void")]]], .tup [.str (Str.ofString "or"), .tup [.str (Str.ofString "or"), .tup [.str (Str.ofString "void")], .tup [.str (Str.ofString "void")]], .tup [.str (Str.ofString "or"), .tup [.str (Str.ofString "void")], .tup [.str (Str.ofString "void")]]]]], .tup [.str (Str.ofString "void")]], .lst [.tup [.str (Str.ofString "or"), .tup [.str (Str.ofString "or"), .tup [.str (Str.ofString "or"), .tup [.str (Str.ofString "or"), .tup [.str (Str.ofString "or"), .tup [.str (Str.ofString "void")], .tup [.str (Str.ofString "void")]], .tup [.str (Str.ofString "or"), .tup [.str (Str.ofString "void")], .tup [.str (Str.ofString "void")]]], .tup [.str (Str.ofString "or"), .tup [.str (Str.ofString "or"), .tup [.str (Str.ofString "void")], .tup [.str (Str.ofString "void")]], .tup [.str (Str.ofString "or"), .tup [.str (Str.ofString "void")], .tup [.str (Str.ofString "void")]]]], .tup [.str (Str.ofString "or"), .tup [.str (Str.ofString "or"), .tup [.str (Str.ofString "or"), .tup [.str (Str.ofString "void")], .tup [.str (Str.ofString "void")]], .tup [.str (Str.ofString "or"), .tup [.str (Str.ofString "void")], .tup [.str (Str.ofString "void")]]], .tup [.str (Str.ofString "or"), .tup [.str (Str.ofString "or"), .tup [.str (Str.ofString "void")], .tup [.str (Str.ofString "void")]], .tup [.str (Str.ofString "or"), .tup [.str (Str.ofString "void")], .tup [.str (Str.ofString "void")]]]]], .tup [.str (Str.ofString "void")]]], .lst [.tup [.str (Str.ofString "not"), .tup [.str (Str.ofString "not"), .tup [.str (Str.ofString "not"), .tup [.str (Str.ofString "not"), .tup [.str (Str.ofString "not"), .tup [.str (Str.ofString "not"), .tup [.str (Str.ofString "void")]]]]]]], .tup [.str (Str.ofString "or"), .tup [.str (Str.ofString "or"), .tup [.str (Str.ofString "or"), .tup [.str (Str.ofString "or"), .tup [.str (Str.ofString "or"), .tup [.str (Str.ofString "void")], .tup [.str (Str.ofString "void")]], .tup [.str (Str.ofString "or"), .tup [.str (Str.ofString "void")], .tup [.str (Str.ofString "void")]]], .tup [.str (Str.ofString "or"), .tup [.str (Str.ofString "or"), .tup [.str (Str.ofString "void")], .tup [.str (Str.ofString "void")]], .tup [.str (Str.ofString "or"), .tup [.str (Str.ofString "void")], .tup [.str (Str.ofString "void")]]]], .tup [.str (Str.ofString "or"), .tup [.str (Str.ofString "or"), .tup [.str (Str.ofString "or"), .tup [.str (Str.ofString "void")], .tup [.str (Str.ofString "void")]], .tup [.str (Str.ofString "or"), .tup [.str (Str.ofString "void")], .tup [.str (Str.ofString "void")]]], .tup [.str (Str.ofString "or"), .tup [.str (Str.ofString "or"), .tup [.str (Str.ofString "void")], .tup [.str (Str.ofString "void")]], .tup [.str (Str.ofString "or"), .tup [.str (Str.ofString "void")], .tup [.str (Str.ofString "void")]]]]], .tup [.str (Str.ofString "void")]]], .lst x6]
def R7 : Store := R6 ++ [.lst x7]
def sl (q f k r t n w b fi : Option A) : Sl := [some (.lst 0), some (.lst 1), some (.lst 12), q, f, k, r, t, n, w, b, fi]
def S1 (pk1 pk2 : On') : SF := (sAsg (.tp [(.nm 8), (.nm 9)]) (eTup (eCons (eCall 2 pk1 (eCons (eVar 1) (eCons (eLst (eCons (eC .non) (eCons (eC (.int 0)) (eCons (eC (.int 4)) (eCons (eC (.bl true)) (eCons (eC (.str (Str.ofString "1"))) eNil)))))) eNil))) (eCons (eCall 2 pk2 (eCons (eVar 1) (eCons (eLst (eCons (eC .non) (eCons (eC (.str (Str.ofString ""))) (eCons (eC (.str (Str.ofString "end"))) (eCons (eC (.str (Str.ofString "stack"))) (eCons (eC (.int 5)) (eCons (eTup (eCons (eC (.str (Str.ofString "move"))) eNil)) eNil))))))) eNil))) eNil))))
theorem draw1 (ns : List Int) {a b c : Int} (ha : 0 ≤ a) (hb : 0 ≤ b) (hb2 : b < 2147483647) : ∃ n w, (n = .non ∨ n = .int 0 ∨ n = .int 4 ∨ n = .bl true ∨ n = .str (Str.ofString "1")) ∧ (w = .non ∨ w = .str (Str.ofString "") ∨ w = .str (Str.ofString "end") ∨ w = .str (Str.ofString "stack") ∨ w = .int 5 ∨ w = .tup [.str (Str.ofString "move")]) ∧ ∃ a' b' c', S1 F_law_pick F_law_pick [some (.lst 0), some (.lst 1), none, none, none, none, none, none, none, none, none, none] (St ns a b c []) = .nx [some (.lst 0), some (.lst 1), none, none, none, none, none, none, some n, some w, none, none] (St ns a' b' c' R1) ∧ 0 ≤ a' ∧ 0 ≤ b' ∧ b' < 2147483647 := by
  have e1 : ∀ pk1 pk2 : On', S1 pk1 pk2 [some (.lst 0), some (.lst 1), none, none, none, none, none, none, none, none, none, none] (St ns a b c []) = S1 (fun _ _ => pk1 [.lst 1, .lst 2] (St ns a b c [.lst x1])) pk2 [some (.lst 0), some (.lst 1), none, none, none, none, none, none, none, none, none, none] (St ns a b c []) := fun pk1 pk2 => by kernel_rfl
  obtain ⟨v, hv, a', b', c', e, z1, z2, z3⟩ := pick_eq (rest := [.lst x1]) (ns := ns) (l := 2) (xs := x1) ha hb hb2 (c := c) rfl (by decide) (by decide) (by decide)
  have e2 : ∀ pk2 : On', S1 (fun _ _ => .ok v (St ns a' b' c' [.lst x1])) pk2 [some (.lst 0), some (.lst 1), none, none, none, none, none, none, none, none, none, none] (St ns a b c []) = S1 (fun _ _ => .ok v (St ns a' b' c' [.lst x1])) (fun _ _ => pk2 [.lst 1, .lst 3] (St ns a' b' c' R1)) [some (.lst 0), some (.lst 1), none, none, none, none, none, none, none, none, none, none] (St ns a b c []) := fun pk2 => by kernel_rfl
  obtain ⟨v2, hv2, a2, b2, c2, e3, z4⟩ := pick_eq (rest := R1) (ns := ns) (l := 3) (xs := x2) z1 z2 z3 (c := c') rfl (by decide) (by decide) (by decide)
  refine ⟨v, v2, by simp only [x1, List.mem_cons, List.not_mem_nil, or_false] at hv; exact hv, by simp only [x2, List.mem_cons, List.not_mem_nil, or_false] at hv2; exact hv2, a2, b2, c2, ?_, z4⟩
  rw [e1, e, e2, e3]
  kernel_rfl
def A2 : SF := (sAsg (.nm 2) (eLst (eCons (eC .non) (eCons (eTup eNil) (eCons (eTup (eCons (eC (.str (Str.ofString "void"))) (eCons (eC (.int 1)) eNil))) (eCons (eTup (eCons (eC (.str (Str.ofString "begins"))) eNil)) (eCons (eTup (eCons (eC (.str (Str.ofString "begins"))) (eCons (eTup eNil) eNil))) (eCons (eTup (eCons (eC (.str (Str.ofString "begins"))) (eCons (eTup (eCons (eC (.int 2)) eNil)) eNil))) (eCons (eTup (eCons (eC (.str (Str.ofString "ends"))) (eCons (eOp oMulT (eTup (eCons (eC (.int 0)) eNil)) (eC (.int 7))) eNil))) eNil)))))))))
def A3 : SF := (sAsg (.nm 2) (eOp oAdd (eVar 2) (eLst (eCons (eTup (eCons (eC (.str (Str.ofString "holds"))) (eCons (eLst (eCons (eC (.int 0)) eNil)) eNil))) (eCons (eTup (eCons (eC (.str (Str.ofString "least"))) (eCons (eC (.int 0)) (eCons (eC (.int 0)) eNil)))) (eCons (eTup (eCons (eC (.str (Str.ofString "least"))) (eCons (eC (.int 7)) (eCons (eC (.int 0)) eNil)))) (eCons (eTup (eCons (eC (.str (Str.ofString "least"))) (eCons (eC (.int 1)) (eCons (eC (.int 2)) eNil)))) eNil)))))))
def A4 : SF := (sAsg (.nm 2) (eOp oAdd (eVar 2) (eLst (eCons (eTup (eCons (eC (.str (Str.ofString "sum"))) (eCons (eTup (eCons (eC (.int 1)) eNil)) (eCons (eC (.int 2)) (eCons (eC (.int 0)) eNil))))) (eCons (eTup (eCons (eC (.str (Str.ofString "sum"))) (eCons (eTup (eCons (eC (.int 1)) (eCons (eC (.int 2)) eNil))) (eCons (eC (.int 2)) (eCons (eC (.int 0)) eNil))))) (eCons (eTup (eCons (eC (.str (Str.ofString "sum"))) (eCons (eTup (eCons (eC (.int 1)) (eCons (eC (.int 1)) eNil))) (eCons (eC (.int 9)) (eCons (eC (.int 0)) eNil))))) (eCons (eTup (eCons (eC (.str (Str.ofString "sum"))) (eCons (eTup (eCons (eC (.int 1)) (eCons (eC (.int 1)) eNil))) (eCons (eC (.int 2)) (eCons (eC (.int 2)) eNil))))) eNil)))))))
def A5 : SF := (sAsg (.nm 2) (eOp oAdd (eVar 2) (eLst (eCons (eTup (eCons (eC (.str (Str.ofString "not"))) eNil)) (eCons (eTup (eCons (eC (.str (Str.ofString "not"))) (eCons (eC .non) eNil))) (eCons (eTup (eCons (eC (.str (Str.ofString "and"))) (eCons (eTup (eCons (eC (.str (Str.ofString "void"))) eNil)) eNil))) (eCons (eLst (eCons (eC (.str (Str.ofString "void"))) eNil)) (eCons (eTup (eCons (eC (.str (Str.ofString "xor"))) (eCons (eTup (eCons (eC (.str (Str.ofString "void"))) eNil)) (eCons (eTup (eCons (eC (.str (Str.ofString "void"))) eNil)) eNil)))) eNil))))))))
theorem asks_ok {ns : List Int} {a b c : Int} {n w : A} : sSeq A2 (sSeq A3 (sSeq A4 A5)) [some (.lst 0), some (.lst 1), none, none, none, none, none, none, some n, some w, none, none] (St ns a b c R1) = .nx (sl none none none none none (some n) (some w) none none) (St ns a b c R5) := by kernel_rfl
def S6 (pk : On') : SF := (sAsg (.tp [(.nm 10), (.nm 11)]) (eTup (eCons (eCall 2 pk (eCons (eVar 1) (eCons (eOp oAdd (eVar 2) (eLst (eCons (eCall 1 F_law_deep (eCons (eC (.int 7)) eNil)) (eCons (eCall 1 F_law_wide (eCons (eC (.int 17)) eNil)) eNil)))) eNil))) (eCons (eTup (eCons (eC (.int 2)) (eCons (eTup (eCons (eTup (eCons (eC (.int 0)) (eCons (eC (.int 0)) eNil))) eNil)) (eCons (eTup (eCons (eC (.int 0)) eNil)) eNil)))) eNil))))
theorem draw6 (ns : List Int) {a b c : Int} (ha : 0 ≤ a) (hb : 0 ≤ b) (hb2 : b < 2147483647) {n w : A} : ∃ v, (v = .non ∨ v = .tup [] ∨ v = .tup [.str (Str.ofString "void"), .int 1] ∨ v = .tup [.str (Str.ofString "begins")] ∨ v = .tup [.str (Str.ofString "begins"), .tup []] ∨ v = .tup [.str (Str.ofString "begins"), .tup [.int 2]] ∨ v = .tup [.str (Str.ofString "ends"), .tup [.int 0, .int 0, .int 0, .int 0, .int 0, .int 0, .int 0]] ∨ v = .tup [.str (Str.ofString "holds"), .lst 5] ∨ v = .tup [.str (Str.ofString "least"), .int 0, .int 0] ∨ v = .tup [.str (Str.ofString "least"), .int 7, .int 0] ∨ v = .tup [.str (Str.ofString "least"), .int 1, .int 2] ∨ v = .tup [.str (Str.ofString "sum"), .tup [.int 1], .int 2, .int 0] ∨ v = .tup [.str (Str.ofString "sum"), .tup [.int 1, .int 2], .int 2, .int 0] ∨ v = .tup [.str (Str.ofString "sum"), .tup [.int 1, .int 1], .int 9, .int 0] ∨ v = .tup [.str (Str.ofString "sum"), .tup [.int 1, .int 1], .int 2, .int 2] ∨ v = .tup [.str (Str.ofString "not")] ∨ v = .tup [.str (Str.ofString "not"), .non] ∨ v = .tup [.str (Str.ofString "and"), .tup [.str (Str.ofString "void")]] ∨ v = .lst 10 ∨ v = .tup [.str (Str.ofString "xor"), .tup [.str (Str.ofString "void")], .tup [.str (Str.ofString "void")]] ∨ v = .tup [.str (Str.ofString "not"), .tup [.str (Str.ofString "not"), .tup [.str (Str.ofString "not"), .tup [.str (Str.ofString "not"), .tup [.str (Str.ofString "not"), .tup [.str (Str.ofString "not"), .tup [.str (Str.ofString "void")]]]]]]] ∨ v = .tup [.str (Str.ofString "or"), .tup [.str (Str.ofString "or"), .tup [.str (Str.ofString "or"), .tup [.str (Str.ofString "or"), .tup [.str (Str.ofString "or"), .tup [.str (Str.ofString "void")], .tup [.str (Str.ofString "void")]], .tup [.str (Str.ofString "or"), .tup [.str (Str.ofString "void")], .tup [.str (Str.ofString "void")]]], .tup [.str (Str.ofString "or"), .tup [.str (Str.ofString "or"), .tup [.str (Str.ofString "void")], .tup [.str (Str.ofString "void")]], .tup [.str (Str.ofString "or"), .tup [.str (Str.ofString "void")], .tup [.str (Str.ofString "void")]]]], .tup [.str (Str.ofString "or"), .tup [.str (Str.ofString "or"), .tup [.str (Str.ofString "or"), .tup [.str (Str.ofString "void")], .tup [.str (Str.ofString "void")]], .tup [.str (Str.ofString "or"), .tup [.str (Str.ofString "void")], .tup [.str (Str.ofString "void")]]], .tup [.str (Str.ofString "or"), .tup [.str (Str.ofString "or"), .tup [.str (Str.ofString "void")], .tup [.str (Str.ofString "void")]], .tup [.str (Str.ofString "or"), .tup [.str (Str.ofString "void")], .tup [.str (Str.ofString "void")]]]]], .tup [.str (Str.ofString "void")]]) ∧ ∃ a' b' c', S6 F_law_pick (sl none none none none none (some n) (some w) none none) (St ns a b c R5) = .nx (sl none none none none none (some n) (some w) (some v) (some fine)) (St ns a' b' c' R6) ∧ 0 ≤ a' ∧ 0 ≤ b' ∧ b' < 2147483647 := by
  have e1 : ∀ pk : On', S6 pk (sl none none none none none (some n) (some w) none none) (St ns a b c R5) = S6 (fun _ _ => pk [.lst 1, .lst 21] (St ns a b c R6)) (sl none none none none none (some n) (some w) none none) (St ns a b c R5) := fun pk => by kernel_rfl
  obtain ⟨v, hv, a', b', c', e, z⟩ := pick_eq (rest := R6) (ns := ns) (l := 21) (xs := x6) ha hb hb2 (c := c) rfl (by decide) (by decide) (by decide)
  refine ⟨v, by simp only [x6, List.mem_cons, List.not_mem_nil, or_false] at hv; exact hv, a', b', c', ?_, z⟩
  refine (e1 _).trans ?_
  rw [e]
  kernel_rfl
def S7 (pk : On') : SF := (sAsg (.nm 3) (eCall 2 pk (eCons (eVar 1) (eCons (eLst (eCons (eC .non) (eCons (eTup (eCons (eC (.int 2)) eNil)) (eCons (eTup (eCons (eC (.int 0)) (eCons (eTup eNil) (eCons (eTup eNil) eNil)))) (eCons (eTup (eCons (eC (.int 2)) (eCons (eTup (eCons (eTup (eCons (eC (.int 0)) eNil)) eNil)) (eCons (eTup (eCons (eC (.int 0)) eNil)) eNil)))) (eCons (eTup (eCons (eC (.int 2)) (eCons (eTup (eCons (eTup (eCons (eC (.int 0)) (eCons (eC (.int 0)) eNil))) eNil)) (eCons (eTup (eCons (eC (.int 4)) eNil)) eNil)))) (eCons (eTup (eCons (eC (.int 2)) (eCons (eTup (eCons (eTup (eCons (eC (.int 0)) (eCons (eC (.int 1)) eNil))) eNil)) (eCons (eTup (eCons (eC (.int 0)) eNil)) eNil)))) eNil))))))) eNil))))
theorem draw7 (ns : List Int) {a b c : Int} (ha : 0 ≤ a) (hb : 0 ≤ b) (hb2 : b < 2147483647) {n w d : A} : ∃ v, (v = .non ∨ v = .tup [.int 2] ∨ v = .tup [.int 0, .tup [], .tup []] ∨ v = .tup [.int 2, .tup [.tup [.int 0]], .tup [.int 0]] ∨ v = .tup [.int 2, .tup [.tup [.int 0, .int 0]], .tup [.int 4]] ∨ v = .tup [.int 2, .tup [.tup [.int 0, .int 1]], .tup [.int 0]]) ∧ ∃ a' b' c', S7 F_law_pick (sl none none none none none (some n) (some w) (some d) (some fine)) (St ns a b c R6) = .nx (sl (some v) none none none none (some n) (some w) (some d) (some fine)) (St ns a' b' c' R7) ∧ 0 ≤ a' ∧ 0 ≤ b' ∧ b' < 2147483647 := by
  have e1 : ∀ pk : On', S7 pk (sl none none none none none (some n) (some w) (some d) (some fine)) (St ns a b c R6) = S7 (fun _ _ => pk [.lst 1, .lst 22] (St ns a b c R7)) (sl none none none none none (some n) (some w) (some d) (some fine)) (St ns a b c R6) := fun pk => by kernel_rfl
  obtain ⟨v, hv, a', b', c', e, z⟩ := pick_eq (rest := R7) (ns := ns) (l := 22) (xs := x7) ha hb hb2 (c := c) rfl (by decide) (by decide) (by decide)
  refine ⟨v, by simp only [x7, List.mem_cons, List.not_mem_nil, or_false] at hv; exact hv, a', b', c', ?_, z⟩
  refine (e1 _).trans ?_
  rw [e]
  kernel_rfl
def R8 : Store := R7 ++ [.lst (d1.take 2)]
def G8 : EF := (eCall 3 F_is_true (eCons (eVar 8) (eCons (eVar 10) (eCons (eC .non) eNil))))
def F8 (f1 : EF) : SF := (sAsg (.nm 4) (eLst (eCons (eLam 1 4 S_law_error f1 eNil) (eCons (eLamD 4 0 S_law_error (eCall 3 F_is_true (eCons (eC (.int 2)) (eCons (eVar 10) (eCons (eC .non) eNil))))) eNil))))
theorem f8 {ns : List Int} {a b c : Int} {q k0 t0 n w d : A} (hn : n = .non ∨ n = .int 0 ∨ n = .int 4 ∨ n = .bl true ∨ n = .str (Str.ofString "1")) (hd : d = .non ∨ d = .tup [] ∨ d = .tup [.str (Str.ofString "void"), .int 1] ∨ d = .tup [.str (Str.ofString "begins")] ∨ d = .tup [.str (Str.ofString "begins"), .tup []] ∨ d = .tup [.str (Str.ofString "begins"), .tup [.int 2]] ∨ d = .tup [.str (Str.ofString "ends"), .tup [.int 0, .int 0, .int 0, .int 0, .int 0, .int 0, .int 0]] ∨ d = .tup [.str (Str.ofString "holds"), .lst 5] ∨ d = .tup [.str (Str.ofString "least"), .int 0, .int 0] ∨ d = .tup [.str (Str.ofString "least"), .int 7, .int 0] ∨ d = .tup [.str (Str.ofString "least"), .int 1, .int 2] ∨ d = .tup [.str (Str.ofString "sum"), .tup [.int 1], .int 2, .int 0] ∨ d = .tup [.str (Str.ofString "sum"), .tup [.int 1, .int 2], .int 2, .int 0] ∨ d = .tup [.str (Str.ofString "sum"), .tup [.int 1, .int 1], .int 9, .int 0] ∨ d = .tup [.str (Str.ofString "sum"), .tup [.int 1, .int 1], .int 2, .int 2] ∨ d = .tup [.str (Str.ofString "not")] ∨ d = .tup [.str (Str.ofString "not"), .non] ∨ d = .tup [.str (Str.ofString "and"), .tup [.str (Str.ofString "void")]] ∨ d = .lst 10 ∨ d = .tup [.str (Str.ofString "xor"), .tup [.str (Str.ofString "void")], .tup [.str (Str.ofString "void")]] ∨ d = .tup [.str (Str.ofString "not"), .tup [.str (Str.ofString "not"), .tup [.str (Str.ofString "not"), .tup [.str (Str.ofString "not"), .tup [.str (Str.ofString "not"), .tup [.str (Str.ofString "not"), .tup [.str (Str.ofString "void")]]]]]]] ∨ d = .tup [.str (Str.ofString "or"), .tup [.str (Str.ofString "or"), .tup [.str (Str.ofString "or"), .tup [.str (Str.ofString "or"), .tup [.str (Str.ofString "or"), .tup [.str (Str.ofString "void")], .tup [.str (Str.ofString "void")]], .tup [.str (Str.ofString "or"), .tup [.str (Str.ofString "void")], .tup [.str (Str.ofString "void")]]], .tup [.str (Str.ofString "or"), .tup [.str (Str.ofString "or"), .tup [.str (Str.ofString "void")], .tup [.str (Str.ofString "void")]], .tup [.str (Str.ofString "or"), .tup [.str (Str.ofString "void")], .tup [.str (Str.ofString "void")]]]], .tup [.str (Str.ofString "or"), .tup [.str (Str.ofString "or"), .tup [.str (Str.ofString "or"), .tup [.str (Str.ofString "void")], .tup [.str (Str.ofString "void")]], .tup [.str (Str.ofString "or"), .tup [.str (Str.ofString "void")], .tup [.str (Str.ofString "void")]]], .tup [.str (Str.ofString "or"), .tup [.str (Str.ofString "or"), .tup [.str (Str.ofString "void")], .tup [.str (Str.ofString "void")]], .tup [.str (Str.ofString "or"), .tup [.str (Str.ofString "void")], .tup [.str (Str.ofString "void")]]]]], .tup [.str (Str.ofString "void")]]) : gkS 4 (F8 G8) (sl (some q) none none none none (some n) (some w) (some d) (some fine)) (St ns a b c R7) = .nx (sl (some q) (some (.lst 23)) none none none (some n) (some w) (some d) (some fine)) (St ns a b c R8) := by
  have e1 : ∀ f1 : EF, F8 f1 (sl (some q) none none none none (some n) (some w) (some d) (some fine)) (St ns a b c R7) = F8 (fun _ _ => f1 (sl (some q) none none none none (some n) (some w) (some d) (some fine)) (St ns a b c (R7 ++ [.obj]))) (sl (some q) none none none none (some n) (some w) (some d) (some fine)) (St ns a b c R7) := fun f1 => by kernel_rfl
  have e2 : G8 (sl (some q) none none none none (some n) (some w) (some d) (some fine)) (St ns a b c (R7 ++ [.obj])) = .ex ⟨"BadNumber", none⟩ (St ns a b c (R7 ++ [.obj])) := by
    rcases hn with rfl | rfl | rfl | rfl | rfl <;> kernel_rfl
  refine (gk_v (M2 := St ns a b c R7) (xs := d1.take 2) ?_ (OkC.refl _)).trans (by kernel_rfl)
  rw [e1, e2]
  rcases hd with rfl | rfl | rfl | rfl | rfl | rfl | rfl | rfl | rfl | rfl | rfl | rfl | rfl | rfl | rfl | rfl | rfl | rfl | rfl | rfl | rfl | rfl <;> kernel_rfl
def R9 : Store := R8 ++ [.lst (d1.take 3)]
def F9 : SF := (sAsg (.nm 4) (eOp oAdd (eVar 4) (eLst (eCons (eLamD 4 0 S_law_error (eCall 3 F_is_true (eCons (eC (.int 2)) (eCons (eTup (eCons (eC (.str (Str.ofString "void"))) eNil)) (eCons (eTup (eCons (eC (.int 2)) eNil)) eNil))))) eNil))))
theorem f9 {ns : List Int} {a b c : Int} {q k0 t0 n w d : A} : gkS 4 F9 (sl (some q) (some (.lst 23)) none none none (some n) (some w) (some d) (some fine)) (St ns a b c R8) = .nx (sl (some q) (some (.lst 24)) none none none (some n) (some w) (some d) (some fine)) (St ns a b c R9) := by
  refine (gk_v (M2 := St ns a b c R8) (xs := d1.take 3) ?_ (OkC.refl _)).trans (by kernel_rfl)
  kernel_rfl
def R10 : Store := R9 ++ [.lst (d1.take 5)]
def G10 : EF := (eCall 2 F_question_of (eCons (eVar 8) (eCons (eC .non) eNil)))
def F10 (f1 : EF) : SF := (sAsg (.nm 4) (eOp oAdd (eVar 4) (eLst (eCons (eLam 1 4 S_law_error f1 eNil) (eCons (eLamD 4 0 S_law_error (eCall 2 F_question_of (eCons (eC (.int 2)) (eCons (eVar 10) eNil)))) eNil)))))
theorem f10 {ns : List Int} {a b c : Int} {q k0 t0 n w d : A} (hn : n = .non ∨ n = .int 0 ∨ n = .int 4 ∨ n = .bl true ∨ n = .str (Str.ofString "1")) (hd : d = .non ∨ d = .tup [] ∨ d = .tup [.str (Str.ofString "void"), .int 1] ∨ d = .tup [.str (Str.ofString "begins")] ∨ d = .tup [.str (Str.ofString "begins"), .tup []] ∨ d = .tup [.str (Str.ofString "begins"), .tup [.int 2]] ∨ d = .tup [.str (Str.ofString "ends"), .tup [.int 0, .int 0, .int 0, .int 0, .int 0, .int 0, .int 0]] ∨ d = .tup [.str (Str.ofString "holds"), .lst 5] ∨ d = .tup [.str (Str.ofString "least"), .int 0, .int 0] ∨ d = .tup [.str (Str.ofString "least"), .int 7, .int 0] ∨ d = .tup [.str (Str.ofString "least"), .int 1, .int 2] ∨ d = .tup [.str (Str.ofString "sum"), .tup [.int 1], .int 2, .int 0] ∨ d = .tup [.str (Str.ofString "sum"), .tup [.int 1, .int 2], .int 2, .int 0] ∨ d = .tup [.str (Str.ofString "sum"), .tup [.int 1, .int 1], .int 9, .int 0] ∨ d = .tup [.str (Str.ofString "sum"), .tup [.int 1, .int 1], .int 2, .int 2] ∨ d = .tup [.str (Str.ofString "not")] ∨ d = .tup [.str (Str.ofString "not"), .non] ∨ d = .tup [.str (Str.ofString "and"), .tup [.str (Str.ofString "void")]] ∨ d = .lst 10 ∨ d = .tup [.str (Str.ofString "xor"), .tup [.str (Str.ofString "void")], .tup [.str (Str.ofString "void")]] ∨ d = .tup [.str (Str.ofString "not"), .tup [.str (Str.ofString "not"), .tup [.str (Str.ofString "not"), .tup [.str (Str.ofString "not"), .tup [.str (Str.ofString "not"), .tup [.str (Str.ofString "not"), .tup [.str (Str.ofString "void")]]]]]]] ∨ d = .tup [.str (Str.ofString "or"), .tup [.str (Str.ofString "or"), .tup [.str (Str.ofString "or"), .tup [.str (Str.ofString "or"), .tup [.str (Str.ofString "or"), .tup [.str (Str.ofString "void")], .tup [.str (Str.ofString "void")]], .tup [.str (Str.ofString "or"), .tup [.str (Str.ofString "void")], .tup [.str (Str.ofString "void")]]], .tup [.str (Str.ofString "or"), .tup [.str (Str.ofString "or"), .tup [.str (Str.ofString "void")], .tup [.str (Str.ofString "void")]], .tup [.str (Str.ofString "or"), .tup [.str (Str.ofString "void")], .tup [.str (Str.ofString "void")]]]], .tup [.str (Str.ofString "or"), .tup [.str (Str.ofString "or"), .tup [.str (Str.ofString "or"), .tup [.str (Str.ofString "void")], .tup [.str (Str.ofString "void")]], .tup [.str (Str.ofString "or"), .tup [.str (Str.ofString "void")], .tup [.str (Str.ofString "void")]]], .tup [.str (Str.ofString "or"), .tup [.str (Str.ofString "or"), .tup [.str (Str.ofString "void")], .tup [.str (Str.ofString "void")]], .tup [.str (Str.ofString "or"), .tup [.str (Str.ofString "void")], .tup [.str (Str.ofString "void")]]]]], .tup [.str (Str.ofString "void")]]) : gkS 4 (F10 G10) (sl (some q) (some (.lst 24)) none none none (some n) (some w) (some d) (some fine)) (St ns a b c R9) = .nx (sl (some q) (some (.lst 25)) none none none (some n) (some w) (some d) (some fine)) (St ns a b c R10) := by
  have e1 : ∀ f1 : EF, F10 f1 (sl (some q) (some (.lst 24)) none none none (some n) (some w) (some d) (some fine)) (St ns a b c R9) = F10 (fun _ _ => f1 (sl (some q) (some (.lst 24)) none none none (some n) (some w) (some d) (some fine)) (St ns a b c (R9 ++ [.obj]))) (sl (some q) (some (.lst 24)) none none none (some n) (some w) (some d) (some fine)) (St ns a b c R9) := fun f1 => by kernel_rfl
  have e2 : G10 (sl (some q) (some (.lst 24)) none none none (some n) (some w) (some d) (some fine)) (St ns a b c (R9 ++ [.obj])) = .ex ⟨"BadNumber", none⟩ (St ns a b c (R9 ++ [.obj])) := by
    rcases hn with rfl | rfl | rfl | rfl | rfl <;> kernel_rfl
  refine (gk_v (M2 := St ns a b c R9) (xs := d1.take 5) ?_ (OkC.refl _)).trans (by kernel_rfl)
  rw [e1, e2]
  rcases hd with rfl | rfl | rfl | rfl | rfl | rfl | rfl | rfl | rfl | rfl | rfl | rfl | rfl | rfl | rfl | rfl | rfl | rfl | rfl | rfl | rfl | rfl <;> kernel_rfl
def R11 : Store := R10 ++ [.lst (d1.take 6)]
def F11 : SF := (sAsg (.nm 4) (eOp oAdd (eVar 4) (eLst (eCons (eLamD 4 0 S_law_error (eCall 2 F_write_ask (eCons (eC (.int 2)) (eCons (eVar 10) eNil)))) eNil))))
theorem f11 {ns : List Int} {a b c : Int} {q k0 t0 n w d : A} (h : d = .non ∨ d = .tup [] ∨ d = .tup [.str (Str.ofString "void"), .int 1] ∨ d = .tup [.str (Str.ofString "begins")] ∨ d = .tup [.str (Str.ofString "begins"), .tup []] ∨ d = .tup [.str (Str.ofString "begins"), .tup [.int 2]] ∨ d = .tup [.str (Str.ofString "ends"), .tup [.int 0, .int 0, .int 0, .int 0, .int 0, .int 0, .int 0]] ∨ d = .tup [.str (Str.ofString "holds"), .lst 5] ∨ d = .tup [.str (Str.ofString "least"), .int 0, .int 0] ∨ d = .tup [.str (Str.ofString "least"), .int 7, .int 0] ∨ d = .tup [.str (Str.ofString "least"), .int 1, .int 2] ∨ d = .tup [.str (Str.ofString "sum"), .tup [.int 1], .int 2, .int 0] ∨ d = .tup [.str (Str.ofString "sum"), .tup [.int 1, .int 2], .int 2, .int 0] ∨ d = .tup [.str (Str.ofString "sum"), .tup [.int 1, .int 1], .int 9, .int 0] ∨ d = .tup [.str (Str.ofString "sum"), .tup [.int 1, .int 1], .int 2, .int 2] ∨ d = .tup [.str (Str.ofString "not")] ∨ d = .tup [.str (Str.ofString "not"), .non] ∨ d = .tup [.str (Str.ofString "and"), .tup [.str (Str.ofString "void")]] ∨ d = .lst 10 ∨ d = .tup [.str (Str.ofString "xor"), .tup [.str (Str.ofString "void")], .tup [.str (Str.ofString "void")]] ∨ d = .tup [.str (Str.ofString "not"), .tup [.str (Str.ofString "not"), .tup [.str (Str.ofString "not"), .tup [.str (Str.ofString "not"), .tup [.str (Str.ofString "not"), .tup [.str (Str.ofString "not"), .tup [.str (Str.ofString "void")]]]]]]] ∨ d = .tup [.str (Str.ofString "or"), .tup [.str (Str.ofString "or"), .tup [.str (Str.ofString "or"), .tup [.str (Str.ofString "or"), .tup [.str (Str.ofString "or"), .tup [.str (Str.ofString "void")], .tup [.str (Str.ofString "void")]], .tup [.str (Str.ofString "or"), .tup [.str (Str.ofString "void")], .tup [.str (Str.ofString "void")]]], .tup [.str (Str.ofString "or"), .tup [.str (Str.ofString "or"), .tup [.str (Str.ofString "void")], .tup [.str (Str.ofString "void")]], .tup [.str (Str.ofString "or"), .tup [.str (Str.ofString "void")], .tup [.str (Str.ofString "void")]]]], .tup [.str (Str.ofString "or"), .tup [.str (Str.ofString "or"), .tup [.str (Str.ofString "or"), .tup [.str (Str.ofString "void")], .tup [.str (Str.ofString "void")]], .tup [.str (Str.ofString "or"), .tup [.str (Str.ofString "void")], .tup [.str (Str.ofString "void")]]], .tup [.str (Str.ofString "or"), .tup [.str (Str.ofString "or"), .tup [.str (Str.ofString "void")], .tup [.str (Str.ofString "void")]], .tup [.str (Str.ofString "or"), .tup [.str (Str.ofString "void")], .tup [.str (Str.ofString "void")]]]]], .tup [.str (Str.ofString "void")]]) : gkS 4 F11 (sl (some q) (some (.lst 25)) none none none (some n) (some w) (some d) (some fine)) (St ns a b c R10) = .nx (sl (some q) (some (.lst 26)) none none none (some n) (some w) (some d) (some fine)) (St ns a b c R11) := by
  refine (gk_v (M2 := St ns a b c R10) (xs := d1.take 6) ?_ (OkC.refl _)).trans (by kernel_rfl)
  rcases h with rfl | rfl | rfl | rfl | rfl | rfl | rfl | rfl | rfl | rfl | rfl | rfl | rfl | rfl | rfl | rfl | rfl | rfl | rfl | rfl | rfl | rfl <;> kernel_rfl
def R12 : Store := R11 ++ [.lst (d1.take 8)]
def F12 : SF := (sAsg (.nm 4) (eOp oAdd (eVar 4) (eLst (eCons (eLam 1 4 S_law_error (eCall 2 F_read_ask (eCons (eVar 8) (eCons (eC .non) eNil))) eNil) (eCons (eLamD 4 0 S_law_error (eCall 2 F_read_ask (eCons (eC (.int 2)) (eCons (eC .non) eNil)))) eNil)))))
theorem f12 {ns : List Int} {a b c : Int} {q k0 t0 n w d : A} (h : n = .non ∨ n = .int 0 ∨ n = .int 4 ∨ n = .bl true ∨ n = .str (Str.ofString "1")) : gkS 4 F12 (sl (some q) (some (.lst 26)) none none none (some n) (some w) (some d) (some fine)) (St ns a b c R11) = .nx (sl (some q) (some (.lst 27)) none none none (some n) (some w) (some d) (some fine)) (St ns a b c R12) := by
  refine (gk_v (M2 := St ns a b c R11) (xs := d1.take 8) ?_ (OkC.refl _)).trans (by kernel_rfl)
  rcases h with rfl | rfl | rfl | rfl | rfl <;> kernel_rfl
def R13 : Store := R12 ++ [.lst (d1.take 9)]
def F13 : SF := (sAsg (.nm 4) (eOp oAdd (eVar 4) (eLst (eCons (eLamD 4 0 S_law_error (eCall 2 F_question_of (eCons (eC (.int 2)) (eCons (eCall 1 F_law_deep (eCons (eC (.int 6)) eNil)) eNil)))) eNil))))
theorem f13 {ns : List Int} {a b c : Int} {q k0 t0 n w d : A} : gkS 4 F13 (sl (some q) (some (.lst 27)) none none none (some n) (some w) (some d) (some fine)) (St ns a b c R12) = .nx (sl (some q) (some (.lst 28)) none none none (some n) (some w) (some d) (some fine)) (St ns a b c R13) := by
  refine (gk_v (M2 := St ns a b c R12) (xs := d1.take 9) ?_ (OkC.refl _)).trans (by kernel_rfl)
  kernel_rfl
def R14 : Store := R13 ++ [.lst (d1.take 10)]
def F14 : SF := (sAsg (.nm 4) (eOp oAdd (eVar 4) (eLst (eCons (eLam 1 4 S_law_error (eCall 2 F_question_of (eCons (eC (.int 2)) (eCons (eCall 1 F_law_wide (eCons (eC (.int 16)) eNil)) eNil))) eNil) eNil))))
theorem f14 {ns : List Int} {a b c : Int} {q k0 t0 n w d : A} : gkS 4 F14 (sl (some q) (some (.lst 28)) none none none (some n) (some w) (some d) (some fine)) (St ns a b c R13) = .nx (sl (some q) (some (.lst 29)) none none none (some n) (some w) (some d) (some fine)) (St ns a b c R14) := by
  refine (gk_v (M2 := St ns a b c R13) (xs := d1.take 10) ?_ (OkC.refl _)).trans (by kernel_rfl)
  kernel_rfl
def F15 : SF := (sIf (eB (eOp oNe (eVar 4) (eLst (eCons (eC (.int 2)) (eCons (eC (.int 0)) (eCons (eC (.int 8)) (eCons (eC (.int 2)) (eCons (eC (.int 0)) (eCons (eC (.int 0)) (eCons (eC (.int 2)) (eCons (eC (.int 7)) (eCons (eC .non) (eCons (eC .non) eNil))))))))))))) (sSeq (sRet (eC (.bl false)))
    sNil) sNil)
theorem f15 {ns : List Int} {a b c : Int} {q k0 t0 n w d : A} : gtS F15 (sl (some q) (some (.lst 29)) none none none (some n) (some w) (some d) (some fine)) (St ns a b c R14) = .nx (sl (some q) (some (.lst 29)) none none none (some n) (some w) (some d) (some fine)) (St ns a b c R14) := gt_v (by kernel_rfl)
def R16 : Store := R14 ++ [.lst (d2.take 1)]
def F16 : SF := (sAsg (.nm 4) (eLst (eCons (eLam 1 4 S_law_error (eCall 3 F_further_text (eCons (eVar 9) (eCons (eVar 8) (eCons (eC .non) eNil)))) eNil) eNil)))
theorem f16 {ns : List Int} {a b c : Int} {q k0 t0 n w d : A} (h : w = .non ∨ w = .str (Str.ofString "") ∨ w = .str (Str.ofString "end") ∨ w = .str (Str.ofString "stack") ∨ w = .int 5 ∨ w = .tup [.str (Str.ofString "move")]) : gkS 4 F16 (sl (some q) (some (.lst 29)) none none none (some n) (some w) (some d) (some fine)) (St ns a b c R14) = .nx (sl (some q) (some (.lst 30)) none none none (some n) (some w) (some d) (some fine)) (St ns a b c R16) := by
  refine (gk_v (M2 := St ns a b c R14) (xs := d2.take 1) ?_ (OkC.refl _)).trans (by kernel_rfl)
  rcases h with rfl | rfl | rfl | rfl | rfl | rfl <;> kernel_rfl
def R17 : Store := R16 ++ [.lst (d2.take 2)]
def F17 : SF := (sAsg (.nm 4) (eOp oAdd (eVar 4) (eLst (eCons (eLamD 4 0 S_law_error (eCall 3 F_further_told (eCons (eC (.str (Str.ofString "cut"))) (eCons (eVar 8) (eCons (eC .non) eNil))))) eNil))))
theorem f17 {ns : List Int} {a b c : Int} {q k0 t0 n w d : A} (h : n = .non ∨ n = .int 0 ∨ n = .int 4 ∨ n = .bl true ∨ n = .str (Str.ofString "1")) : gkS 4 F17 (sl (some q) (some (.lst 30)) none none none (some n) (some w) (some d) (some fine)) (St ns a b c R16) = .nx (sl (some q) (some (.lst 31)) none none none (some n) (some w) (some d) (some fine)) (St ns a b c R17) := by
  refine (gk_v (M2 := St ns a b c R16) (xs := d2.take 2) ?_ (OkC.refl _)).trans (by kernel_rfl)
  rcases h with rfl | rfl | rfl | rfl | rfl <;> kernel_rfl
def R18 : Store := R17 ++ [.lst (d2.take 3)]
def F18 : SF := (sAsg (.nm 4) (eOp oAdd (eVar 4) (eLst (eCons (eLamD 4 0 S_law_error (eCall 3 F_further_text (eCons (eC (.str (Str.ofString "cut"))) (eCons (eC (.int 2)) (eCons (eC .non) eNil))))) eNil))))
theorem f18 {ns : List Int} {a b c : Int} {q k0 t0 n w d : A} : gkS 4 F18 (sl (some q) (some (.lst 31)) none none none (some n) (some w) (some d) (some fine)) (St ns a b c R17) = .nx (sl (some q) (some (.lst 32)) none none none (some n) (some w) (some d) (some fine)) (St ns a b c R18) := by
  refine (gk_v (M2 := St ns a b c R17) (xs := d2.take 3) ?_ (OkC.refl _)).trans (by kernel_rfl)
  kernel_rfl
def R19 : Store := R18 ++ [.lst (d2.take 4)]
def F19 : SF := (sAsg (.nm 4) (eOp oAdd (eVar 4) (eLst (eCons (eLam 1 4 S_law_error (eCall 2 F_further_messages (eCons (eVar 9) (eCons (eVar 8) eNil))) eNil) eNil))))
theorem f19 {ns : List Int} {a b c : Int} {q k0 t0 n w d : A} (h : w = .non ∨ w = .str (Str.ofString "") ∨ w = .str (Str.ofString "end") ∨ w = .str (Str.ofString "stack") ∨ w = .int 5 ∨ w = .tup [.str (Str.ofString "move")]) : gkS 4 F19 (sl (some q) (some (.lst 32)) none none none (some n) (some w) (some d) (some fine)) (St ns a b c R18) = .nx (sl (some q) (some (.lst 33)) none none none (some n) (some w) (some d) (some fine)) (St ns a b c R19) := by
  refine (gk_v (M2 := St ns a b c R18) (xs := d2.take 4) ?_ (OkC.refl _)).trans (by kernel_rfl)
  rcases h with rfl | rfl | rfl | rfl | rfl | rfl <;> kernel_rfl
def R20 : Store := R19 ++ [.lst (d2.take 5)]
def F20 : SF := (sAsg (.nm 4) (eOp oAdd (eVar 4) (eLst (eCons (eLamD 4 0 S_law_error (eCall 2 F_further_messages (eCons (eC (.str (Str.ofString "flip"))) (eCons (eVar 8) eNil)))) eNil))))
theorem f20 {ns : List Int} {a b c : Int} {q k0 t0 n w d : A} (h : n = .non ∨ n = .int 0 ∨ n = .int 4 ∨ n = .bl true ∨ n = .str (Str.ofString "1")) : gkS 4 F20 (sl (some q) (some (.lst 33)) none none none (some n) (some w) (some d) (some fine)) (St ns a b c R19) = .nx (sl (some q) (some (.lst 34)) none none none (some n) (some w) (some d) (some fine)) (St ns a b c R20) := by
  refine (gk_v (M2 := St ns a b c R19) (xs := d2.take 5) ?_ (OkC.refl _)).trans (by kernel_rfl)
  rcases h with rfl | rfl | rfl | rfl | rfl <;> kernel_rfl
def R21 : Store := R20 ++ [.lst (d2.take 6)]
def F21 : SF := (sAsg (.nm 4) (eOp oAdd (eVar 4) (eLst (eCons (eLamD 4 0 S_law_error (eCall 2 F_can_keep_further (eCons (eVar 9) (eCons (eVar 3) eNil)))) eNil))))
theorem f21 {ns : List Int} {a b c : Int} {q k0 t0 n w d : A} (h : w = .non ∨ w = .str (Str.ofString "") ∨ w = .str (Str.ofString "end") ∨ w = .str (Str.ofString "stack") ∨ w = .int 5 ∨ w = .tup [.str (Str.ofString "move")]) : gkS 4 F21 (sl (some q) (some (.lst 34)) none none none (some n) (some w) (some d) (some fine)) (St ns a b c R20) = .nx (sl (some q) (some (.lst 35)) none none none (some n) (some w) (some d) (some fine)) (St ns a b c R21) := by
  refine (gk_v (M2 := St ns a b c R20) (xs := d2.take 6) ?_ (OkC.refl _)).trans (by kernel_rfl)
  rcases h with rfl | rfl | rfl | rfl | rfl | rfl <;> kernel_rfl
def R22 : Store := R21 ++ [.lst (d2.take 7)]
def F22 : SF := (sAsg (.nm 4) (eOp oAdd (eVar 4) (eLst (eCons (eLam 1 4 S_law_error (eCall 2 F_can_keep_further (eCons (eC (.str (Str.ofString "move"))) (eCons (eVar 3) eNil))) eNil) eNil))))
theorem f22 {ns : List Int} {a b c : Int} {q k0 t0 n w d : A} (h : q = .non ∨ q = .tup [.int 2] ∨ q = .tup [.int 0, .tup [], .tup []] ∨ q = .tup [.int 2, .tup [.tup [.int 0]], .tup [.int 0]] ∨ q = .tup [.int 2, .tup [.tup [.int 0, .int 0]], .tup [.int 4]] ∨ q = .tup [.int 2, .tup [.tup [.int 0, .int 1]], .tup [.int 0]]) : gkS 4 F22 (sl (some q) (some (.lst 35)) none none none (some n) (some w) (some d) (some fine)) (St ns a b c R21) = .nx (sl (some q) (some (.lst 36)) none none none (some n) (some w) (some d) (some fine)) (St ns a b c R22) := by
  refine (gk_v (M2 := St ns a b c R21) (xs := d2.take 7) ?_ (OkC.refl _)).trans (by kernel_rfl)
  rcases h with rfl | rfl | rfl | rfl | rfl | rfl <;> kernel_rfl
def R23 : Store := R22 ++ [.lst (d2.take 8)]
def F23 : SF := (sAsg (.nm 4) (eOp oAdd (eVar 4) (eLst (eCons (eLamD 4 0 S_law_error (eCall 2 F_further_keeper (eCons (eVar 9) (eCons (eC .non) eNil)))) eNil))))
theorem f23 {ns : List Int} {a b c : Int} {q k0 t0 n w d : A} (h : w = .non ∨ w = .str (Str.ofString "") ∨ w = .str (Str.ofString "end") ∨ w = .str (Str.ofString "stack") ∨ w = .int 5 ∨ w = .tup [.str (Str.ofString "move")]) : gkS 4 F23 (sl (some q) (some (.lst 36)) none none none (some n) (some w) (some d) (some fine)) (St ns a b c R22) = .nx (sl (some q) (some (.lst 37)) none none none (some n) (some w) (some d) (some fine)) (St ns a b c R23) := by
  refine (gk_v (M2 := St ns a b c R22) (xs := d2.take 8) ?_ (OkC.refl _)).trans (by kernel_rfl)
  rcases h with rfl | rfl | rfl | rfl | rfl | rfl <;> kernel_rfl
def R24 : Store := R23 ++ [.lst (d2.take 9)]
def F24 : SF := (sAsg (.nm 4) (eOp oAdd (eVar 4) (eLst (eCons (eLamD 4 0 S_law_error (eCall 2 F_further_keeper (eCons (eC (.str (Str.ofString "cut"))) (eCons (eVar 3) eNil)))) eNil))))
theorem f24 {ns : List Int} {a b c : Int} {q k0 t0 n w d : A} (h : q = .non ∨ q = .tup [.int 2] ∨ q = .tup [.int 0, .tup [], .tup []] ∨ q = .tup [.int 2, .tup [.tup [.int 0]], .tup [.int 0]] ∨ q = .tup [.int 2, .tup [.tup [.int 0, .int 0]], .tup [.int 4]] ∨ q = .tup [.int 2, .tup [.tup [.int 0, .int 1]], .tup [.int 0]]) : gkS 4 F24 (sl (some q) (some (.lst 37)) none none none (some n) (some w) (some d) (some fine)) (St ns a b c R23) = .nx (sl (some q) (some (.lst 38)) none none none (some n) (some w) (some d) (some fine)) (St ns a b c R24) := by
  refine (gk_v (M2 := St ns a b c R23) (xs := d2.take 9) ?_ (OkC.refl _)).trans (by kernel_rfl)
  rcases h with rfl | rfl | rfl | rfl | rfl | rfl <;> kernel_rfl
def F25 : SF := (sIf (eB (eOp oNe (eVar 4) (eLst (eCons (eC (.int 1)) (eCons (eC (.int 2)) (eCons (eC (.int 4)) (eCons (eC (.int 1)) (eCons (eC (.int 2)) (eCons (eC (.int 1)) (eCons (eC (.int 3)) (eCons (eC (.int 1)) (eCons (eC (.int 3)) eNil)))))))))))) (sSeq (sRet (eC (.bl false)))
    sNil) sNil)
theorem f25 {ns : List Int} {a b c : Int} {q k0 t0 n w d : A} : gtS F25 (sl (some q) (some (.lst 38)) none none none (some n) (some w) (some d) (some fine)) (St ns a b c R24) = .nx (sl (some q) (some (.lst 38)) none none none (some n) (some w) (some d) (some fine)) (St ns a b c R24) := gt_v (by kernel_rfl)
def R26 : Store := R24 ++ [.lst [], .lst x26]
def S26 (pk : On') : SF := (sAsg (.nm 5) (eCall 2 pk (eCons (eVar 1) (eCons (eLst (eCons (eC .non) (eCons (eTup (eCons (eTup eNil) (eCons (eTup eNil) eNil))) (eCons (eTup (eCons (eTup (eCons (eTup (eCons (eC (.int 0)) (eCons (eC (.int 0)) (eCons (eC (.int 0)) eNil)))) eNil)) (eCons (eTup (eCons (eC (.int 4)) eNil)) eNil))) (eCons (eTup (eCons (eTup (eCons (eTup (eCons (eC (.int 0)) (eCons (eC (.int 0)) eNil))) eNil)) (eCons (eTup (eCons (eC (.int 0)) eNil)) eNil))) (eCons (eTup (eCons (eTup (eCons (eTup (eCons (eC (.int 0)) (eCons (eC (.int 0)) (eCons (eC (.int 1)) eNil)))) eNil)) (eCons (eTup (eCons (eC (.int 0)) eNil)) eNil))) (eCons (eTup (eCons (eLst eNil) (eCons (eTup eNil) eNil))) eNil))))))) eNil))))
theorem draw26 (ns : List Int) {a b c : Int} (ha : 0 ≤ a) (hb : 0 ≤ b) (hb2 : b < 2147483647) {q n w d : A} : ∃ v, (v = .non ∨ v = .tup [.tup [], .tup []] ∨ v = .tup [.tup [.tup [.int 0, .int 0, .int 0]], .tup [.int 4]] ∨ v = .tup [.tup [.tup [.int 0, .int 0]], .tup [.int 0]] ∨ v = .tup [.tup [.tup [.int 0, .int 0, .int 1]], .tup [.int 0]] ∨ v = .tup [.lst 39, .tup []]) ∧ ∃ a' b' c', S26 F_law_pick (sl (some q) (some (.lst 38)) none none none (some n) (some w) (some d) (some fine)) (St ns a b c R24) = .nx (sl (some q) (some (.lst 38)) (some v) none none (some n) (some w) (some d) (some fine)) (St ns a' b' c' R26) ∧ 0 ≤ a' ∧ 0 ≤ b' ∧ b' < 2147483647 := by
  have e1 : ∀ pk : On', S26 pk (sl (some q) (some (.lst 38)) none none none (some n) (some w) (some d) (some fine)) (St ns a b c R24) = S26 (fun _ _ => pk [.lst 1, .lst 40] (St ns a b c R26)) (sl (some q) (some (.lst 38)) none none none (some n) (some w) (some d) (some fine)) (St ns a b c R24) := fun pk => by kernel_rfl
  obtain ⟨v, hv, a', b', c', e, z⟩ := pick_eq (rest := R26) (ns := ns) (l := 40) (xs := x26) ha hb hb2 (c := c) rfl (by decide) (by decide) (by decide)
  refine ⟨v, by simp only [x26, List.mem_cons, List.not_mem_nil, or_false] at hv; exact hv, a', b', c', ?_, z⟩
  refine (e1 _).trans ?_
  rw [e]
  kernel_rfl
def R28 : Store := R26 ++ [.lst (d3.take 1)]
def F28 : SF := (sAsg (.nm 4) (eLst (eCons (eLam 1 4 S_law_error (eCall 4 F_keep_further (eCons (eVar 9) (eCons (eC .non) (eCons (eC .non) (eCons (eC .non) eNil))))) eNil) eNil)))
theorem f28 {ns : List Int} {a b c : Int} {q k0 t0 n w d : A} (h : w = .non ∨ w = .str (Str.ofString "") ∨ w = .str (Str.ofString "end") ∨ w = .str (Str.ofString "stack") ∨ w = .int 5 ∨ w = .tup [.str (Str.ofString "move")]) : gkS 4 F28 (sl (some q) (some (.lst 38)) (some k0) (some right) none (some n) (some w) (some d) (some fine)) (St ns a b c R26) = .nx (sl (some q) (some (.lst 41)) (some k0) (some right) none (some n) (some w) (some d) (some fine)) (St ns a b c R28) := by
  refine (gk_v (M2 := St ns a b c R26) (xs := d3.take 1) ?_ (OkC.refl _)).trans (by kernel_rfl)
  rcases h with rfl | rfl | rfl | rfl | rfl | rfl <;> kernel_rfl
def R29 : Store := R28 ++ [.lst (d3.take 2)]
def F29 : SF := (sAsg (.nm 4) (eOp oAdd (eVar 4) (eLst (eCons (eLamD 4 0 S_law_error (eCall 4 F_keep_further (eCons (eC (.str (Str.ofString "cut"))) (eCons (eVar 8) (eCons (eC .non) (eCons (eC .non) eNil)))))) eNil))))
theorem f29 {ns : List Int} {a b c : Int} {q k0 t0 n w d : A} (h : n = .non ∨ n = .int 0 ∨ n = .int 4 ∨ n = .bl true ∨ n = .str (Str.ofString "1")) : gkS 4 F29 (sl (some q) (some (.lst 41)) (some k0) (some right) none (some n) (some w) (some d) (some fine)) (St ns a b c R28) = .nx (sl (some q) (some (.lst 42)) (some k0) (some right) none (some n) (some w) (some d) (some fine)) (St ns a b c R29) := by
  refine (gk_v (M2 := St ns a b c R28) (xs := d3.take 2) ?_ (OkC.refl _)).trans (by kernel_rfl)
  rcases h with rfl | rfl | rfl | rfl | rfl <;> kernel_rfl
def R30 : Store := R29 ++ [.lst (d3.take 3)]
def F30 : SF := (sAsg (.nm 4) (eOp oAdd (eVar 4) (eLst (eCons (eLamD 4 0 S_law_error (eCall 4 F_keep_further (eCons (eC (.str (Str.ofString "cut"))) (eCons (eC (.int 2)) (eCons (eVar 5) (eCons (eC .non) eNil)))))) eNil))))
theorem f30 {ns : List Int} {a b c : Int} {q k0 t0 n w d : A} (h : k0 = .non ∨ k0 = .tup [.tup [], .tup []] ∨ k0 = .tup [.tup [.tup [.int 0, .int 0, .int 0]], .tup [.int 4]] ∨ k0 = .tup [.tup [.tup [.int 0, .int 0]], .tup [.int 0]] ∨ k0 = .tup [.tup [.tup [.int 0, .int 0, .int 1]], .tup [.int 0]] ∨ k0 = .tup [.lst 39, .tup []]) : gkS 4 F30 (sl (some q) (some (.lst 42)) (some k0) (some right) none (some n) (some w) (some d) (some fine)) (St ns a b c R29) = .nx (sl (some q) (some (.lst 43)) (some k0) (some right) none (some n) (some w) (some d) (some fine)) (St ns a b c R30) := by
  refine (gk_v (M2 := St ns a b c R29) (xs := d3.take 3) ?_ (OkC.refl _)).trans (by kernel_rfl)
  rcases h with rfl | rfl | rfl | rfl | rfl | rfl <;> kernel_rfl
def R31 : Store := R30 ++ [.lst [], .lst x31]
def S31 (pk : On') : SF := (sAsg (.nm 7) (eCall 2 pk (eCons (eVar 1) (eCons (eLst (eCons (eC .non) (eCons (eLst eNil) (eCons (eTup (eCons (eTup (eCons (eC (.str (Str.ofString "cut"))) (eCons (eC (.int 0)) eNil))) eNil)) (eCons (eTup (eCons (eTup (eCons (eC (.str (Str.ofString "put"))) (eCons (eC (.int 2)) eNil))) eNil)) (eCons (eTup (eCons (eTup (eCons (eC (.str (Str.ofString "put"))) (eCons (eC (.bl true)) eNil))) eNil)) (eCons (eOp oMulT (eTup (eCons (eTup (eCons (eC (.str (Str.ofString "cut"))) eNil)) eNil)) (eC (.int 101))) eNil))))))) eNil))))
theorem draw31 (ns : List Int) {a b c : Int} (ha : 0 ≤ a) (hb : 0 ≤ b) (hb2 : b < 2147483647) {q n w d k0 : A} : ∃ v, (v = .non ∨ v = .lst 44 ∨ v = .tup [.tup [.str (Str.ofString "cut"), .int 0]] ∨ v = .tup [.tup [.str (Str.ofString "put"), .int 2]] ∨ v = .tup [.tup [.str (Str.ofString "put"), .bl true]] ∨ v = .tup (List.replicate 101 (.tup [.str (Str.ofString "cut")]))) ∧ ∃ a' b' c', S31 F_law_pick (sl (some q) (some (.lst 43)) (some k0) (some right) none (some n) (some w) (some d) (some fine)) (St ns a b c R30) = .nx (sl (some q) (some (.lst 43)) (some k0) (some right) (some v) (some n) (some w) (some d) (some fine)) (St ns a' b' c' R31) ∧ 0 ≤ a' ∧ 0 ≤ b' ∧ b' < 2147483647 := by
  have e1 : ∀ pk : On', S31 pk (sl (some q) (some (.lst 43)) (some k0) (some right) none (some n) (some w) (some d) (some fine)) (St ns a b c R30) = S31 (fun _ _ => pk [.lst 1, .lst 45] (St ns a b c R31)) (sl (some q) (some (.lst 43)) (some k0) (some right) none (some n) (some w) (some d) (some fine)) (St ns a b c R30) := fun pk => by kernel_rfl
  obtain ⟨v, hv, a', b', c', e, z⟩ := pick_eq (rest := R31) (ns := ns) (l := 45) (xs := x31) ha hb hb2 (c := c) rfl (by decide) (by decide) (by decide)
  refine ⟨v, by simp only [x31, List.mem_cons, List.not_mem_nil, or_false] at hv; exact hv, a', b', c', ?_, z⟩
  refine (e1 _).trans ?_
  rw [e]
  kernel_rfl
def R32 : Store := R31 ++ [.lst (d3.take 4)]
def F32 : SF := (sAsg (.nm 4) (eOp oAdd (eVar 4) (eLst (eCons (eLam 1 4 S_law_error (eCall 4 F_keep_further (eCons (eC (.str (Str.ofString "cut"))) (eCons (eC (.int 2)) (eCons (eVar 6) (eCons (eVar 7) eNil))))) eNil) eNil))))
theorem f32 {ns : List Int} {a b c : Int} {q k0 t0 n w d : A} (h : t0 = .non ∨ t0 = .lst 44 ∨ t0 = .tup [.tup [.str (Str.ofString "cut"), .int 0]] ∨ t0 = .tup [.tup [.str (Str.ofString "put"), .int 2]] ∨ t0 = .tup [.tup [.str (Str.ofString "put"), .bl true]] ∨ t0 = .tup (List.replicate 101 (.tup [.str (Str.ofString "cut")]))) : gkS 4 F32 (sl (some q) (some (.lst 43)) (some k0) (some right) (some t0) (some n) (some w) (some d) (some fine)) (St ns a b c R31) = .nx (sl (some q) (some (.lst 46)) (some k0) (some right) (some t0) (some n) (some w) (some d) (some fine)) (St ns a b c R32) := by
  refine (gk_v (M2 := St ns a b c R31) (xs := d3.take 4) ?_ (OkC.refl _)).trans (by kernel_rfl)
  rcases h with rfl | rfl | rfl | rfl | rfl | rfl <;> kernel_rfl
def R33 : Store := R32 ++ [.lst (d3.take 5)]
def F33 : SF := (sAsg (.nm 4) (eOp oAdd (eVar 4) (eLst (eCons (eLam 1 4 S_law_error (eCall 3 F_mislead (eCons (eC (.str (Str.ofString "cut"))) (eCons (eVar 3) (eCons (eVar 5) eNil)))) eNil) eNil))))
theorem f33 {ns : List Int} {a b c : Int} {q k0 t0 n w d : A} (h : q = .non ∨ q = .tup [.int 2] ∨ q = .tup [.int 0, .tup [], .tup []] ∨ q = .tup [.int 2, .tup [.tup [.int 0]], .tup [.int 0]] ∨ q = .tup [.int 2, .tup [.tup [.int 0, .int 0]], .tup [.int 4]] ∨ q = .tup [.int 2, .tup [.tup [.int 0, .int 1]], .tup [.int 0]]) : gkS 4 F33 (sl (some q) (some (.lst 46)) (some k0) (some right) (some t0) (some n) (some w) (some d) (some fine)) (St ns a b c R32) = .nx (sl (some q) (some (.lst 47)) (some k0) (some right) (some t0) (some n) (some w) (some d) (some fine)) (St ns a b c R33) := by
  refine (gk_v (M2 := St ns a b c R32) (xs := d3.take 5) ?_ (OkC.refl _)).trans (by kernel_rfl)
  rcases h with rfl | rfl | rfl | rfl | rfl | rfl <;> kernel_rfl
def R34 : Store := R33 ++ [.lst (d3.take 6)]
def F34 : SF := (sAsg (.nm 4) (eOp oAdd (eVar 4) (eLst (eCons (eLamD 4 0 S_law_error (eCall 3 F_mislead (eCons (eC (.str (Str.ofString "cut"))) (eCons (eVar 11) (eCons (eVar 5) eNil))))) eNil))))
theorem f34 {ns : List Int} {a b c : Int} {q k0 t0 n w d : A} (h : k0 = .non ∨ k0 = .tup [.tup [], .tup []] ∨ k0 = .tup [.tup [.tup [.int 0, .int 0, .int 0]], .tup [.int 4]] ∨ k0 = .tup [.tup [.tup [.int 0, .int 0]], .tup [.int 0]] ∨ k0 = .tup [.tup [.tup [.int 0, .int 0, .int 1]], .tup [.int 0]] ∨ k0 = .tup [.lst 39, .tup []]) : gkS 4 F34 (sl (some q) (some (.lst 47)) (some k0) (some right) (some t0) (some n) (some w) (some d) (some fine)) (St ns a b c R33) = .nx (sl (some q) (some (.lst 48)) (some k0) (some right) (some t0) (some n) (some w) (some d) (some fine)) (St ns a b c R34) := by
  refine (gk_v (M2 := St ns a b c R33) (xs := d3.take 6) ?_ (OkC.refl _)).trans (by kernel_rfl)
  rcases h with rfl | rfl | rfl | rfl | rfl | rfl <;> kernel_rfl
def R35 : Store := R34 ++ [.lst (d3.take 7)]
def F35 : SF := (sAsg (.nm 4) (eOp oAdd (eVar 4) (eLst (eCons (eLamD 4 0 S_law_error (eCall 3 F_mislead (eCons (eC (.str (Str.ofString "cut"))) (eCons (eVar 11) (eCons (eVar 6) eNil))))) eNil))))
theorem f35 {ns : List Int} {a b c : Int} {q k0 t0 n w d : A} : gkS 4 F35 (sl (some q) (some (.lst 48)) (some k0) (some right) (some t0) (some n) (some w) (some d) (some fine)) (St ns a b c R34) = .nx (sl (some q) (some (.lst 49)) (some k0) (some right) (some t0) (some n) (some w) (some d) (some fine)) (St ns a b c R35) := by
  refine (gk_v (M2 := St ns a b c R34) (xs := d3.take 7) ?_ (OkC.refl _)).trans (by kernel_rfl)
  kernel_rfl
def R36 : Store := R35 ++ [.lst (d3.take 8)]
def F36 : SF := (sAsg (.nm 4) (eOp oAdd (eVar 4) (eLst (eCons (eLam 1 4 S_law_error (eCall 4 F_shows_misled (eCons (eC (.str (Str.ofString "cut"))) (eCons (eVar 11) (eCons (eVar 6) (eCons (eC .non) eNil))))) eNil) eNil))))
theorem f36 {ns : List Int} {a b c : Int} {q k0 t0 n w d : A} : gkS 4 F36 (sl (some q) (some (.lst 49)) (some k0) (some right) (some t0) (some n) (some w) (some d) (some fine)) (St ns a b c R35) = .nx (sl (some q) (some (.lst 50)) (some k0) (some right) (some t0) (some n) (some w) (some d) (some fine)) (St ns a b c R36) := by
  refine (gk_v (M2 := St ns a b c R35) (xs := d3.take 8) ?_ (OkC.refl _)).trans (by kernel_rfl)
  kernel_rfl
def R37 : Store := R36 ++ [.lst (d3.take 9)]
def F37 : SF := (sAsg (.nm 4) (eOp oAdd (eVar 4) (eLst (eCons (eLamD 4 0 S_law_error (eCall 2 F_further_reason (eCons (eVar 9) (eCons (eVar 3) eNil)))) eNil))))
theorem f37 {ns : List Int} {a b c : Int} {q k0 t0 n w d : A} (h : w = .non ∨ w = .str (Str.ofString "") ∨ w = .str (Str.ofString "end") ∨ w = .str (Str.ofString "stack") ∨ w = .int 5 ∨ w = .tup [.str (Str.ofString "move")]) : gkS 4 F37 (sl (some q) (some (.lst 50)) (some k0) (some right) (some t0) (some n) (some w) (some d) (some fine)) (St ns a b c R36) = .nx (sl (some q) (some (.lst 51)) (some k0) (some right) (some t0) (some n) (some w) (some d) (some fine)) (St ns a b c R37) := by
  refine (gk_v (M2 := St ns a b c R36) (xs := d3.take 9) ?_ (OkC.refl _)).trans (by kernel_rfl)
  rcases h with rfl | rfl | rfl | rfl | rfl | rfl <;> kernel_rfl
def R38 : Store := R37 ++ [.lst (d3.take 10)]
def F38 : SF := (sAsg (.nm 4) (eOp oAdd (eVar 4) (eLst (eCons (eLamD 4 0 S_law_error (eCall 3 F_shows_further_reason (eCons (eC (.str (Str.ofString "cut"))) (eCons (eVar 3) (eCons (eC .non) eNil))))) eNil))))
theorem f38 {ns : List Int} {a b c : Int} {q k0 t0 n w d : A} (h : q = .non ∨ q = .tup [.int 2] ∨ q = .tup [.int 0, .tup [], .tup []] ∨ q = .tup [.int 2, .tup [.tup [.int 0]], .tup [.int 0]] ∨ q = .tup [.int 2, .tup [.tup [.int 0, .int 0]], .tup [.int 4]] ∨ q = .tup [.int 2, .tup [.tup [.int 0, .int 1]], .tup [.int 0]]) : gkS 4 F38 (sl (some q) (some (.lst 51)) (some k0) (some right) (some t0) (some n) (some w) (some d) (some fine)) (St ns a b c R37) = .nx (sl (some q) (some (.lst 52)) (some k0) (some right) (some t0) (some n) (some w) (some d) (some fine)) (St ns a b c R38) := by
  refine (gk_v (M2 := St ns a b c R37) (xs := d3.take 10) ?_ (OkC.refl _)).trans (by kernel_rfl)
  rcases h with rfl | rfl | rfl | rfl | rfl | rfl <;> kernel_rfl
theorem law_t (ns : List Int) : ∃ M, F_law [.lst 0] (scr ns) = .ok (.bl true) M := by
  have h : (F_law [.lst 0] (scr ns)).W fun v _ => v = .bl true := by
    refine w_def ?_
    unfold S_law
    refine seq_k (τ1 := [some (.lst 0), some (.lst 1), none, none, none, none, none, none, none, none, none, none]) (M1 := St ns 0 11208 0 []) (by kernel_rfl) ?_
    obtain ⟨n, w, hn, hw, a, b, c, e1, ha, hb, hb2⟩ := draw1 ns (a := 0) (b := 11208) (c := 0) (by omega) (by omega) (by omega)
    refine seq_k e1 ?_
    have h4 : ∀ {s1 s2 s3 s4 t : SF} {τ τ' : Sl} {M M' : Store} {N : Sl → Store → Prop} {R : A → Store → Prop}, sSeq s1 (sSeq s2 (sSeq s3 s4)) τ M = .nx τ' M' → (t τ' M').W N R → (sSeq s1 (sSeq s2 (sSeq s3 (sSeq s4 t))) τ M).W N R := by
      intro s1 s2 s3 s4 t τ τ' M M' N R h1 h2
      have e : sSeq s1 (sSeq s2 (sSeq s3 (sSeq s4 t))) τ M = sSeq (sSeq s1 (sSeq s2 (sSeq s3 s4))) t τ M := by
        unfold sSeq
        cases s1 τ M with
        | nx τ1 M1 =>
          dsimp only
          cases s2 τ1 M1 with
          | nx τ2 M2 =>
            dsimp only
            cases s3 τ2 M2 <;> rfl
          | _ => rfl
        | _ => rfl
      rw [e]
      exact seq_k h1 h2
    refine h4 asks_ok ?_
    obtain ⟨d, hd, a, b, c, e6, ha, hb, hb2⟩ := draw6 ns (n := n) (w := w) (a := a) (b := b) (c := c) ha hb hb2
    refine seq_k e6 ?_
    obtain ⟨q, hq, a, b, c, e7, ha, hb, hb2⟩ := draw7 ns (n := n) (w := w) (d := d) (c := c) ha hb hb2
    refine seq_k e7 ?_
    refine seq_k (f8 (k0 := .non) (t0 := .non) hn hd) ?_
    refine seq_k (f9 (k0 := .non) (t0 := .non)) ?_
    refine seq_k (f10 (k0 := .non) (t0 := .non) hn hd) ?_
    refine seq_k (f11 (k0 := .non) (t0 := .non) hd) ?_
    refine seq_k (f12 (k0 := .non) (t0 := .non) hn) ?_
    refine seq_k (f13 (k0 := .non) (t0 := .non)) ?_
    refine seq_k (f14 (k0 := .non) (t0 := .non)) ?_
    refine seq_k (f15 (k0 := .non) (t0 := .non)) ?_
    refine seq_k (f16 (k0 := .non) (t0 := .non) hw) ?_
    refine seq_k (f17 (k0 := .non) (t0 := .non) hn) ?_
    refine seq_k (f18 (k0 := .non) (t0 := .non)) ?_
    refine seq_k (f19 (k0 := .non) (t0 := .non) hw) ?_
    refine seq_k (f20 (k0 := .non) (t0 := .non) hn) ?_
    refine seq_k (f21 (k0 := .non) (t0 := .non) hw) ?_
    refine seq_k (f22 (k0 := .non) (t0 := .non) hq) ?_
    refine seq_k (f23 (k0 := .non) (t0 := .non) hw) ?_
    refine seq_k (f24 (k0 := .non) (t0 := .non) hq) ?_
    refine seq_k (f25 (k0 := .non) (t0 := .non)) ?_
    obtain ⟨k0, hk0, a, b, c, e26, ha, hb, hb2⟩ := draw26 ns (q := q) (n := n) (w := w) (d := d) (c := c) ha hb hb2
    refine seq_k e26 ?_
    refine seq_k (τ1 := sl (some q) (some (.lst 38)) (some k0) (some right) none (some n) (some w) (some d) (some fine)) (M1 := St ns a b c R26) (by kernel_rfl) ?_
    refine seq_k (f28 (t0 := .non) hw) ?_
    refine seq_k (f29 (t0 := .non) hn) ?_
    refine seq_k (f30 (t0 := .non) hk0) ?_
    obtain ⟨t0, ht0, a, b, c, e31, ha, hb, hb2⟩ := draw31 ns (q := q) (n := n) (w := w) (d := d) (k0 := k0) (c := c) ha hb hb2
    refine seq_k e31 ?_
    refine seq_k (f32 ht0) ?_
    refine seq_k (f33 hq) ?_
    refine seq_k (f34 hk0) ?_
    refine seq_k (f35) ?_
    refine seq_k (f36) ?_
    refine seq_k (f37 hw) ?_
    refine seq_k (f38 hq) ?_
    exact ret_k (by kernel_rfl)
  obtain ⟨v, M, e, rfl⟩ := EO.W.out h
  exact ⟨M, e⟩
theorem maths : ∀ ns : List Int, ns.length ≤ 63 → ∃ M, F_law [.lst 0] (scr ns) = .ok (.bl true) M := fun ns _ => law_t ns
end P68
namespace P68
open PySem PySem.Spec PyProof.Rows L2 AB
theorem ktab_of {K : PySem.W.Frag} {d : Addr} : ∀ {tbl : List (Str × List Str)}, (∀ p ∈ tbl, ∃ a, PySem.W.nsIn K d p.1 = some (some (.ref a)) ∧ KTup K a p.2) → ∀ z ts, tbl.lookup z = some ts → ∃ p, PySem.W.nsIn K d z = some (some (.ref p)) ∧ KTup K p ts
  | [], _, z, ts, e => by cases e
  | (k, v) :: tbl, h, z, ts, e => by
    rw [List.lookup_cons] at e
    cases hz : z == k with
    | true =>
      rw [hz] at e
      cases e
      rw [eq_of_beq hz]
      exact h (k, v) (by simp)
    | false =>
      rw [hz] at e
      exact ktab_of (fun p hp => h p (by simp [hp])) z ts e
theorem all_mk {l : PySem.W.OpenLaw} {w : World} {K : PySem.W.Frag} {h : Heap} {mg : Str → Option Value} {fa : Addr} (X : K.In h) (G : h.Ns mainGlobals mg) (hfa : mg "law" = some (.ref fa))
    (hX : ∀ y ∈ (["further_text", "keep_further", "law"] : List Str), ∃ f c P, TabX mg h y f c P)
    (hF : ∀ ns : List Int, ns.length ≤ 63 → ∃ M, F_law [.lst 0] (scr ns) = .ok (.bl true) M)
    {f_law_taken : Addr} {od_law_taken an_law_taken : Option Addr} {sl_law_taken : Array (Option Value)} {oc_law_taken kV_law_taken dc_law_taken pm_law_taken cd_law_taken ct_law_taken : Value}
    (a_law_taken : PySem.W.nsIn K mainGlobals "_law_taken" = some (some (.ref f_law_taken))) (l_law_taken : K.lookup f_law_taken = some ⟨oc_law_taken, od_law_taken, .func (PySem.W.fnOf "_law_taken" "_law_taken" (defArgs s_law_taken) (defBody s_law_taken) (defScope s_law_taken) .none kV_law_taken dc_law_taken pm_law_taken an_law_taken cd_law_taken ct_law_taken), sl_law_taken⟩) (c_law_taken : PySem.W.codeIn K cd_law_taken "_law_taken" = true) (k_law_taken : PySem.W.keepIn K (.ref f_law_taken) = true)
    {f_law_pick : Addr} {od_law_pick an_law_pick : Option Addr} {sl_law_pick : Array (Option Value)} {oc_law_pick kV_law_pick dc_law_pick pm_law_pick cd_law_pick ct_law_pick : Value}
    (a_law_pick : PySem.W.nsIn K mainGlobals "_law_pick" = some (some (.ref f_law_pick))) (l_law_pick : K.lookup f_law_pick = some ⟨oc_law_pick, od_law_pick, .func (PySem.W.fnOf "_law_pick" "_law_pick" (defArgs s_law_pick) (defBody s_law_pick) (defScope s_law_pick) .none kV_law_pick dc_law_pick pm_law_pick an_law_pick cd_law_pick ct_law_pick), sl_law_pick⟩) (c_law_pick : PySem.W.codeIn K cd_law_pick "_law_pick" = true) (k_law_pick : PySem.W.keepIn K (.ref f_law_pick) = true)
    {f_law_deep : Addr} {od_law_deep an_law_deep : Option Addr} {sl_law_deep : Array (Option Value)} {oc_law_deep kV_law_deep dc_law_deep pm_law_deep cd_law_deep ct_law_deep : Value}
    (a_law_deep : PySem.W.nsIn K mainGlobals "_law_deep" = some (some (.ref f_law_deep))) (l_law_deep : K.lookup f_law_deep = some ⟨oc_law_deep, od_law_deep, .func (PySem.W.fnOf "_law_deep" "_law_deep" (defArgs s_law_deep) (defBody s_law_deep) (defScope s_law_deep) .none kV_law_deep dc_law_deep pm_law_deep an_law_deep cd_law_deep ct_law_deep), sl_law_deep⟩) (c_law_deep : PySem.W.codeIn K cd_law_deep "_law_deep" = true) (k_law_deep : PySem.W.keepIn K (.ref f_law_deep) = true)
    {f_law_wide : Addr} {od_law_wide an_law_wide : Option Addr} {sl_law_wide : Array (Option Value)} {oc_law_wide kV_law_wide dc_law_wide pm_law_wide cd_law_wide ct_law_wide : Value}
    (a_law_wide : PySem.W.nsIn K mainGlobals "_law_wide" = some (some (.ref f_law_wide))) (l_law_wide : K.lookup f_law_wide = some ⟨oc_law_wide, od_law_wide, .func (PySem.W.fnOf "_law_wide" "_law_wide" (defArgs s_law_wide) (defBody s_law_wide) (defScope s_law_wide) .none kV_law_wide dc_law_wide pm_law_wide an_law_wide cd_law_wide ct_law_wide), sl_law_wide⟩) (c_law_wide : PySem.W.codeIn K cd_law_wide "_law_wide" = true) (k_law_wide : PySem.W.keepIn K (.ref f_law_wide) = true)
    {f_law_error : Addr} {od_law_error an_law_error : Option Addr} {sl_law_error : Array (Option Value)} {oc_law_error kV_law_error dc_law_error pm_law_error cd_law_error ct_law_error : Value}
    (a_law_error : PySem.W.nsIn K mainGlobals "_law_error" = some (some (.ref f_law_error))) (l_law_error : K.lookup f_law_error = some ⟨oc_law_error, od_law_error, .func (PySem.W.fnOf "_law_error" "_law_error" (defArgs s_law_error) (defBody s_law_error) (defScope s_law_error) .none kV_law_error dc_law_error pm_law_error an_law_error cd_law_error ct_law_error), sl_law_error⟩) (c_law_error : PySem.W.codeIn K cd_law_error "_law_error" = true) (k_law_error : PySem.W.keepIn K (.ref f_law_error) = true)
    {f_is_number : Addr} {od_is_number an_is_number : Option Addr} {sl_is_number : Array (Option Value)} {oc_is_number kV_is_number dc_is_number pm_is_number cd_is_number ct_is_number : Value}
    (a_is_number : PySem.W.nsIn K mainGlobals "is_number" = some (some (.ref f_is_number))) (l_is_number : K.lookup f_is_number = some ⟨oc_is_number, od_is_number, .func (PySem.W.fnOf "is_number" "is_number" (defArgs s_is_number) (defBody s_is_number) (defScope s_is_number) .none kV_is_number dc_is_number pm_is_number an_is_number cd_is_number ct_is_number), sl_is_number⟩) (c_is_number : PySem.W.codeIn K cd_is_number "is_number" = true) (k_is_number : PySem.W.keepIn K (.ref f_is_number) = true)
    {f_check_letters : Addr} {od_check_letters an_check_letters : Option Addr} {sl_check_letters : Array (Option Value)} {oc_check_letters kV_check_letters dc_check_letters pm_check_letters cd_check_letters ct_check_letters : Value}
    (a_check_letters : PySem.W.nsIn K mainGlobals "check_letters" = some (some (.ref f_check_letters))) (l_check_letters : K.lookup f_check_letters = some ⟨oc_check_letters, od_check_letters, .func (PySem.W.fnOf "check_letters" "check_letters" (defArgs s_check_letters) (defBody s_check_letters) (defScope s_check_letters) .none kV_check_letters dc_check_letters pm_check_letters an_check_letters cd_check_letters ct_check_letters), sl_check_letters⟩) (c_check_letters : PySem.W.codeIn K cd_check_letters "check_letters" = true) (k_check_letters : PySem.W.keepIn K (.ref f_check_letters) = true)
    {f_are_numbers : Addr} {od_are_numbers an_are_numbers : Option Addr} {sl_are_numbers : Array (Option Value)} {oc_are_numbers kV_are_numbers dc_are_numbers pm_are_numbers cd_are_numbers ct_are_numbers : Value}
    (a_are_numbers : PySem.W.nsIn K mainGlobals "are_numbers" = some (some (.ref f_are_numbers))) (l_are_numbers : K.lookup f_are_numbers = some ⟨oc_are_numbers, od_are_numbers, .func (PySem.W.fnOf "are_numbers" "are_numbers" (defArgs s_are_numbers) (defBody s_are_numbers) (defScope s_are_numbers) .none kV_are_numbers dc_are_numbers pm_are_numbers an_are_numbers cd_are_numbers ct_are_numbers), sl_are_numbers⟩) (c_are_numbers : PySem.W.codeIn K cd_are_numbers "are_numbers" = true) (k_are_numbers : PySem.W.keepIn K (.ref f_are_numbers) = true)
    {f_is_text : Addr} {od_is_text an_is_text : Option Addr} {sl_is_text : Array (Option Value)} {oc_is_text kV_is_text dc_is_text pm_is_text cd_is_text ct_is_text : Value}
    (a_is_text : PySem.W.nsIn K mainGlobals "is_text" = some (some (.ref f_is_text))) (l_is_text : K.lookup f_is_text = some ⟨oc_is_text, od_is_text, .func (PySem.W.fnOf "is_text" "is_text" (defArgs s_is_text) (defBody s_is_text) (defScope s_is_text) .none kV_is_text dc_is_text pm_is_text an_is_text cd_is_text ct_is_text), sl_is_text⟩) (c_is_text : PySem.W.codeIn K cd_is_text "is_text" = true) (k_is_text : PySem.W.keepIn K (.ref f_is_text) = true)
    {f_is_weighing : Addr} {od_is_weighing an_is_weighing : Option Addr} {sl_is_weighing : Array (Option Value)} {oc_is_weighing kV_is_weighing dc_is_weighing pm_is_weighing cd_is_weighing ct_is_weighing : Value}
    (a_is_weighing : PySem.W.nsIn K mainGlobals "is_weighing" = some (some (.ref f_is_weighing))) (l_is_weighing : K.lookup f_is_weighing = some ⟨oc_is_weighing, od_is_weighing, .func (PySem.W.fnOf "is_weighing" "is_weighing" (defArgs s_is_weighing) (defBody s_is_weighing) (defScope s_is_weighing) .none kV_is_weighing dc_is_weighing pm_is_weighing an_is_weighing cd_is_weighing ct_is_weighing), sl_is_weighing⟩) (c_is_weighing : PySem.W.codeIn K cd_is_weighing "is_weighing" = true) (k_is_weighing : PySem.W.keepIn K (.ref f_is_weighing) = true)
    {f_is_plain : Addr} {od_is_plain an_is_plain : Option Addr} {sl_is_plain : Array (Option Value)} {oc_is_plain kV_is_plain dc_is_plain pm_is_plain cd_is_plain ct_is_plain : Value}
    (a_is_plain : PySem.W.nsIn K mainGlobals "is_plain" = some (some (.ref f_is_plain))) (l_is_plain : K.lookup f_is_plain = some ⟨oc_is_plain, od_is_plain, .func (PySem.W.fnOf "is_plain" "is_plain" (defArgs s_is_plain) (defBody s_is_plain) (defScope s_is_plain) .none kV_is_plain dc_is_plain pm_is_plain an_is_plain cd_is_plain ct_is_plain), sl_is_plain⟩) (c_is_plain : PySem.W.codeIn K cd_is_plain "is_plain" = true) (k_is_plain : PySem.W.keepIn K (.ref f_is_plain) = true)
    {f_is_ask : Addr} {od_is_ask an_is_ask : Option Addr} {sl_is_ask : Array (Option Value)} {oc_is_ask kV_is_ask dc_is_ask pm_is_ask cd_is_ask ct_is_ask : Value}
    (a_is_ask : PySem.W.nsIn K mainGlobals "is_ask" = some (some (.ref f_is_ask))) (l_is_ask : K.lookup f_is_ask = some ⟨oc_is_ask, od_is_ask, .func (PySem.W.fnOf "is_ask" "is_ask" (defArgs s_is_ask) (defBody s_is_ask) (defScope s_is_ask) .none kV_is_ask dc_is_ask pm_is_ask an_is_ask cd_is_ask ct_is_ask), sl_is_ask⟩) (c_is_ask : PySem.W.codeIn K cd_is_ask "is_ask" = true) (k_is_ask : PySem.W.keepIn K (.ref f_is_ask) = true)
    {f_plains_of : Addr} {od_plains_of an_plains_of : Option Addr} {sl_plains_of : Array (Option Value)} {oc_plains_of kV_plains_of dc_plains_of pm_plains_of cd_plains_of ct_plains_of : Value}
    (a_plains_of : PySem.W.nsIn K mainGlobals "plains_of" = some (some (.ref f_plains_of))) (l_plains_of : K.lookup f_plains_of = some ⟨oc_plains_of, od_plains_of, .func (PySem.W.fnOf "plains_of" "plains_of" (defArgs s_plains_of) (defBody s_plains_of) (defScope s_plains_of) .none kV_plains_of dc_plains_of pm_plains_of an_plains_of cd_plains_of ct_plains_of), sl_plains_of⟩) (c_plains_of : PySem.W.codeIn K cd_plains_of "plains_of" = true) (k_plains_of : PySem.W.keepIn K (.ref f_plains_of) = true)
    {f_check_ask : Addr} {od_check_ask an_check_ask : Option Addr} {sl_check_ask : Array (Option Value)} {oc_check_ask kV_check_ask dc_check_ask pm_check_ask cd_check_ask ct_check_ask : Value}
    (a_check_ask : PySem.W.nsIn K mainGlobals "check_ask" = some (some (.ref f_check_ask))) (l_check_ask : K.lookup f_check_ask = some ⟨oc_check_ask, od_check_ask, .func (PySem.W.fnOf "check_ask" "check_ask" (defArgs s_check_ask) (defBody s_check_ask) (defScope s_check_ask) .none kV_check_ask dc_check_ask pm_check_ask an_check_ask cd_check_ask ct_check_ask), sl_check_ask⟩) (c_check_ask : PySem.W.codeIn K cd_check_ask "check_ask" = true) (k_check_ask : PySem.W.keepIn K (.ref f_check_ask) = true)
    {f_check_text : Addr} {od_check_text an_check_text : Option Addr} {sl_check_text : Array (Option Value)} {oc_check_text kV_check_text dc_check_text pm_check_text cd_check_text ct_check_text : Value}
    (a_check_text : PySem.W.nsIn K mainGlobals "check_text" = some (some (.ref f_check_text))) (l_check_text : K.lookup f_check_text = some ⟨oc_check_text, od_check_text, .func (PySem.W.fnOf "check_text" "check_text" (defArgs s_check_text) (defBody s_check_text) (defScope s_check_text) .none kV_check_text dc_check_text pm_check_text an_check_text cd_check_text ct_check_text), sl_check_text⟩) (c_check_text : PySem.W.codeIn K cd_check_text "check_text" = true) (k_check_text : PySem.W.keepIn K (.ref f_check_text) = true)
    {f_is_true : Addr} {od_is_true an_is_true : Option Addr} {sl_is_true : Array (Option Value)} {oc_is_true kV_is_true dc_is_true pm_is_true cd_is_true ct_is_true : Value}
    (a_is_true : PySem.W.nsIn K mainGlobals "is_true" = some (some (.ref f_is_true))) (l_is_true : K.lookup f_is_true = some ⟨oc_is_true, od_is_true, .func (PySem.W.fnOf "is_true" "is_true" (defArgs s_is_true) (defBody s_is_true) (defScope s_is_true) .none kV_is_true dc_is_true pm_is_true an_is_true cd_is_true ct_is_true), sl_is_true⟩) (c_is_true : PySem.W.codeIn K cd_is_true "is_true" = true) (k_is_true : PySem.W.keepIn K (.ref f_is_true) = true)
    {f_known_behind : Addr} {od_known_behind an_known_behind : Option Addr} {sl_known_behind : Array (Option Value)} {oc_known_behind kV_known_behind dc_known_behind pm_known_behind cd_known_behind ct_known_behind : Value}
    (a_known_behind : PySem.W.nsIn K mainGlobals "known_behind" = some (some (.ref f_known_behind))) (l_known_behind : K.lookup f_known_behind = some ⟨oc_known_behind, od_known_behind, .func (PySem.W.fnOf "known_behind" "known_behind" (defArgs s_known_behind) (defBody s_known_behind) (defScope s_known_behind) .none kV_known_behind dc_known_behind pm_known_behind an_known_behind cd_known_behind ct_known_behind), sl_known_behind⟩) (c_known_behind : PySem.W.codeIn K cd_known_behind "known_behind" = true) (k_known_behind : PySem.W.keepIn K (.ref f_known_behind) = true)
    {f_most_known : Addr} {od_most_known an_most_known : Option Addr} {sl_most_known : Array (Option Value)} {oc_most_known kV_most_known dc_most_known pm_most_known cd_most_known ct_most_known : Value}
    (a_most_known : PySem.W.nsIn K mainGlobals "most_known" = some (some (.ref f_most_known))) (l_most_known : K.lookup f_most_known = some ⟨oc_most_known, od_most_known, .func (PySem.W.fnOf "most_known" "most_known" (defArgs s_most_known) (defBody s_most_known) (defScope s_most_known) .none kV_most_known dc_most_known pm_most_known an_most_known cd_most_known ct_most_known), sl_most_known⟩) (c_most_known : PySem.W.codeIn K cd_most_known "most_known" = true) (k_most_known : PySem.W.keepIn K (.ref f_most_known) = true)
    {f_table_behind : Addr} {od_table_behind an_table_behind : Option Addr} {sl_table_behind : Array (Option Value)} {oc_table_behind kV_table_behind dc_table_behind pm_table_behind cd_table_behind ct_table_behind : Value}
    (a_table_behind : PySem.W.nsIn K mainGlobals "table_behind" = some (some (.ref f_table_behind))) (l_table_behind : K.lookup f_table_behind = some ⟨oc_table_behind, od_table_behind, .func (PySem.W.fnOf "table_behind" "table_behind" (defArgs s_table_behind) (defBody s_table_behind) (defScope s_table_behind) .none kV_table_behind dc_table_behind pm_table_behind an_table_behind cd_table_behind ct_table_behind), sl_table_behind⟩) (c_table_behind : PySem.W.codeIn K cd_table_behind "table_behind" = true) (k_table_behind : PySem.W.keepIn K (.ref f_table_behind) = true)
    {f_numbered : Addr} {od_numbered an_numbered : Option Addr} {sl_numbered : Array (Option Value)} {oc_numbered kV_numbered dc_numbered pm_numbered cd_numbered ct_numbered : Value}
    (a_numbered : PySem.W.nsIn K mainGlobals "numbered" = some (some (.ref f_numbered))) (l_numbered : K.lookup f_numbered = some ⟨oc_numbered, od_numbered, .func (PySem.W.fnOf "numbered" "numbered" (defArgs s_numbered) (defBody s_numbered) (defScope s_numbered) .none kV_numbered dc_numbered pm_numbered an_numbered cd_numbered ct_numbered), sl_numbered⟩) (c_numbered : PySem.W.codeIn K cd_numbered "numbered" = true) (k_numbered : PySem.W.keepIn K (.ref f_numbered) = true)
    {f_is_met : Addr} {od_is_met an_is_met : Option Addr} {sl_is_met : Array (Option Value)} {oc_is_met kV_is_met dc_is_met pm_is_met cd_is_met ct_is_met : Value}
    (a_is_met : PySem.W.nsIn K mainGlobals "is_met" = some (some (.ref f_is_met))) (l_is_met : K.lookup f_is_met = some ⟨oc_is_met, od_is_met, .func (PySem.W.fnOf "is_met" "is_met" (defArgs s_is_met) (defBody s_is_met) (defScope s_is_met) .none kV_is_met dc_is_met pm_is_met an_is_met cd_is_met ct_is_met), sl_is_met⟩) (c_is_met : PySem.W.codeIn K cd_is_met "is_met" = true) (k_is_met : PySem.W.keepIn K (.ref f_is_met) = true)
    {f_is_joined : Addr} {od_is_joined an_is_joined : Option Addr} {sl_is_joined : Array (Option Value)} {oc_is_joined kV_is_joined dc_is_joined pm_is_joined cd_is_joined ct_is_joined : Value}
    (a_is_joined : PySem.W.nsIn K mainGlobals "is_joined" = some (some (.ref f_is_joined))) (l_is_joined : K.lookup f_is_joined = some ⟨oc_is_joined, od_is_joined, .func (PySem.W.fnOf "is_joined" "is_joined" (defArgs s_is_joined) (defBody s_is_joined) (defScope s_is_joined) .none kV_is_joined dc_is_joined pm_is_joined an_is_joined cd_is_joined ct_is_joined), sl_is_joined⟩) (c_is_joined : PySem.W.codeIn K cd_is_joined "is_joined" = true) (k_is_joined : PySem.W.keepIn K (.ref f_is_joined) = true)
    {f_parted_groups : Addr} {od_parted_groups an_parted_groups : Option Addr} {sl_parted_groups : Array (Option Value)} {oc_parted_groups kV_parted_groups dc_parted_groups pm_parted_groups cd_parted_groups ct_parted_groups : Value}
    (a_parted_groups : PySem.W.nsIn K mainGlobals "parted_groups" = some (some (.ref f_parted_groups))) (l_parted_groups : K.lookup f_parted_groups = some ⟨oc_parted_groups, od_parted_groups, .func (PySem.W.fnOf "parted_groups" "parted_groups" (defArgs s_parted_groups) (defBody s_parted_groups) (defScope s_parted_groups) .none kV_parted_groups dc_parted_groups pm_parted_groups an_parted_groups cd_parted_groups ct_parted_groups), sl_parted_groups⟩) (c_parted_groups : PySem.W.codeIn K cd_parted_groups "parted_groups" = true) (k_parted_groups : PySem.W.keepIn K (.ref f_parted_groups) = true)
    {f_groups_of : Addr} {od_groups_of an_groups_of : Option Addr} {sl_groups_of : Array (Option Value)} {oc_groups_of kV_groups_of dc_groups_of pm_groups_of cd_groups_of ct_groups_of : Value}
    {T_groups_of : Addr} {oT_groups_of : Value} {dT_groups_of : Option Addr} {sT_groups_of : Array (Option Value)} {yT_groups_of : Array Value} {nT_groups_of : Nat}
    (a_groups_of : PySem.W.nsIn K mainGlobals "groups_of" = some (some (.ref f_groups_of))) (l_groups_of : K.lookup f_groups_of = some ⟨oc_groups_of, od_groups_of, .func (PySem.W.fnOf "groups_of" "groups_of" (defArgs s_groups_of) (defBody s_groups_of) (defScope s_groups_of) (.ref T_groups_of) kV_groups_of dc_groups_of pm_groups_of an_groups_of cd_groups_of ct_groups_of), sl_groups_of⟩) (c_groups_of : PySem.W.codeIn K cd_groups_of "groups_of" = true) (k_groups_of : PySem.W.keepIn K (.ref f_groups_of) = true)
    (t_groups_of : K.lookup T_groups_of = some ⟨oT_groups_of, dT_groups_of, .seq yT_groups_of nT_groups_of, sT_groups_of⟩) (u_groups_of : Vals [.non] yT_groups_of.toList)
    {f_least_of : Addr} {od_least_of an_least_of : Option Addr} {sl_least_of : Array (Option Value)} {oc_least_of kV_least_of dc_least_of pm_least_of cd_least_of ct_least_of : Value}
    {T_least_of : Addr} {oT_least_of : Value} {dT_least_of : Option Addr} {sT_least_of : Array (Option Value)} {yT_least_of : Array Value} {nT_least_of : Nat}
    (a_least_of : PySem.W.nsIn K mainGlobals "least_of" = some (some (.ref f_least_of))) (l_least_of : K.lookup f_least_of = some ⟨oc_least_of, od_least_of, .func (PySem.W.fnOf "least_of" "least_of" (defArgs s_least_of) (defBody s_least_of) (defScope s_least_of) (.ref T_least_of) kV_least_of dc_least_of pm_least_of an_least_of cd_least_of ct_least_of), sl_least_of⟩) (c_least_of : PySem.W.codeIn K cd_least_of "least_of" = true) (k_least_of : PySem.W.keepIn K (.ref f_least_of) = true)
    (t_least_of : K.lookup T_least_of = some ⟨oT_least_of, dT_least_of, .seq yT_least_of nT_least_of, sT_least_of⟩) (u_least_of : Vals [.non] yT_least_of.toList)
    {f_question_of : Addr} {od_question_of an_question_of : Option Addr} {sl_question_of : Array (Option Value)} {oc_question_of kV_question_of dc_question_of pm_question_of cd_question_of ct_question_of : Value}
    (a_question_of : PySem.W.nsIn K mainGlobals "question_of" = some (some (.ref f_question_of))) (l_question_of : K.lookup f_question_of = some ⟨oc_question_of, od_question_of, .func (PySem.W.fnOf "question_of" "question_of" (defArgs s_question_of) (defBody s_question_of) (defScope s_question_of) .none kV_question_of dc_question_of pm_question_of an_question_of cd_question_of ct_question_of), sl_question_of⟩) (c_question_of : PySem.W.codeIn K cd_question_of "question_of" = true) (k_question_of : PySem.W.keepIn K (.ref f_question_of) = true)
    {f_write_ask : Addr} {od_write_ask an_write_ask : Option Addr} {sl_write_ask : Array (Option Value)} {oc_write_ask kV_write_ask dc_write_ask pm_write_ask cd_write_ask ct_write_ask : Value}
    (a_write_ask : PySem.W.nsIn K mainGlobals "write_ask" = some (some (.ref f_write_ask))) (l_write_ask : K.lookup f_write_ask = some ⟨oc_write_ask, od_write_ask, .func (PySem.W.fnOf "write_ask" "write_ask" (defArgs s_write_ask) (defBody s_write_ask) (defScope s_write_ask) .none kV_write_ask dc_write_ask pm_write_ask an_write_ask cd_write_ask ct_write_ask), sl_write_ask⟩) (c_write_ask : PySem.W.codeIn K cd_write_ask "write_ask" = true) (k_write_ask : PySem.W.keepIn K (.ref f_write_ask) = true)
    {f_check_string : Addr} {od_check_string an_check_string : Option Addr} {sl_check_string : Array (Option Value)} {oc_check_string kV_check_string dc_check_string pm_check_string cd_check_string ct_check_string : Value}
    (a_check_string : PySem.W.nsIn K mainGlobals "check_string" = some (some (.ref f_check_string))) (l_check_string : K.lookup f_check_string = some ⟨oc_check_string, od_check_string, .func (PySem.W.fnOf "check_string" "check_string" (defArgs s_check_string) (defBody s_check_string) (defScope s_check_string) .none kV_check_string dc_check_string pm_check_string an_check_string cd_check_string ct_check_string), sl_check_string⟩) (c_check_string : PySem.W.codeIn K cd_check_string "check_string" = true) (k_check_string : PySem.W.keepIn K (.ref f_check_string) = true)
    {f_read_ask : Addr} {od_read_ask an_read_ask : Option Addr} {sl_read_ask : Array (Option Value)} {oc_read_ask kV_read_ask dc_read_ask pm_read_ask cd_read_ask ct_read_ask : Value}
    (a_read_ask : PySem.W.nsIn K mainGlobals "read_ask" = some (some (.ref f_read_ask))) (l_read_ask : K.lookup f_read_ask = some ⟨oc_read_ask, od_read_ask, .func (PySem.W.fnOf "read_ask" "read_ask" (defArgs s_read_ask) (defBody s_read_ask) (defScope s_read_ask) .none kV_read_ask dc_read_ask pm_read_ask an_read_ask cd_read_ask ct_read_ask), sl_read_ask⟩) (c_read_ask : PySem.W.codeIn K cd_read_ask "read_ask" = true) (k_read_ask : PySem.W.keepIn K (.ref f_read_ask) = true)
    {f_check_further : Addr} {od_check_further an_check_further : Option Addr} {sl_check_further : Array (Option Value)} {oc_check_further kV_check_further dc_check_further pm_check_further cd_check_further ct_check_further : Value}
    (a_check_further : PySem.W.nsIn K mainGlobals "check_further" = some (some (.ref f_check_further))) (l_check_further : K.lookup f_check_further = some ⟨oc_check_further, od_check_further, .func (PySem.W.fnOf "check_further" "check_further" (defArgs s_check_further) (defBody s_check_further) (defScope s_check_further) .none kV_check_further dc_check_further pm_check_further an_check_further cd_check_further ct_check_further), sl_check_further⟩) (c_check_further : PySem.W.codeIn K cd_check_further "check_further" = true) (k_check_further : PySem.W.keepIn K (.ref f_check_further) = true)
    {f_texts_by : Addr} {od_texts_by an_texts_by : Option Addr} {sl_texts_by : Array (Option Value)} {oc_texts_by kV_texts_by dc_texts_by pm_texts_by cd_texts_by ct_texts_by : Value}
    (a_texts_by : PySem.W.nsIn K mainGlobals "texts_by" = some (some (.ref f_texts_by))) (l_texts_by : K.lookup f_texts_by = some ⟨oc_texts_by, od_texts_by, .func (PySem.W.fnOf "texts_by" "texts_by" (defArgs s_texts_by) (defBody s_texts_by) (defScope s_texts_by) .none kV_texts_by dc_texts_by pm_texts_by an_texts_by cd_texts_by ct_texts_by), sl_texts_by⟩) (c_texts_by : PySem.W.codeIn K cd_texts_by "texts_by" = true) (k_texts_by : PySem.W.keepIn K (.ref f_texts_by) = true)
    {f_further_text : Addr} {od_further_text an_further_text : Option Addr} {sl_further_text : Array (Option Value)} {oc_further_text kV_further_text dc_further_text pm_further_text ct_further_text : Value}
    {cc_further_text : Addr}
    (a_further_text : PySem.W.nsIn K mainGlobals "further_text" = some (some (.ref f_further_text))) (l_further_text : K.lookup f_further_text = some ⟨oc_further_text, od_further_text, .func (PySem.W.fnOf "further_text" "further_text" (defArgs s_further_text) (defBody s_further_text) (defScope s_further_text) .none kV_further_text dc_further_text pm_further_text an_further_text (.ref cc_further_text) ct_further_text), sl_further_text⟩) (c_further_text : PySem.W.codeIn K (.ref cc_further_text) "further_text" = true) (k_further_text : PySem.W.keepIn K (.ref f_further_text) = true)
    {P_further_text : Addr} {eM_further_text : Value} {dM_further_text : Option Addr} {vM_further_text : Array Value} {sM_further_text : Array (Option Value)} (m_further_text : K.lookup cc_further_text = some ⟨eM_further_text, dM_further_text, .fields vM_further_text, sM_further_text⟩) (p_further_text : vM_further_text[11]? = some (.ref P_further_text)) (n_further_text : K.lookup P_further_text = none)
    {f_further_told : Addr} {od_further_told an_further_told : Option Addr} {sl_further_told : Array (Option Value)} {oc_further_told kV_further_told dc_further_told pm_further_told cd_further_told ct_further_told : Value}
    (a_further_told : PySem.W.nsIn K mainGlobals "further_told" = some (some (.ref f_further_told))) (l_further_told : K.lookup f_further_told = some ⟨oc_further_told, od_further_told, .func (PySem.W.fnOf "further_told" "further_told" (defArgs s_further_told) (defBody s_further_told) (defScope s_further_told) .none kV_further_told dc_further_told pm_further_told an_further_told cd_further_told ct_further_told), sl_further_told⟩) (c_further_told : PySem.W.codeIn K cd_further_told "further_told" = true) (k_further_told : PySem.W.keepIn K (.ref f_further_told) = true)
    {f_further_messages_with : Addr} {od_further_messages_with an_further_messages_with : Option Addr} {sl_further_messages_with : Array (Option Value)} {oc_further_messages_with kV_further_messages_with dc_further_messages_with pm_further_messages_with cd_further_messages_with ct_further_messages_with : Value}
    (a_further_messages_with : PySem.W.nsIn K mainGlobals "further_messages_with" = some (some (.ref f_further_messages_with))) (l_further_messages_with : K.lookup f_further_messages_with = some ⟨oc_further_messages_with, od_further_messages_with, .func (PySem.W.fnOf "further_messages_with" "further_messages_with" (defArgs s_further_messages_with) (defBody s_further_messages_with) (defScope s_further_messages_with) .none kV_further_messages_with dc_further_messages_with pm_further_messages_with an_further_messages_with cd_further_messages_with ct_further_messages_with), sl_further_messages_with⟩) (c_further_messages_with : PySem.W.codeIn K cd_further_messages_with "further_messages_with" = true) (k_further_messages_with : PySem.W.keepIn K (.ref f_further_messages_with) = true)
    {f_further_messages : Addr} {od_further_messages an_further_messages : Option Addr} {sl_further_messages : Array (Option Value)} {oc_further_messages kV_further_messages dc_further_messages pm_further_messages cd_further_messages ct_further_messages : Value}
    (a_further_messages : PySem.W.nsIn K mainGlobals "further_messages" = some (some (.ref f_further_messages))) (l_further_messages : K.lookup f_further_messages = some ⟨oc_further_messages, od_further_messages, .func (PySem.W.fnOf "further_messages" "further_messages" (defArgs s_further_messages) (defBody s_further_messages) (defScope s_further_messages) .none kV_further_messages dc_further_messages pm_further_messages an_further_messages cd_further_messages ct_further_messages), sl_further_messages⟩) (c_further_messages : PySem.W.codeIn K cd_further_messages "further_messages" = true) (k_further_messages : PySem.W.keepIn K (.ref f_further_messages) = true)
    {f_are_steps : Addr} {od_are_steps an_are_steps : Option Addr} {sl_are_steps : Array (Option Value)} {oc_are_steps kV_are_steps dc_are_steps pm_are_steps cd_are_steps ct_are_steps : Value}
    (a_are_steps : PySem.W.nsIn K mainGlobals "are_steps" = some (some (.ref f_are_steps))) (l_are_steps : K.lookup f_are_steps = some ⟨oc_are_steps, od_are_steps, .func (PySem.W.fnOf "are_steps" "are_steps" (defArgs s_are_steps) (defBody s_are_steps) (defScope s_are_steps) .none kV_are_steps dc_are_steps pm_are_steps an_are_steps cd_are_steps ct_are_steps), sl_are_steps⟩) (c_are_steps : PySem.W.codeIn K cd_are_steps "are_steps" = true) (k_are_steps : PySem.W.keepIn K (.ref f_are_steps) = true)
    {f_check_question : Addr} {od_check_question an_check_question : Option Addr} {sl_check_question : Array (Option Value)} {oc_check_question kV_check_question dc_check_question pm_check_question cd_check_question ct_check_question : Value}
    (a_check_question : PySem.W.nsIn K mainGlobals "check_question" = some (some (.ref f_check_question))) (l_check_question : K.lookup f_check_question = some ⟨oc_check_question, od_check_question, .func (PySem.W.fnOf "check_question" "check_question" (defArgs s_check_question) (defBody s_check_question) (defScope s_check_question) .none kV_check_question dc_check_question pm_check_question an_check_question cd_check_question ct_check_question), sl_check_question⟩) (c_check_question : PySem.W.codeIn K cd_check_question "check_question" = true) (k_check_question : PySem.W.keepIn K (.ref f_check_question) = true)
    {f_can_keep_further : Addr} {od_can_keep_further an_can_keep_further : Option Addr} {sl_can_keep_further : Array (Option Value)} {oc_can_keep_further kV_can_keep_further dc_can_keep_further pm_can_keep_further cd_can_keep_further ct_can_keep_further : Value}
    (a_can_keep_further : PySem.W.nsIn K mainGlobals "can_keep_further" = some (some (.ref f_can_keep_further))) (l_can_keep_further : K.lookup f_can_keep_further = some ⟨oc_can_keep_further, od_can_keep_further, .func (PySem.W.fnOf "can_keep_further" "can_keep_further" (defArgs s_can_keep_further) (defBody s_can_keep_further) (defScope s_can_keep_further) .none kV_can_keep_further dc_can_keep_further pm_can_keep_further an_can_keep_further cd_can_keep_further ct_can_keep_further), sl_can_keep_further⟩) (c_can_keep_further : PySem.W.codeIn K cd_can_keep_further "can_keep_further" = true) (k_can_keep_further : PySem.W.keepIn K (.ref f_can_keep_further) = true)
    {f_further_keeper : Addr} {od_further_keeper an_further_keeper : Option Addr} {sl_further_keeper : Array (Option Value)} {oc_further_keeper kV_further_keeper dc_further_keeper pm_further_keeper cd_further_keeper ct_further_keeper : Value}
    (a_further_keeper : PySem.W.nsIn K mainGlobals "further_keeper" = some (some (.ref f_further_keeper))) (l_further_keeper : K.lookup f_further_keeper = some ⟨oc_further_keeper, od_further_keeper, .func (PySem.W.fnOf "further_keeper" "further_keeper" (defArgs s_further_keeper) (defBody s_further_keeper) (defScope s_further_keeper) .none kV_further_keeper dc_further_keeper pm_further_keeper an_further_keeper cd_further_keeper ct_further_keeper), sl_further_keeper⟩) (c_further_keeper : PySem.W.codeIn K cd_further_keeper "further_keeper" = true) (k_further_keeper : PySem.W.keepIn K (.ref f_further_keeper) = true)
    {f_check_states : Addr} {od_check_states an_check_states : Option Addr} {sl_check_states : Array (Option Value)} {oc_check_states kV_check_states dc_check_states pm_check_states cd_check_states ct_check_states : Value}
    (a_check_states : PySem.W.nsIn K mainGlobals "check_states" = some (some (.ref f_check_states))) (l_check_states : K.lookup f_check_states = some ⟨oc_check_states, od_check_states, .func (PySem.W.fnOf "check_states" "check_states" (defArgs s_check_states) (defBody s_check_states) (defScope s_check_states) .none kV_check_states dc_check_states pm_check_states an_check_states cd_check_states ct_check_states), sl_check_states⟩) (c_check_states : PySem.W.codeIn K cd_check_states "check_states" = true) (k_check_states : PySem.W.keepIn K (.ref f_check_states) = true)
    {f_check_messages : Addr} {od_check_messages an_check_messages : Option Addr} {sl_check_messages : Array (Option Value)} {oc_check_messages kV_check_messages dc_check_messages pm_check_messages cd_check_messages ct_check_messages : Value}
    (a_check_messages : PySem.W.nsIn K mainGlobals "check_messages" = some (some (.ref f_check_messages))) (l_check_messages : K.lookup f_check_messages = some ⟨oc_check_messages, od_check_messages, .func (PySem.W.fnOf "check_messages" "check_messages" (defArgs s_check_messages) (defBody s_check_messages) (defScope s_check_messages) .none kV_check_messages dc_check_messages pm_check_messages an_check_messages cd_check_messages ct_check_messages), sl_check_messages⟩) (c_check_messages : PySem.W.codeIn K cd_check_messages "check_messages" = true) (k_check_messages : PySem.W.keepIn K (.ref f_check_messages) = true)
    {f_is_further_message : Addr} {od_is_further_message an_is_further_message : Option Addr} {sl_is_further_message : Array (Option Value)} {oc_is_further_message kV_is_further_message dc_is_further_message pm_is_further_message cd_is_further_message ct_is_further_message : Value}
    (a_is_further_message : PySem.W.nsIn K mainGlobals "is_further_message" = some (some (.ref f_is_further_message))) (l_is_further_message : K.lookup f_is_further_message = some ⟨oc_is_further_message, od_is_further_message, .func (PySem.W.fnOf "is_further_message" "is_further_message" (defArgs s_is_further_message) (defBody s_is_further_message) (defScope s_is_further_message) .none kV_is_further_message dc_is_further_message pm_is_further_message an_is_further_message cd_is_further_message ct_is_further_message), sl_is_further_message⟩) (c_is_further_message : PySem.W.codeIn K cd_is_further_message "is_further_message" = true) (k_is_further_message : PySem.W.keepIn K (.ref f_is_further_message) = true)
    {f_keep_further : Addr} {od_keep_further an_keep_further : Option Addr} {sl_keep_further : Array (Option Value)} {oc_keep_further kV_keep_further dc_keep_further pm_keep_further ct_keep_further : Value}
    {cc_keep_further : Addr}
    (a_keep_further : PySem.W.nsIn K mainGlobals "keep_further" = some (some (.ref f_keep_further))) (l_keep_further : K.lookup f_keep_further = some ⟨oc_keep_further, od_keep_further, .func (PySem.W.fnOf "keep_further" "keep_further" (defArgs s_keep_further) (defBody s_keep_further) (defScope s_keep_further) .none kV_keep_further dc_keep_further pm_keep_further an_keep_further (.ref cc_keep_further) ct_keep_further), sl_keep_further⟩) (c_keep_further : PySem.W.codeIn K (.ref cc_keep_further) "keep_further" = true) (k_keep_further : PySem.W.keepIn K (.ref f_keep_further) = true)
    {P_keep_further : Addr} {eM_keep_further : Value} {dM_keep_further : Option Addr} {vM_keep_further : Array Value} {sM_keep_further : Array (Option Value)} (m_keep_further : K.lookup cc_keep_further = some ⟨eM_keep_further, dM_keep_further, .fields vM_keep_further, sM_keep_further⟩) (p_keep_further : vM_keep_further[11]? = some (.ref P_keep_further)) (n_keep_further : K.lookup P_keep_further = none)
    {f_is_commuting : Addr} {od_is_commuting an_is_commuting : Option Addr} {sl_is_commuting : Array (Option Value)} {oc_is_commuting kV_is_commuting dc_is_commuting pm_is_commuting cd_is_commuting ct_is_commuting : Value}
    (a_is_commuting : PySem.W.nsIn K mainGlobals "is_commuting" = some (some (.ref f_is_commuting))) (l_is_commuting : K.lookup f_is_commuting = some ⟨oc_is_commuting, od_is_commuting, .func (PySem.W.fnOf "is_commuting" "is_commuting" (defArgs s_is_commuting) (defBody s_is_commuting) (defScope s_is_commuting) .none kV_is_commuting dc_is_commuting pm_is_commuting an_is_commuting cd_is_commuting ct_is_commuting), sl_is_commuting⟩) (c_is_commuting : PySem.W.codeIn K cd_is_commuting "is_commuting" = true) (k_is_commuting : PySem.W.keepIn K (.ref f_is_commuting) = true)
    {f_is_kept_further : Addr} {od_is_kept_further an_is_kept_further : Option Addr} {sl_is_kept_further : Array (Option Value)} {oc_is_kept_further kV_is_kept_further dc_is_kept_further pm_is_kept_further cd_is_kept_further ct_is_kept_further : Value}
    (a_is_kept_further : PySem.W.nsIn K mainGlobals "is_kept_further" = some (some (.ref f_is_kept_further))) (l_is_kept_further : K.lookup f_is_kept_further = some ⟨oc_is_kept_further, od_is_kept_further, .func (PySem.W.fnOf "is_kept_further" "is_kept_further" (defArgs s_is_kept_further) (defBody s_is_kept_further) (defScope s_is_kept_further) .none kV_is_kept_further dc_is_kept_further pm_is_kept_further an_is_kept_further cd_is_kept_further ct_is_kept_further), sl_is_kept_further⟩) (c_is_kept_further : PySem.W.codeIn K cd_is_kept_further "is_kept_further" = true) (k_is_kept_further : PySem.W.keepIn K (.ref f_is_kept_further) = true)
    {f_check_unkept : Addr} {od_check_unkept an_check_unkept : Option Addr} {sl_check_unkept : Array (Option Value)} {oc_check_unkept kV_check_unkept dc_check_unkept pm_check_unkept cd_check_unkept ct_check_unkept : Value}
    (a_check_unkept : PySem.W.nsIn K mainGlobals "check_unkept" = some (some (.ref f_check_unkept))) (l_check_unkept : K.lookup f_check_unkept = some ⟨oc_check_unkept, od_check_unkept, .func (PySem.W.fnOf "check_unkept" "check_unkept" (defArgs s_check_unkept) (defBody s_check_unkept) (defScope s_check_unkept) .none kV_check_unkept dc_check_unkept pm_check_unkept an_check_unkept cd_check_unkept ct_check_unkept), sl_check_unkept⟩) (c_check_unkept : PySem.W.codeIn K cd_check_unkept "check_unkept" = true) (k_check_unkept : PySem.W.keepIn K (.ref f_check_unkept) = true)
    {f_mislead : Addr} {od_mislead an_mislead : Option Addr} {sl_mislead : Array (Option Value)} {oc_mislead kV_mislead dc_mislead pm_mislead cd_mislead ct_mislead : Value}
    (a_mislead : PySem.W.nsIn K mainGlobals "mislead" = some (some (.ref f_mislead))) (l_mislead : K.lookup f_mislead = some ⟨oc_mislead, od_mislead, .func (PySem.W.fnOf "mislead" "mislead" (defArgs s_mislead) (defBody s_mislead) (defScope s_mislead) .none kV_mislead dc_mislead pm_mislead an_mislead cd_mislead ct_mislead), sl_mislead⟩) (c_mislead : PySem.W.codeIn K cd_mislead "mislead" = true) (k_mislead : PySem.W.keepIn K (.ref f_mislead) = true)
    {f_shows_misled : Addr} {od_shows_misled an_shows_misled : Option Addr} {sl_shows_misled : Array (Option Value)} {oc_shows_misled kV_shows_misled dc_shows_misled pm_shows_misled cd_shows_misled ct_shows_misled : Value}
    (a_shows_misled : PySem.W.nsIn K mainGlobals "shows_misled" = some (some (.ref f_shows_misled))) (l_shows_misled : K.lookup f_shows_misled = some ⟨oc_shows_misled, od_shows_misled, .func (PySem.W.fnOf "shows_misled" "shows_misled" (defArgs s_shows_misled) (defBody s_shows_misled) (defScope s_shows_misled) .none kV_shows_misled dc_shows_misled pm_shows_misled an_shows_misled cd_shows_misled ct_shows_misled), sl_shows_misled⟩) (c_shows_misled : PySem.W.codeIn K cd_shows_misled "shows_misled" = true) (k_shows_misled : PySem.W.keepIn K (.ref f_shows_misled) = true)
    {f_further_reason : Addr} {od_further_reason an_further_reason : Option Addr} {sl_further_reason : Array (Option Value)} {oc_further_reason kV_further_reason dc_further_reason pm_further_reason cd_further_reason ct_further_reason : Value}
    (a_further_reason : PySem.W.nsIn K mainGlobals "further_reason" = some (some (.ref f_further_reason))) (l_further_reason : K.lookup f_further_reason = some ⟨oc_further_reason, od_further_reason, .func (PySem.W.fnOf "further_reason" "further_reason" (defArgs s_further_reason) (defBody s_further_reason) (defScope s_further_reason) .none kV_further_reason dc_further_reason pm_further_reason an_further_reason cd_further_reason ct_further_reason), sl_further_reason⟩) (c_further_reason : PySem.W.codeIn K cd_further_reason "further_reason" = true) (k_further_reason : PySem.W.keepIn K (.ref f_further_reason) = true)
    {f_shows_further_reason : Addr} {od_shows_further_reason an_shows_further_reason : Option Addr} {sl_shows_further_reason : Array (Option Value)} {oc_shows_further_reason kV_shows_further_reason dc_shows_further_reason pm_shows_further_reason cd_shows_further_reason ct_shows_further_reason : Value}
    (a_shows_further_reason : PySem.W.nsIn K mainGlobals "shows_further_reason" = some (some (.ref f_shows_further_reason))) (l_shows_further_reason : K.lookup f_shows_further_reason = some ⟨oc_shows_further_reason, od_shows_further_reason, .func (PySem.W.fnOf "shows_further_reason" "shows_further_reason" (defArgs s_shows_further_reason) (defBody s_shows_further_reason) (defScope s_shows_further_reason) .none kV_shows_further_reason dc_shows_further_reason pm_shows_further_reason an_shows_further_reason cd_shows_further_reason ct_shows_further_reason), sl_shows_further_reason⟩) (c_shows_further_reason : PySem.W.codeIn K cd_shows_further_reason "shows_further_reason" = true) (k_shows_further_reason : PySem.W.keepIn K (.ref f_shows_further_reason) = true)
    {f_law : Addr} {od_law an_law : Option Addr} {sl_law : Array (Option Value)} {oc_law kV_law dc_law pm_law ct_law : Value}
    {cc_law : Addr}
    (a_law : PySem.W.nsIn K mainGlobals "law" = some (some (.ref f_law))) (l_law : K.lookup f_law = some ⟨oc_law, od_law, .func (PySem.W.fnOf "law" "law" (defArgs s_law) (defBody s_law) (defScope s_law) .none kV_law dc_law pm_law an_law (.ref cc_law) ct_law), sl_law⟩) (c_law : PySem.W.codeIn K (.ref cc_law) "law" = true) (k_law : PySem.W.keepIn K (.ref f_law) = true)
    {P_law : Addr} {eM_law : Value} {dM_law : Option Addr} {vM_law : Array Value} {sM_law : Array (Option Value)} (m_law : K.lookup cc_law = some ⟨eM_law, dM_law, .fields vM_law, sM_law⟩) (p_law : vM_law[11]? = some (.ref P_law)) (n_law : K.lookup P_law = none)
    (ne_further_text_keep_further : P_further_text ≠ P_keep_further)
    (ne_further_text_law : P_further_text ≠ P_law)
    (ne_keep_further_law : P_keep_further ≠ P_law)
    {t_MOST_ANSWER : Tok} (v_MOST_ANSWER : PySem.W.nsIn K mainGlobals "MOST_ANSWER" = some (some (.int 3 t_MOST_ANSWER)))
    {t_MOST_EDITS : Tok} (v_MOST_EDITS : PySem.W.nsIn K mainGlobals "MOST_EDITS" = some (some (.int 100 t_MOST_EDITS)))
    {t_MOST_LETTERS : Tok} (v_MOST_LETTERS : PySem.W.nsIn K mainGlobals "MOST_LETTERS" = some (some (.int 3 t_MOST_LETTERS)))
    {t_MOST_MEMORIES : Tok} (v_MOST_MEMORIES : PySem.W.nsIn K mainGlobals "MOST_MEMORIES" = some (some (.int 3000 t_MOST_MEMORIES)))
    {t_MOST_MESSAGES : Tok} (v_MOST_MESSAGES : PySem.W.nsIn K mainGlobals "MOST_MESSAGES" = some (some (.int 100 t_MOST_MESSAGES)))
    {t_MOST_MODULUS : Tok} (v_MOST_MODULUS : PySem.W.nsIn K mainGlobals "MOST_MODULUS" = some (some (.int 8 t_MOST_MODULUS)))
    {t_MOST_PLAIN : Tok} (v_MOST_PLAIN : PySem.W.nsIn K mainGlobals "MOST_PLAIN" = some (some (.int 16 t_MOST_PLAIN)))
    {t_MOST_ROWS : Tok} (v_MOST_ROWS : PySem.W.nsIn K mainGlobals "MOST_ROWS" = some (some (.int 2000 t_MOST_ROWS)))
    {t_MOST_STATES : Tok} (v_MOST_STATES : PySem.W.nsIn K mainGlobals "MOST_STATES" = some (some (.int 40 t_MOST_STATES)))
    {t_MOST_TEXT : Tok} (v_MOST_TEXT : PySem.W.nsIn K mainGlobals "MOST_TEXT" = some (some (.int 60 t_MOST_TEXT)))
    {t_MOST_TIMES : Tok} (v_MOST_TIMES : PySem.W.nsIn K mainGlobals "MOST_TIMES" = some (some (.int 6 t_MOST_TIMES)))
    {t_MOST_WITHIN : Tok} (v_MOST_WITHIN : PySem.W.nsIn K mainGlobals "MOST_WITHIN" = some (some (.int 6 t_MOST_WITHIN)))
    {t_MOST_WORD : Tok} (v_MOST_WORD : PySem.W.nsIn K mainGlobals "MOST_WORD" = some (some (.int 6 t_MOST_WORD)))
    (z_ValueError : PySem.W.nsIn K mainGlobals "ValueError" = some none)
    (z_all : PySem.W.nsIn K mainGlobals "all" = some none)
    (z_any : PySem.W.nsIn K mainGlobals "any" = some none)
    (z_bool : PySem.W.nsIn K mainGlobals "bool" = some none)
    (z_enumerate : PySem.W.nsIn K mainGlobals "enumerate" = some none)
    (z_int : PySem.W.nsIn K mainGlobals "int" = some none)
    (z_isinstance : PySem.W.nsIn K mainGlobals "isinstance" = some none)
    (z_len : PySem.W.nsIn K mainGlobals "len" = some none)
    (z_list : PySem.W.nsIn K mainGlobals "list" = some none)
    (z_range : PySem.W.nsIn K mainGlobals "range" = some none)
    (z_set : PySem.W.nsIn K mainGlobals "set" = some none)
    (z_sorted : PySem.W.nsIn K mainGlobals "sorted" = some none)
    (z_str : PySem.W.nsIn K mainGlobals "str" = some none)
    (z_super : PySem.W.nsIn K mainGlobals "super" = some none)
    (z_tuple : PySem.W.nsIn K mainGlobals "tuple" = some none)
    (z_zip : PySem.W.nsIn K mainGlobals "zip" = some none)
    {d_FURTHER_WORDS : Addr} {es_FURTHER_WORDS : Array DictEntry} {n_FURTHER_WORDS : Nat} (g_FURTHER_WORDS : PySem.W.nsIn K mainGlobals "FURTHER_WORDS" = some (some (.ref d_FURTHER_WORDS))) (h_FURTHER_WORDS : K.lookup d_FURTHER_WORDS = some ⟨.type "dict", none, .dict es_FURTHER_WORDS n_FURTHER_WORDS, #[]⟩) (i_FURTHER_WORDS : PySem.W.KeysLit w.params es_FURTHER_WORDS.toList) (j_FURTHER_WORDS : (d_FURTHER_WORDS == sysModules) = false)
    {p_FURTHER_WORDS_0 : Addr} {o_FURTHER_WORDS_0 : Option Addr} {s_FURTHER_WORDS_0 : Array (Option Value)} {y_FURTHER_WORDS_0 : Array Value} {m_FURTHER_WORDS_0 : Nat} (x_FURTHER_WORDS_0 : PySem.W.nsIn K d_FURTHER_WORDS "move" = some (some (.ref p_FURTHER_WORDS_0))) (e_FURTHER_WORDS_0 : K.lookup p_FURTHER_WORDS_0 = some ⟨.type "tuple", o_FURTHER_WORDS_0, .seq y_FURTHER_WORDS_0 m_FURTHER_WORDS_0, s_FURTHER_WORDS_0⟩) (w_FURTHER_WORDS_0 : y_FURTHER_WORDS_0.size ≤ sizeLine) (q_FURTHER_WORDS_0 : Vals ((["move", "put"] : List Str).map V.str) y_FURTHER_WORDS_0.toList)
    {p_FURTHER_WORDS_1 : Addr} {o_FURTHER_WORDS_1 : Option Addr} {s_FURTHER_WORDS_1 : Array (Option Value)} {y_FURTHER_WORDS_1 : Array Value} {m_FURTHER_WORDS_1 : Nat} (x_FURTHER_WORDS_1 : PySem.W.nsIn K d_FURTHER_WORDS "cut" = some (some (.ref p_FURTHER_WORDS_1))) (e_FURTHER_WORDS_1 : K.lookup p_FURTHER_WORDS_1 = some ⟨.type "tuple", o_FURTHER_WORDS_1, .seq y_FURTHER_WORDS_1 m_FURTHER_WORDS_1, s_FURTHER_WORDS_1⟩) (w_FURTHER_WORDS_1 : y_FURTHER_WORDS_1.size ≤ sizeLine) (q_FURTHER_WORDS_1 : Vals ((["cut", "put"] : List Str).map V.str) y_FURTHER_WORDS_1.toList)
    {p_FURTHER_WORDS_2 : Addr} {o_FURTHER_WORDS_2 : Option Addr} {s_FURTHER_WORDS_2 : Array (Option Value)} {y_FURTHER_WORDS_2 : Array Value} {m_FURTHER_WORDS_2 : Nat} (x_FURTHER_WORDS_2 : PySem.W.nsIn K d_FURTHER_WORDS "flip" = some (some (.ref p_FURTHER_WORDS_2))) (e_FURTHER_WORDS_2 : K.lookup p_FURTHER_WORDS_2 = some ⟨.type "tuple", o_FURTHER_WORDS_2, .seq y_FURTHER_WORDS_2 m_FURTHER_WORDS_2, s_FURTHER_WORDS_2⟩) (w_FURTHER_WORDS_2 : y_FURTHER_WORDS_2.size ≤ sizeLine) (q_FURTHER_WORDS_2 : Vals ((["flip", "put"] : List Str).map V.str) y_FURTHER_WORDS_2.toList)
    {p_FURTHER_WORDS_3 : Addr} {o_FURTHER_WORDS_3 : Option Addr} {s_FURTHER_WORDS_3 : Array (Option Value)} {y_FURTHER_WORDS_3 : Array Value} {m_FURTHER_WORDS_3 : Nat} (x_FURTHER_WORDS_3 : PySem.W.nsIn K d_FURTHER_WORDS "turned" = some (some (.ref p_FURTHER_WORDS_3))) (e_FURTHER_WORDS_3 : K.lookup p_FURTHER_WORDS_3 = some ⟨.type "tuple", o_FURTHER_WORDS_3, .seq y_FURTHER_WORDS_3 m_FURTHER_WORDS_3, s_FURTHER_WORDS_3⟩) (w_FURTHER_WORDS_3 : y_FURTHER_WORDS_3.size ≤ sizeLine) (q_FURTHER_WORDS_3 : Vals ((["change", "put"] : List Str).map V.str) y_FURTHER_WORDS_3.toList)
    {d_TOLD_LETTERS : Addr} {es_TOLD_LETTERS : Array DictEntry} {n_TOLD_LETTERS : Nat} (g_TOLD_LETTERS : PySem.W.nsIn K mainGlobals "TOLD_LETTERS" = some (some (.ref d_TOLD_LETTERS))) (h_TOLD_LETTERS : K.lookup d_TOLD_LETTERS = some ⟨.type "dict", none, .dict es_TOLD_LETTERS n_TOLD_LETTERS, #[]⟩) (i_TOLD_LETTERS : PySem.W.KeysLit w.params es_TOLD_LETTERS.toList) (j_TOLD_LETTERS : (d_TOLD_LETTERS == sysModules) = false)
    {t_TOLD_LETTERS_0 : Tok} (x_TOLD_LETTERS_0 : PySem.W.nsIn K d_TOLD_LETTERS "put" = some (some (.int 1 t_TOLD_LETTERS_0)))
    {t_TOLD_LETTERS_1 : Tok} (x_TOLD_LETTERS_1 : PySem.W.nsIn K d_TOLD_LETTERS "move" = some (some (.int 1 t_TOLD_LETTERS_1)))
    {t_TOLD_LETTERS_2 : Tok} (x_TOLD_LETTERS_2 : PySem.W.nsIn K d_TOLD_LETTERS "cut" = some (some (.int 0 t_TOLD_LETTERS_2)))
    {t_TOLD_LETTERS_3 : Tok} (x_TOLD_LETTERS_3 : PySem.W.nsIn K d_TOLD_LETTERS "flip" = some (some (.int 0 t_TOLD_LETTERS_3)))
    {t_TOLD_LETTERS_4 : Tok} (x_TOLD_LETTERS_4 : PySem.W.nsIn K d_TOLD_LETTERS "change" = some (some (.int 2 t_TOLD_LETTERS_4)))
    {p_JOINING : Addr} {o_JOINING : Option Addr} {s_JOINING : Array (Option Value)} {y_JOINING : Array Value} {m_JOINING : Nat} (x_JOINING : PySem.W.nsIn K mainGlobals "JOINING" = some (some (.ref p_JOINING))) (e_JOINING : K.lookup p_JOINING = some ⟨.type "tuple", o_JOINING, .seq y_JOINING m_JOINING, s_JOINING⟩) (w_JOINING : y_JOINING.size ≤ sizeLine) (q_JOINING : Vals ((["and", "or"] : List Str).map V.str) y_JOINING.toList)
    {p_WORDED : Addr} {o_WORDED : Option Addr} {s_WORDED : Array (Option Value)} {y_WORDED : Array Value} {m_WORDED : Nat} (x_WORDED : PySem.W.nsIn K mainGlobals "WORDED" = some (some (.ref p_WORDED))) (e_WORDED : K.lookup p_WORDED = some ⟨.type "tuple", o_WORDED, .seq y_WORDED m_WORDED, s_WORDED⟩) (w_WORDED : y_WORDED.size ≤ sizeLine) (q_WORDED : Vals ((["begins", "ends", "holds", "repeats"] : List Str).map V.str) y_WORDED.toList)
    (p_permutations : PySem.W.nsIn K mainGlobals "permutations" = some (some (.type "itertools.permutations")))
    {C_Answerable : Addr} (xg_Answerable : PySem.W.nsIn K mainGlobals "Answerable" = some (some (.ref C_Answerable)))
    {C_BadAsk : Addr} (xg_BadAsk : PySem.W.nsIn K mainGlobals "BadAsk" = some (some (.ref C_BadAsk)))
    {C_BadEdits : Addr} (xg_BadEdits : PySem.W.nsIn K mainGlobals "BadEdits" = some (some (.ref C_BadEdits)))
    {C_BadKeeper : Addr} (xg_BadKeeper : PySem.W.nsIn K mainGlobals "BadKeeper" = some (some (.ref C_BadKeeper)))
    {C_BadMessages : Addr} (xg_BadMessages : PySem.W.nsIn K mainGlobals "BadMessages" = some (some (.ref C_BadMessages)))
    {C_BadNumber : Addr} (xg_BadNumber : PySem.W.nsIn K mainGlobals "BadNumber" = some (some (.ref C_BadNumber)))
    {C_BadQuestion : Addr} (xg_BadQuestion : PySem.W.nsIn K mainGlobals "BadQuestion" = some (some (.ref C_BadQuestion)))
    {C_BadString : Addr} (xg_BadString : PySem.W.nsIn K mainGlobals "BadString" = some (some (.ref C_BadString)))
    {C_BadText : Addr} (xg_BadText : PySem.W.nsIn K mainGlobals "BadText" = some (some (.ref C_BadText)))
    {C_BadWorld : Addr} (xg_BadWorld : PySem.W.nsIn K mainGlobals "BadWorld" = some (some (.ref C_BadWorld)))
    {C_KeeperError : Addr} (xg_KeeperError : PySem.W.nsIn K mainGlobals "KeeperError" = some (some (.ref C_KeeperError)))
    {C_NoKeeper : Addr} (xg_NoKeeper : PySem.W.nsIn K mainGlobals "NoKeeper" = some (some (.ref C_NoKeeper)))
    (x3_Answerable : PySem.W.subIn K (.ref C_Answerable) (.type "BaseException") = some true)
    (x4_Answerable : PySem.W.hasDictIn K C_Answerable = true)
    (xy_Answerable : PySem.W.typeIn K (.ref C_Answerable) = some (.type "type"))
    (xd_Answerable : PySem.W.subIn K (.ref C_Answerable) (.ref C_Answerable) = some true)
    (x3_BadAsk : PySem.W.subIn K (.ref C_BadAsk) (.type "BaseException") = some true)
    (x4_BadAsk : PySem.W.hasDictIn K C_BadAsk = true)
    (xy_BadAsk : PySem.W.typeIn K (.ref C_BadAsk) = some (.type "type"))
    (xd_BadAsk : PySem.W.subIn K (.ref C_BadAsk) (.ref C_BadAsk) = some true)
    (x3_BadEdits : PySem.W.subIn K (.ref C_BadEdits) (.type "BaseException") = some true)
    (x4_BadEdits : PySem.W.hasDictIn K C_BadEdits = true)
    (xy_BadEdits : PySem.W.typeIn K (.ref C_BadEdits) = some (.type "type"))
    (xd_BadEdits : PySem.W.subIn K (.ref C_BadEdits) (.ref C_BadEdits) = some true)
    (x3_BadKeeper : PySem.W.subIn K (.ref C_BadKeeper) (.type "BaseException") = some true)
    (x4_BadKeeper : PySem.W.hasDictIn K C_BadKeeper = true)
    (xy_BadKeeper : PySem.W.typeIn K (.ref C_BadKeeper) = some (.type "type"))
    (xd_BadKeeper : PySem.W.subIn K (.ref C_BadKeeper) (.ref C_BadKeeper) = some true)
    (x3_BadMessages : PySem.W.subIn K (.ref C_BadMessages) (.type "BaseException") = some true)
    (x4_BadMessages : PySem.W.hasDictIn K C_BadMessages = true)
    (xy_BadMessages : PySem.W.typeIn K (.ref C_BadMessages) = some (.type "type"))
    (xd_BadMessages : PySem.W.subIn K (.ref C_BadMessages) (.ref C_BadMessages) = some true)
    (x3_BadNumber : PySem.W.subIn K (.ref C_BadNumber) (.type "BaseException") = some true)
    (x4_BadNumber : PySem.W.hasDictIn K C_BadNumber = true)
    (xy_BadNumber : PySem.W.typeIn K (.ref C_BadNumber) = some (.type "type"))
    (xd_BadNumber : PySem.W.subIn K (.ref C_BadNumber) (.ref C_BadNumber) = some true)
    (x3_BadQuestion : PySem.W.subIn K (.ref C_BadQuestion) (.type "BaseException") = some true)
    (x4_BadQuestion : PySem.W.hasDictIn K C_BadQuestion = true)
    (xy_BadQuestion : PySem.W.typeIn K (.ref C_BadQuestion) = some (.type "type"))
    (xd_BadQuestion : PySem.W.subIn K (.ref C_BadQuestion) (.ref C_BadQuestion) = some true)
    (x3_BadString : PySem.W.subIn K (.ref C_BadString) (.type "BaseException") = some true)
    (x4_BadString : PySem.W.hasDictIn K C_BadString = true)
    (xy_BadString : PySem.W.typeIn K (.ref C_BadString) = some (.type "type"))
    (xd_BadString : PySem.W.subIn K (.ref C_BadString) (.ref C_BadString) = some true)
    (x3_BadText : PySem.W.subIn K (.ref C_BadText) (.type "BaseException") = some true)
    (x4_BadText : PySem.W.hasDictIn K C_BadText = true)
    (xy_BadText : PySem.W.typeIn K (.ref C_BadText) = some (.type "type"))
    (xd_BadText : PySem.W.subIn K (.ref C_BadText) (.ref C_BadText) = some true)
    (x3_BadWorld : PySem.W.subIn K (.ref C_BadWorld) (.type "BaseException") = some true)
    (x4_BadWorld : PySem.W.hasDictIn K C_BadWorld = true)
    (xy_BadWorld : PySem.W.typeIn K (.ref C_BadWorld) = some (.type "type"))
    (xd_BadWorld : PySem.W.subIn K (.ref C_BadWorld) (.ref C_BadWorld) = some true)
    (x3_KeeperError : PySem.W.subIn K (.ref C_KeeperError) (.type "BaseException") = some true)
    (x4_KeeperError : PySem.W.hasDictIn K C_KeeperError = true)
    (xy_KeeperError : PySem.W.typeIn K (.ref C_KeeperError) = some (.type "type"))
    (x3_NoKeeper : PySem.W.subIn K (.ref C_NoKeeper) (.type "BaseException") = some true)
    (x4_NoKeeper : PySem.W.hasDictIn K C_NoKeeper = true)
    (xy_NoKeeper : PySem.W.typeIn K (.ref C_NoKeeper) = some (.type "type"))
    (xd_NoKeeper : PySem.W.subIn K (.ref C_NoKeeper) (.ref C_NoKeeper) = some true)
    (xn_BadQuestion_Answerable : PySem.W.subIn K (.ref C_BadQuestion) (.ref C_Answerable) = some false)
    (xn_BadQuestion_BadAsk : PySem.W.subIn K (.ref C_BadQuestion) (.ref C_BadAsk) = some false)
    (xn_BadQuestion_BadEdits : PySem.W.subIn K (.ref C_BadQuestion) (.ref C_BadEdits) = some false)
    (xn_BadQuestion_BadKeeper : PySem.W.subIn K (.ref C_BadQuestion) (.ref C_BadKeeper) = some false)
    (xn_BadQuestion_BadMessages : PySem.W.subIn K (.ref C_BadQuestion) (.ref C_BadMessages) = some false)
    (xn_BadQuestion_BadNumber : PySem.W.subIn K (.ref C_BadQuestion) (.ref C_BadNumber) = some false)
    (xn_BadQuestion_BadQuestion : PySem.W.subIn K (.ref C_BadQuestion) (.ref C_BadQuestion) = some true)
    (xn_BadQuestion_BadString : PySem.W.subIn K (.ref C_BadQuestion) (.ref C_BadString) = some false)
    (xn_BadQuestion_BadText : PySem.W.subIn K (.ref C_BadQuestion) (.ref C_BadText) = some false)
    (xn_BadQuestion_BadWorld : PySem.W.subIn K (.ref C_BadQuestion) (.ref C_BadWorld) = some false)
    (xn_BadQuestion_KeeperError : PySem.W.subIn K (.ref C_BadQuestion) (.ref C_KeeperError) = some true)
    (xn_BadQuestion_NoKeeper : PySem.W.subIn K (.ref C_BadQuestion) (.ref C_NoKeeper) = some false)
    (x1_BadQuestion : PySem.W.findIn K (.ref C_BadQuestion) "__getattribute__" = some (some (.builtin "BaseException.__getattribute__")))
    (x2_BadQuestion : PySem.W.findIn K (.ref C_BadQuestion) "__getattr__" = some none)
    (x5_BadQuestion : PySem.W.findIn K (.ref C_BadQuestion) "__class__" = some (some (.builtin "object.__class__")))
    (x8_BadQuestion : PySem.W.mroIn K C_BadQuestion (.type "object") = some true)
    (xk_BadQuestion : PySem.W.keepIn K (.ref C_BadQuestion) = true)
    (xf_BadQuestion_part : PySem.W.findIn K (.ref C_BadQuestion) "part" = some none)
    {nm_BadQuestion q_BadQuestion : Str} {N_BadQuestion : Addr} {bs_BadQuestion bm_BadQuestion : List Value} {sn_BadQuestion : List Str} {sub_BadQuestion : List Value} {ab_BadQuestion : Bool} {col_BadQuestion : Option Bool} {dd_BadQuestion : Option Addr} {k0_BadQuestion k1_BadQuestion k2_BadQuestion k3_BadQuestion k5_BadQuestion : Option Value} (xl_BadQuestion : K.lookup C_BadQuestion = some (excClassObj nm_BadQuestion q_BadQuestion C_BadQuestion N_BadQuestion bs_BadQuestion bm_BadQuestion true sn_BadQuestion sub_BadQuestion ab_BadQuestion col_BadQuestion dd_BadQuestion k0_BadQuestion k1_BadQuestion k2_BadQuestion k3_BadQuestion k5_BadQuestion "ValueError.__new__"))
    (xr_BadQuestion : PySem.HandSPX.refsVE bm_BadQuestion = true)
    (xs_BadQuestion : PySem.W.findIn K (.ref C_BadQuestion) "__setattr__" = some (some (.builtin "object.__setattr__")))
    {fI_BadQuestion : Addr} (xi_BadQuestion : PySem.W.findIn K (.ref C_BadQuestion) "__init__" = some (some (.ref fI_BadQuestion)))
    (xj_BadQuestion : PySem.W.typeIn K (.ref fI_BadQuestion) = some (.type "function"))
    {oc_iBadQuestion kV_iBadQuestion dc_iBadQuestion pm_iBadQuestion ct_iBadQuestion : Value} {od_iBadQuestion an_iBadQuestion : Option Addr} {sl_iBadQuestion : Array (Option Value)} {cd_iBadQuestion cc_iBadQuestion : Addr} (xL_BadQuestion : K.lookup fI_BadQuestion = some ⟨oc_iBadQuestion, od_iBadQuestion, .func (PySem.W.ksFn "__init__" "BadQuestion.__init__" (defArgs (clsAt (topS 3) 0)) (defBody (clsAt (topS 3) 0)) (defScope (clsAt (topS 3) 0)) .none kV_iBadQuestion dc_iBadQuestion pm_iBadQuestion an_iBadQuestion (.ref cd_iBadQuestion) ct_iBadQuestion cc_iBadQuestion), sl_iBadQuestion⟩)
    (xc_BadQuestion : PySem.W.codeIn K (.ref cd_iBadQuestion) "BadQuestion.__init__" = true)
    {cl_iBadQuestion : Value} {cz_iBadQuestion : Option Addr} {cs_iBadQuestion : Array (Option Value)} (xo_BadQuestion : K.lookup cc_iBadQuestion = some ⟨cl_iBadQuestion, cz_iBadQuestion, .cell (some (.ref C_BadQuestion)), cs_iBadQuestion⟩)
    {co_iBadQuestion : Value} {cy_iBadQuestion : Option Addr} {cv_iBadQuestion : Array Value} {ce_iBadQuestion : Array (Option Value)} (xp_BadQuestion : K.lookup cd_iBadQuestion = some ⟨co_iBadQuestion, cy_iBadQuestion, .fields cv_iBadQuestion, ce_iBadQuestion⟩)
    {file_iBadQuestion : Str} {tf_iBadQuestion : Tok} (xq_BadQuestion : cv_iBadQuestion[2]? = some (.str file_iBadQuestion tf_iBadQuestion))
    (xw_BadQuestion : ((l.prog.main.file : Str) == file_iBadQuestion) = true)
    (xb_BadQuestion : PySem.W.mroIn K C_BadQuestion (.ref C_BadQuestion) = some true)
    (xu_BadQuestion : PySem.W.ks_superIn K C_BadQuestion C_BadQuestion "__init__" = some (some (.builtin "ValueError.__init__")))
    (xv_BadQuestion : PySem.W.subIn K (.ref C_BadQuestion) (.type "ValueError") = some true)
    (xn_BadNumber_Answerable : PySem.W.subIn K (.ref C_BadNumber) (.ref C_Answerable) = some false)
    (xn_BadNumber_BadAsk : PySem.W.subIn K (.ref C_BadNumber) (.ref C_BadAsk) = some false)
    (xn_BadNumber_BadEdits : PySem.W.subIn K (.ref C_BadNumber) (.ref C_BadEdits) = some false)
    (xn_BadNumber_BadKeeper : PySem.W.subIn K (.ref C_BadNumber) (.ref C_BadKeeper) = some false)
    (xn_BadNumber_BadMessages : PySem.W.subIn K (.ref C_BadNumber) (.ref C_BadMessages) = some false)
    (xn_BadNumber_BadNumber : PySem.W.subIn K (.ref C_BadNumber) (.ref C_BadNumber) = some true)
    (xn_BadNumber_BadQuestion : PySem.W.subIn K (.ref C_BadNumber) (.ref C_BadQuestion) = some false)
    (xn_BadNumber_BadString : PySem.W.subIn K (.ref C_BadNumber) (.ref C_BadString) = some false)
    (xn_BadNumber_BadText : PySem.W.subIn K (.ref C_BadNumber) (.ref C_BadText) = some false)
    (xn_BadNumber_BadWorld : PySem.W.subIn K (.ref C_BadNumber) (.ref C_BadWorld) = some false)
    (xn_BadNumber_KeeperError : PySem.W.subIn K (.ref C_BadNumber) (.ref C_KeeperError) = some true)
    (xn_BadNumber_NoKeeper : PySem.W.subIn K (.ref C_BadNumber) (.ref C_NoKeeper) = some false)
    (x1_BadNumber : PySem.W.findIn K (.ref C_BadNumber) "__getattribute__" = some (some (.builtin "BaseException.__getattribute__")))
    (x2_BadNumber : PySem.W.findIn K (.ref C_BadNumber) "__getattr__" = some none)
    (x5_BadNumber : PySem.W.findIn K (.ref C_BadNumber) "__class__" = some (some (.builtin "object.__class__")))
    (x8_BadNumber : PySem.W.mroIn K C_BadNumber (.type "object") = some true)
    (xk_BadNumber : PySem.W.keepIn K (.ref C_BadNumber) = true)
    (xe_BadNumber : PySem.W.excIn K C_BadNumber veL "ValueError.__new__" = true)
    (xn_BadEdits_Answerable : PySem.W.subIn K (.ref C_BadEdits) (.ref C_Answerable) = some false)
    (xn_BadEdits_BadAsk : PySem.W.subIn K (.ref C_BadEdits) (.ref C_BadAsk) = some false)
    (xn_BadEdits_BadEdits : PySem.W.subIn K (.ref C_BadEdits) (.ref C_BadEdits) = some true)
    (xn_BadEdits_BadKeeper : PySem.W.subIn K (.ref C_BadEdits) (.ref C_BadKeeper) = some false)
    (xn_BadEdits_BadMessages : PySem.W.subIn K (.ref C_BadEdits) (.ref C_BadMessages) = some false)
    (xn_BadEdits_BadNumber : PySem.W.subIn K (.ref C_BadEdits) (.ref C_BadNumber) = some false)
    (xn_BadEdits_BadQuestion : PySem.W.subIn K (.ref C_BadEdits) (.ref C_BadQuestion) = some false)
    (xn_BadEdits_BadString : PySem.W.subIn K (.ref C_BadEdits) (.ref C_BadString) = some false)
    (xn_BadEdits_BadText : PySem.W.subIn K (.ref C_BadEdits) (.ref C_BadText) = some false)
    (xn_BadEdits_BadWorld : PySem.W.subIn K (.ref C_BadEdits) (.ref C_BadWorld) = some false)
    (xn_BadEdits_KeeperError : PySem.W.subIn K (.ref C_BadEdits) (.ref C_KeeperError) = some true)
    (xn_BadEdits_NoKeeper : PySem.W.subIn K (.ref C_BadEdits) (.ref C_NoKeeper) = some false)
    (x1_BadEdits : PySem.W.findIn K (.ref C_BadEdits) "__getattribute__" = some (some (.builtin "BaseException.__getattribute__")))
    (x2_BadEdits : PySem.W.findIn K (.ref C_BadEdits) "__getattr__" = some none)
    (x5_BadEdits : PySem.W.findIn K (.ref C_BadEdits) "__class__" = some (some (.builtin "object.__class__")))
    (x8_BadEdits : PySem.W.mroIn K C_BadEdits (.type "object") = some true)
    (xk_BadEdits : PySem.W.keepIn K (.ref C_BadEdits) = true)
    (xf_BadEdits_index : PySem.W.findIn K (.ref C_BadEdits) "index" = some none)
    {nm_BadEdits q_BadEdits : Str} {N_BadEdits : Addr} {bs_BadEdits bm_BadEdits : List Value} {sn_BadEdits : List Str} {sub_BadEdits : List Value} {ab_BadEdits : Bool} {col_BadEdits : Option Bool} {dd_BadEdits : Option Addr} {k0_BadEdits k1_BadEdits k2_BadEdits k3_BadEdits k5_BadEdits : Option Value} (xl_BadEdits : K.lookup C_BadEdits = some (excClassObj nm_BadEdits q_BadEdits C_BadEdits N_BadEdits bs_BadEdits bm_BadEdits true sn_BadEdits sub_BadEdits ab_BadEdits col_BadEdits dd_BadEdits k0_BadEdits k1_BadEdits k2_BadEdits k3_BadEdits k5_BadEdits "ValueError.__new__"))
    (xr_BadEdits : PySem.HandSPX.refsVE bm_BadEdits = true)
    (xs_BadEdits : PySem.W.findIn K (.ref C_BadEdits) "__setattr__" = some (some (.builtin "object.__setattr__")))
    {fI_BadEdits : Addr} (xi_BadEdits : PySem.W.findIn K (.ref C_BadEdits) "__init__" = some (some (.ref fI_BadEdits)))
    (xj_BadEdits : PySem.W.typeIn K (.ref fI_BadEdits) = some (.type "function"))
    {oc_iBadEdits kV_iBadEdits dc_iBadEdits pm_iBadEdits ct_iBadEdits : Value} {od_iBadEdits an_iBadEdits : Option Addr} {sl_iBadEdits : Array (Option Value)} {cd_iBadEdits cc_iBadEdits : Addr} (xL_BadEdits : K.lookup fI_BadEdits = some ⟨oc_iBadEdits, od_iBadEdits, .func (PySem.W.ksFn "__init__" "BadEdits.__init__" (defArgs (clsAt (topS 6) 0)) (defBody (clsAt (topS 6) 0)) (defScope (clsAt (topS 6) 0)) .none kV_iBadEdits dc_iBadEdits pm_iBadEdits an_iBadEdits (.ref cd_iBadEdits) ct_iBadEdits cc_iBadEdits), sl_iBadEdits⟩)
    (xc_BadEdits : PySem.W.codeIn K (.ref cd_iBadEdits) "BadEdits.__init__" = true)
    {cl_iBadEdits : Value} {cz_iBadEdits : Option Addr} {cs_iBadEdits : Array (Option Value)} (xo_BadEdits : K.lookup cc_iBadEdits = some ⟨cl_iBadEdits, cz_iBadEdits, .cell (some (.ref C_BadEdits)), cs_iBadEdits⟩)
    {co_iBadEdits : Value} {cy_iBadEdits : Option Addr} {cv_iBadEdits : Array Value} {ce_iBadEdits : Array (Option Value)} (xp_BadEdits : K.lookup cd_iBadEdits = some ⟨co_iBadEdits, cy_iBadEdits, .fields cv_iBadEdits, ce_iBadEdits⟩)
    {file_iBadEdits : Str} {tf_iBadEdits : Tok} (xq_BadEdits : cv_iBadEdits[2]? = some (.str file_iBadEdits tf_iBadEdits))
    (xw_BadEdits : ((l.prog.main.file : Str) == file_iBadEdits) = true)
    (xb_BadEdits : PySem.W.mroIn K C_BadEdits (.ref C_BadEdits) = some true)
    (xu_BadEdits : PySem.W.ks_superIn K C_BadEdits C_BadEdits "__init__" = some (some (.builtin "ValueError.__init__")))
    (xv_BadEdits : PySem.W.subIn K (.ref C_BadEdits) (.type "ValueError") = some true)
    (xn_BadString_Answerable : PySem.W.subIn K (.ref C_BadString) (.ref C_Answerable) = some false)
    (xn_BadString_BadAsk : PySem.W.subIn K (.ref C_BadString) (.ref C_BadAsk) = some false)
    (xn_BadString_BadEdits : PySem.W.subIn K (.ref C_BadString) (.ref C_BadEdits) = some false)
    (xn_BadString_BadKeeper : PySem.W.subIn K (.ref C_BadString) (.ref C_BadKeeper) = some false)
    (xn_BadString_BadMessages : PySem.W.subIn K (.ref C_BadString) (.ref C_BadMessages) = some false)
    (xn_BadString_BadNumber : PySem.W.subIn K (.ref C_BadString) (.ref C_BadNumber) = some false)
    (xn_BadString_BadQuestion : PySem.W.subIn K (.ref C_BadString) (.ref C_BadQuestion) = some false)
    (xn_BadString_BadString : PySem.W.subIn K (.ref C_BadString) (.ref C_BadString) = some true)
    (xn_BadString_BadText : PySem.W.subIn K (.ref C_BadString) (.ref C_BadText) = some false)
    (xn_BadString_BadWorld : PySem.W.subIn K (.ref C_BadString) (.ref C_BadWorld) = some false)
    (xn_BadString_KeeperError : PySem.W.subIn K (.ref C_BadString) (.ref C_KeeperError) = some true)
    (xn_BadString_NoKeeper : PySem.W.subIn K (.ref C_BadString) (.ref C_NoKeeper) = some false)
    (x1_BadString : PySem.W.findIn K (.ref C_BadString) "__getattribute__" = some (some (.builtin "BaseException.__getattribute__")))
    (x2_BadString : PySem.W.findIn K (.ref C_BadString) "__getattr__" = some none)
    (x5_BadString : PySem.W.findIn K (.ref C_BadString) "__class__" = some (some (.builtin "object.__class__")))
    (x8_BadString : PySem.W.mroIn K C_BadString (.type "object") = some true)
    (xk_BadString : PySem.W.keepIn K (.ref C_BadString) = true)
    (xe_BadString : PySem.W.excIn K C_BadString veL "ValueError.__new__" = true)
    (xn_BadKeeper_Answerable : PySem.W.subIn K (.ref C_BadKeeper) (.ref C_Answerable) = some false)
    (xn_BadKeeper_BadAsk : PySem.W.subIn K (.ref C_BadKeeper) (.ref C_BadAsk) = some false)
    (xn_BadKeeper_BadEdits : PySem.W.subIn K (.ref C_BadKeeper) (.ref C_BadEdits) = some false)
    (xn_BadKeeper_BadKeeper : PySem.W.subIn K (.ref C_BadKeeper) (.ref C_BadKeeper) = some true)
    (xn_BadKeeper_BadMessages : PySem.W.subIn K (.ref C_BadKeeper) (.ref C_BadMessages) = some false)
    (xn_BadKeeper_BadNumber : PySem.W.subIn K (.ref C_BadKeeper) (.ref C_BadNumber) = some false)
    (xn_BadKeeper_BadQuestion : PySem.W.subIn K (.ref C_BadKeeper) (.ref C_BadQuestion) = some false)
    (xn_BadKeeper_BadString : PySem.W.subIn K (.ref C_BadKeeper) (.ref C_BadString) = some false)
    (xn_BadKeeper_BadText : PySem.W.subIn K (.ref C_BadKeeper) (.ref C_BadText) = some false)
    (xn_BadKeeper_BadWorld : PySem.W.subIn K (.ref C_BadKeeper) (.ref C_BadWorld) = some false)
    (xn_BadKeeper_KeeperError : PySem.W.subIn K (.ref C_BadKeeper) (.ref C_KeeperError) = some true)
    (xn_BadKeeper_NoKeeper : PySem.W.subIn K (.ref C_BadKeeper) (.ref C_NoKeeper) = some false)
    (x1_BadKeeper : PySem.W.findIn K (.ref C_BadKeeper) "__getattribute__" = some (some (.builtin "BaseException.__getattribute__")))
    (x2_BadKeeper : PySem.W.findIn K (.ref C_BadKeeper) "__getattr__" = some none)
    (x5_BadKeeper : PySem.W.findIn K (.ref C_BadKeeper) "__class__" = some (some (.builtin "object.__class__")))
    (x8_BadKeeper : PySem.W.mroIn K C_BadKeeper (.type "object") = some true)
    (xk_BadKeeper : PySem.W.keepIn K (.ref C_BadKeeper) = true)
    (xf_BadKeeper_index : PySem.W.findIn K (.ref C_BadKeeper) "index" = some none)
    {nm_BadKeeper q_BadKeeper : Str} {N_BadKeeper : Addr} {bs_BadKeeper bm_BadKeeper : List Value} {sn_BadKeeper : List Str} {sub_BadKeeper : List Value} {ab_BadKeeper : Bool} {col_BadKeeper : Option Bool} {dd_BadKeeper : Option Addr} {k0_BadKeeper k1_BadKeeper k2_BadKeeper k3_BadKeeper k5_BadKeeper : Option Value} (xl_BadKeeper : K.lookup C_BadKeeper = some (excClassObj nm_BadKeeper q_BadKeeper C_BadKeeper N_BadKeeper bs_BadKeeper bm_BadKeeper true sn_BadKeeper sub_BadKeeper ab_BadKeeper col_BadKeeper dd_BadKeeper k0_BadKeeper k1_BadKeeper k2_BadKeeper k3_BadKeeper k5_BadKeeper "ValueError.__new__"))
    (xr_BadKeeper : PySem.HandSPX.refsVE bm_BadKeeper = true)
    (xs_BadKeeper : PySem.W.findIn K (.ref C_BadKeeper) "__setattr__" = some (some (.builtin "object.__setattr__")))
    {fI_BadKeeper : Addr} (xi_BadKeeper : PySem.W.findIn K (.ref C_BadKeeper) "__init__" = some (some (.ref fI_BadKeeper)))
    (xj_BadKeeper : PySem.W.typeIn K (.ref fI_BadKeeper) = some (.type "function"))
    {oc_iBadKeeper kV_iBadKeeper dc_iBadKeeper pm_iBadKeeper ct_iBadKeeper : Value} {od_iBadKeeper an_iBadKeeper : Option Addr} {sl_iBadKeeper : Array (Option Value)} {cd_iBadKeeper cc_iBadKeeper : Addr} (xL_BadKeeper : K.lookup fI_BadKeeper = some ⟨oc_iBadKeeper, od_iBadKeeper, .func (PySem.W.ksFn "__init__" "BadKeeper.__init__" (defArgs (clsAt (topS 8) 0)) (defBody (clsAt (topS 8) 0)) (defScope (clsAt (topS 8) 0)) .none kV_iBadKeeper dc_iBadKeeper pm_iBadKeeper an_iBadKeeper (.ref cd_iBadKeeper) ct_iBadKeeper cc_iBadKeeper), sl_iBadKeeper⟩)
    (xc_BadKeeper : PySem.W.codeIn K (.ref cd_iBadKeeper) "BadKeeper.__init__" = true)
    {cl_iBadKeeper : Value} {cz_iBadKeeper : Option Addr} {cs_iBadKeeper : Array (Option Value)} (xo_BadKeeper : K.lookup cc_iBadKeeper = some ⟨cl_iBadKeeper, cz_iBadKeeper, .cell (some (.ref C_BadKeeper)), cs_iBadKeeper⟩)
    {co_iBadKeeper : Value} {cy_iBadKeeper : Option Addr} {cv_iBadKeeper : Array Value} {ce_iBadKeeper : Array (Option Value)} (xp_BadKeeper : K.lookup cd_iBadKeeper = some ⟨co_iBadKeeper, cy_iBadKeeper, .fields cv_iBadKeeper, ce_iBadKeeper⟩)
    {file_iBadKeeper : Str} {tf_iBadKeeper : Tok} (xq_BadKeeper : cv_iBadKeeper[2]? = some (.str file_iBadKeeper tf_iBadKeeper))
    (xw_BadKeeper : ((l.prog.main.file : Str) == file_iBadKeeper) = true)
    (xb_BadKeeper : PySem.W.mroIn K C_BadKeeper (.ref C_BadKeeper) = some true)
    (xu_BadKeeper : PySem.W.ks_superIn K C_BadKeeper C_BadKeeper "__init__" = some (some (.builtin "ValueError.__init__")))
    (xv_BadKeeper : PySem.W.subIn K (.ref C_BadKeeper) (.type "ValueError") = some true)
    (xn_BadMessages_Answerable : PySem.W.subIn K (.ref C_BadMessages) (.ref C_Answerable) = some false)
    (xn_BadMessages_BadAsk : PySem.W.subIn K (.ref C_BadMessages) (.ref C_BadAsk) = some false)
    (xn_BadMessages_BadEdits : PySem.W.subIn K (.ref C_BadMessages) (.ref C_BadEdits) = some false)
    (xn_BadMessages_BadKeeper : PySem.W.subIn K (.ref C_BadMessages) (.ref C_BadKeeper) = some false)
    (xn_BadMessages_BadMessages : PySem.W.subIn K (.ref C_BadMessages) (.ref C_BadMessages) = some true)
    (xn_BadMessages_BadNumber : PySem.W.subIn K (.ref C_BadMessages) (.ref C_BadNumber) = some false)
    (xn_BadMessages_BadQuestion : PySem.W.subIn K (.ref C_BadMessages) (.ref C_BadQuestion) = some false)
    (xn_BadMessages_BadString : PySem.W.subIn K (.ref C_BadMessages) (.ref C_BadString) = some false)
    (xn_BadMessages_BadText : PySem.W.subIn K (.ref C_BadMessages) (.ref C_BadText) = some false)
    (xn_BadMessages_BadWorld : PySem.W.subIn K (.ref C_BadMessages) (.ref C_BadWorld) = some false)
    (xn_BadMessages_KeeperError : PySem.W.subIn K (.ref C_BadMessages) (.ref C_KeeperError) = some true)
    (xn_BadMessages_NoKeeper : PySem.W.subIn K (.ref C_BadMessages) (.ref C_NoKeeper) = some false)
    (x1_BadMessages : PySem.W.findIn K (.ref C_BadMessages) "__getattribute__" = some (some (.builtin "BaseException.__getattribute__")))
    (x2_BadMessages : PySem.W.findIn K (.ref C_BadMessages) "__getattr__" = some none)
    (x5_BadMessages : PySem.W.findIn K (.ref C_BadMessages) "__class__" = some (some (.builtin "object.__class__")))
    (x8_BadMessages : PySem.W.mroIn K C_BadMessages (.type "object") = some true)
    (xk_BadMessages : PySem.W.keepIn K (.ref C_BadMessages) = true)
    (xf_BadMessages_index : PySem.W.findIn K (.ref C_BadMessages) "index" = some none)
    {nm_BadMessages q_BadMessages : Str} {N_BadMessages : Addr} {bs_BadMessages bm_BadMessages : List Value} {sn_BadMessages : List Str} {sub_BadMessages : List Value} {ab_BadMessages : Bool} {col_BadMessages : Option Bool} {dd_BadMessages : Option Addr} {k0_BadMessages k1_BadMessages k2_BadMessages k3_BadMessages k5_BadMessages : Option Value} (xl_BadMessages : K.lookup C_BadMessages = some (excClassObj nm_BadMessages q_BadMessages C_BadMessages N_BadMessages bs_BadMessages bm_BadMessages true sn_BadMessages sub_BadMessages ab_BadMessages col_BadMessages dd_BadMessages k0_BadMessages k1_BadMessages k2_BadMessages k3_BadMessages k5_BadMessages "ValueError.__new__"))
    (xr_BadMessages : PySem.HandSPX.refsVE bm_BadMessages = true)
    (xs_BadMessages : PySem.W.findIn K (.ref C_BadMessages) "__setattr__" = some (some (.builtin "object.__setattr__")))
    {fI_BadMessages : Addr} (xi_BadMessages : PySem.W.findIn K (.ref C_BadMessages) "__init__" = some (some (.ref fI_BadMessages)))
    (xj_BadMessages : PySem.W.typeIn K (.ref fI_BadMessages) = some (.type "function"))
    {oc_iBadMessages kV_iBadMessages dc_iBadMessages pm_iBadMessages ct_iBadMessages : Value} {od_iBadMessages an_iBadMessages : Option Addr} {sl_iBadMessages : Array (Option Value)} {cd_iBadMessages cc_iBadMessages : Addr} (xL_BadMessages : K.lookup fI_BadMessages = some ⟨oc_iBadMessages, od_iBadMessages, .func (PySem.W.ksFn "__init__" "BadMessages.__init__" (defArgs (clsAt (topS 7) 0)) (defBody (clsAt (topS 7) 0)) (defScope (clsAt (topS 7) 0)) .none kV_iBadMessages dc_iBadMessages pm_iBadMessages an_iBadMessages (.ref cd_iBadMessages) ct_iBadMessages cc_iBadMessages), sl_iBadMessages⟩)
    (xc_BadMessages : PySem.W.codeIn K (.ref cd_iBadMessages) "BadMessages.__init__" = true)
    {cl_iBadMessages : Value} {cz_iBadMessages : Option Addr} {cs_iBadMessages : Array (Option Value)} (xo_BadMessages : K.lookup cc_iBadMessages = some ⟨cl_iBadMessages, cz_iBadMessages, .cell (some (.ref C_BadMessages)), cs_iBadMessages⟩)
    {co_iBadMessages : Value} {cy_iBadMessages : Option Addr} {cv_iBadMessages : Array Value} {ce_iBadMessages : Array (Option Value)} (xp_BadMessages : K.lookup cd_iBadMessages = some ⟨co_iBadMessages, cy_iBadMessages, .fields cv_iBadMessages, ce_iBadMessages⟩)
    {file_iBadMessages : Str} {tf_iBadMessages : Tok} (xq_BadMessages : cv_iBadMessages[2]? = some (.str file_iBadMessages tf_iBadMessages))
    (xw_BadMessages : ((l.prog.main.file : Str) == file_iBadMessages) = true)
    (xb_BadMessages : PySem.W.mroIn K C_BadMessages (.ref C_BadMessages) = some true)
    (xu_BadMessages : PySem.W.ks_superIn K C_BadMessages C_BadMessages "__init__" = some (some (.builtin "ValueError.__init__")))
    (xv_BadMessages : PySem.W.subIn K (.ref C_BadMessages) (.type "ValueError") = some true)
    (xn_BadText_Answerable : PySem.W.subIn K (.ref C_BadText) (.ref C_Answerable) = some false)
    (xn_BadText_BadAsk : PySem.W.subIn K (.ref C_BadText) (.ref C_BadAsk) = some false)
    (xn_BadText_BadEdits : PySem.W.subIn K (.ref C_BadText) (.ref C_BadEdits) = some false)
    (xn_BadText_BadKeeper : PySem.W.subIn K (.ref C_BadText) (.ref C_BadKeeper) = some false)
    (xn_BadText_BadMessages : PySem.W.subIn K (.ref C_BadText) (.ref C_BadMessages) = some false)
    (xn_BadText_BadNumber : PySem.W.subIn K (.ref C_BadText) (.ref C_BadNumber) = some false)
    (xn_BadText_BadQuestion : PySem.W.subIn K (.ref C_BadText) (.ref C_BadQuestion) = some false)
    (xn_BadText_BadString : PySem.W.subIn K (.ref C_BadText) (.ref C_BadString) = some false)
    (xn_BadText_BadText : PySem.W.subIn K (.ref C_BadText) (.ref C_BadText) = some true)
    (xn_BadText_BadWorld : PySem.W.subIn K (.ref C_BadText) (.ref C_BadWorld) = some false)
    (xn_BadText_KeeperError : PySem.W.subIn K (.ref C_BadText) (.ref C_KeeperError) = some true)
    (xn_BadText_NoKeeper : PySem.W.subIn K (.ref C_BadText) (.ref C_NoKeeper) = some false)
    (x1_BadText : PySem.W.findIn K (.ref C_BadText) "__getattribute__" = some (some (.builtin "BaseException.__getattribute__")))
    (x2_BadText : PySem.W.findIn K (.ref C_BadText) "__getattr__" = some none)
    (x5_BadText : PySem.W.findIn K (.ref C_BadText) "__class__" = some (some (.builtin "object.__class__")))
    (x8_BadText : PySem.W.mroIn K C_BadText (.type "object") = some true)
    (xk_BadText : PySem.W.keepIn K (.ref C_BadText) = true)
    (xe_BadText : PySem.W.excIn K C_BadText veL "ValueError.__new__" = true)
    (xn_BadAsk_Answerable : PySem.W.subIn K (.ref C_BadAsk) (.ref C_Answerable) = some false)
    (xn_BadAsk_BadAsk : PySem.W.subIn K (.ref C_BadAsk) (.ref C_BadAsk) = some true)
    (xn_BadAsk_BadEdits : PySem.W.subIn K (.ref C_BadAsk) (.ref C_BadEdits) = some false)
    (xn_BadAsk_BadKeeper : PySem.W.subIn K (.ref C_BadAsk) (.ref C_BadKeeper) = some false)
    (xn_BadAsk_BadMessages : PySem.W.subIn K (.ref C_BadAsk) (.ref C_BadMessages) = some false)
    (xn_BadAsk_BadNumber : PySem.W.subIn K (.ref C_BadAsk) (.ref C_BadNumber) = some false)
    (xn_BadAsk_BadQuestion : PySem.W.subIn K (.ref C_BadAsk) (.ref C_BadQuestion) = some false)
    (xn_BadAsk_BadString : PySem.W.subIn K (.ref C_BadAsk) (.ref C_BadString) = some false)
    (xn_BadAsk_BadText : PySem.W.subIn K (.ref C_BadAsk) (.ref C_BadText) = some false)
    (xn_BadAsk_BadWorld : PySem.W.subIn K (.ref C_BadAsk) (.ref C_BadWorld) = some false)
    (xn_BadAsk_KeeperError : PySem.W.subIn K (.ref C_BadAsk) (.ref C_KeeperError) = some true)
    (xn_BadAsk_NoKeeper : PySem.W.subIn K (.ref C_BadAsk) (.ref C_NoKeeper) = some false)
    (x1_BadAsk : PySem.W.findIn K (.ref C_BadAsk) "__getattribute__" = some (some (.builtin "BaseException.__getattribute__")))
    (x2_BadAsk : PySem.W.findIn K (.ref C_BadAsk) "__getattr__" = some none)
    (x5_BadAsk : PySem.W.findIn K (.ref C_BadAsk) "__class__" = some (some (.builtin "object.__class__")))
    (x8_BadAsk : PySem.W.mroIn K C_BadAsk (.type "object") = some true)
    (xk_BadAsk : PySem.W.keepIn K (.ref C_BadAsk) = true)
    (xe_BadAsk : PySem.W.excIn K C_BadAsk veL "ValueError.__new__" = true)
    (xn_BadWorld_Answerable : PySem.W.subIn K (.ref C_BadWorld) (.ref C_Answerable) = some false)
    (xn_BadWorld_BadAsk : PySem.W.subIn K (.ref C_BadWorld) (.ref C_BadAsk) = some false)
    (xn_BadWorld_BadEdits : PySem.W.subIn K (.ref C_BadWorld) (.ref C_BadEdits) = some false)
    (xn_BadWorld_BadKeeper : PySem.W.subIn K (.ref C_BadWorld) (.ref C_BadKeeper) = some false)
    (xn_BadWorld_BadMessages : PySem.W.subIn K (.ref C_BadWorld) (.ref C_BadMessages) = some false)
    (xn_BadWorld_BadNumber : PySem.W.subIn K (.ref C_BadWorld) (.ref C_BadNumber) = some false)
    (xn_BadWorld_BadQuestion : PySem.W.subIn K (.ref C_BadWorld) (.ref C_BadQuestion) = some false)
    (xn_BadWorld_BadString : PySem.W.subIn K (.ref C_BadWorld) (.ref C_BadString) = some false)
    (xn_BadWorld_BadText : PySem.W.subIn K (.ref C_BadWorld) (.ref C_BadText) = some false)
    (xn_BadWorld_BadWorld : PySem.W.subIn K (.ref C_BadWorld) (.ref C_BadWorld) = some true)
    (xn_BadWorld_KeeperError : PySem.W.subIn K (.ref C_BadWorld) (.ref C_KeeperError) = some true)
    (xn_BadWorld_NoKeeper : PySem.W.subIn K (.ref C_BadWorld) (.ref C_NoKeeper) = some false)
    (x1_BadWorld : PySem.W.findIn K (.ref C_BadWorld) "__getattribute__" = some (some (.builtin "BaseException.__getattribute__")))
    (x2_BadWorld : PySem.W.findIn K (.ref C_BadWorld) "__getattr__" = some none)
    (x5_BadWorld : PySem.W.findIn K (.ref C_BadWorld) "__class__" = some (some (.builtin "object.__class__")))
    (x8_BadWorld : PySem.W.mroIn K C_BadWorld (.type "object") = some true)
    (xk_BadWorld : PySem.W.keepIn K (.ref C_BadWorld) = true)
    (xe_BadWorld : PySem.W.excIn K C_BadWorld veL "ValueError.__new__" = true)
    (xn_Answerable_Answerable : PySem.W.subIn K (.ref C_Answerable) (.ref C_Answerable) = some true)
    (xn_Answerable_BadAsk : PySem.W.subIn K (.ref C_Answerable) (.ref C_BadAsk) = some false)
    (xn_Answerable_BadEdits : PySem.W.subIn K (.ref C_Answerable) (.ref C_BadEdits) = some false)
    (xn_Answerable_BadKeeper : PySem.W.subIn K (.ref C_Answerable) (.ref C_BadKeeper) = some false)
    (xn_Answerable_BadMessages : PySem.W.subIn K (.ref C_Answerable) (.ref C_BadMessages) = some false)
    (xn_Answerable_BadNumber : PySem.W.subIn K (.ref C_Answerable) (.ref C_BadNumber) = some false)
    (xn_Answerable_BadQuestion : PySem.W.subIn K (.ref C_Answerable) (.ref C_BadQuestion) = some false)
    (xn_Answerable_BadString : PySem.W.subIn K (.ref C_Answerable) (.ref C_BadString) = some false)
    (xn_Answerable_BadText : PySem.W.subIn K (.ref C_Answerable) (.ref C_BadText) = some false)
    (xn_Answerable_BadWorld : PySem.W.subIn K (.ref C_Answerable) (.ref C_BadWorld) = some false)
    (xn_Answerable_KeeperError : PySem.W.subIn K (.ref C_Answerable) (.ref C_KeeperError) = some true)
    (xn_Answerable_NoKeeper : PySem.W.subIn K (.ref C_Answerable) (.ref C_NoKeeper) = some false)
    (x1_Answerable : PySem.W.findIn K (.ref C_Answerable) "__getattribute__" = some (some (.builtin "BaseException.__getattribute__")))
    (x2_Answerable : PySem.W.findIn K (.ref C_Answerable) "__getattr__" = some none)
    (x5_Answerable : PySem.W.findIn K (.ref C_Answerable) "__class__" = some (some (.builtin "object.__class__")))
    (x8_Answerable : PySem.W.mroIn K C_Answerable (.type "object") = some true)
    (xk_Answerable : PySem.W.keepIn K (.ref C_Answerable) = true)
    (xe_Answerable : PySem.W.excIn K C_Answerable veL "ValueError.__new__" = true)
    (yn_FURTHER_WORDS_0 : PySem.W.nsIn K d_FURTHER_WORDS "" = some none)
    (yn_FURTHER_WORDS_1 : PySem.W.nsIn K d_FURTHER_WORDS "end" = some none)
    (yn_FURTHER_WORDS_2 : PySem.W.nsIn K d_FURTHER_WORDS "stack" = some none)
    (xq_ValueError_BadQuestion : PySem.W.subIn K (.ref C_BadQuestion) (.type "ValueError") = some true)
    (xq_ValueError_BadNumber : PySem.W.subIn K (.ref C_BadNumber) (.type "ValueError") = some true)
    (xq_ValueError_BadEdits : PySem.W.subIn K (.ref C_BadEdits) (.type "ValueError") = some true)
    (xq_ValueError_BadString : PySem.W.subIn K (.ref C_BadString) (.type "ValueError") = some true)
    (xq_ValueError_BadKeeper : PySem.W.subIn K (.ref C_BadKeeper) (.type "ValueError") = some true)
    (xq_ValueError_BadMessages : PySem.W.subIn K (.ref C_BadMessages) (.type "ValueError") = some true)
    (xq_ValueError_BadText : PySem.W.subIn K (.ref C_BadText) (.type "ValueError") = some true)
    (xq_ValueError_BadAsk : PySem.W.subIn K (.ref C_BadAsk) (.type "ValueError") = some true)
    (xq_ValueError_BadWorld : PySem.W.subIn K (.ref C_BadWorld) (.type "ValueError") = some true)
    (xq_ValueError_Answerable : PySem.W.subIn K (.ref C_Answerable) (.type "ValueError") = some true)
    (x6 : PySem.W.specialIn K (.builtin "object.__class__") "__get__" = some (some (.builtin "getset_descriptor.__get__")))
    (x7 : PySem.W.takesIn K (.builtin "object.__class__") = some true)
    (xz1 : PySem.W.nsIn K cStatics "thirdparty.any" = some none)
    (xz2 : (l.prog.main.scope.names.lookup ("super" : Str)).isSome = false)
    : LamX.LawAtS l w K (L2.CX l.prog w) 17 63 "script" mg fa h := by
  have e := hfa.symm.trans (PySem.W.mg_of X G a_law)
  cases e
  have kt_FURTHER_WORDS : KTab K w d_FURTHER_WORDS tb_FURTHER_WORDS := by
    refine ⟨⟨_, _, ⟨h_FURTHER_WORDS, i_FURTHER_WORDS, j_FURTHER_WORDS⟩⟩, ktab_of fun p hp => ?_⟩
    unfold tb_FURTHER_WORDS at hp
    simp only [List.mem_cons, List.not_mem_nil, or_false] at hp
    rcases hp with rfl | rfl | rfl | rfl
    · exact ⟨_, x_FURTHER_WORDS_0, _, _, _, e_FURTHER_WORDS_0, rfl, rfl, w_FURTHER_WORDS_0, q_FURTHER_WORDS_0⟩
    · exact ⟨_, x_FURTHER_WORDS_1, _, _, _, e_FURTHER_WORDS_1, rfl, rfl, w_FURTHER_WORDS_1, q_FURTHER_WORDS_1⟩
    · exact ⟨_, x_FURTHER_WORDS_2, _, _, _, e_FURTHER_WORDS_2, rfl, rfl, w_FURTHER_WORDS_2, q_FURTHER_WORDS_2⟩
    · exact ⟨_, x_FURTHER_WORDS_3, _, _, _, e_FURTHER_WORDS_3, rfl, rfl, w_FURTHER_WORDS_3, q_FURTHER_WORDS_3⟩
  have kt_TOLD_LETTERS : KTabI K w d_TOLD_LETTERS tb_TOLD_LETTERS := by
    refine ⟨⟨_, _, ⟨h_TOLD_LETTERS, i_TOLD_LETTERS, j_TOLD_LETTERS⟩⟩, ktabI_of fun p hp => ?_⟩
    unfold tb_TOLD_LETTERS at hp
    simp only [List.mem_cons, List.not_mem_nil, or_false] at hp
    rcases hp with rfl | rfl | rfl | rfl | rfl
    · exact ⟨_, x_TOLD_LETTERS_0⟩
    · exact ⟨_, x_TOLD_LETTERS_1⟩
    · exact ⟨_, x_TOLD_LETTERS_2⟩
    · exact ⟨_, x_TOLD_LETTERS_3⟩
    · exact ⟨_, x_TOLD_LETTERS_4⟩
  have T : Txt w K mg := ⟨PySem.W.mg_none_of X G z_ValueError, PySem.W.mg_none_of X G z_all, PySem.W.mg_none_of X G z_any, PySem.W.mg_none_of X G z_bool, PySem.W.mg_none_of X G z_enumerate, PySem.W.mg_none_of X G z_int, PySem.W.mg_none_of X G z_isinstance, PySem.W.mg_none_of X G z_len, PySem.W.mg_none_of X G z_list, PySem.W.mg_none_of X G z_range, PySem.W.mg_none_of X G z_set, PySem.W.mg_none_of X G z_sorted, PySem.W.mg_none_of X G z_str, PySem.W.mg_none_of X G z_super, PySem.W.mg_none_of X G z_tuple, PySem.W.mg_none_of X G z_zip, ⟨_, PySem.W.mg_of X G v_MOST_ANSWER⟩, ⟨_, PySem.W.mg_of X G v_MOST_EDITS⟩, ⟨_, PySem.W.mg_of X G v_MOST_LETTERS⟩, ⟨_, PySem.W.mg_of X G v_MOST_MEMORIES⟩, ⟨_, PySem.W.mg_of X G v_MOST_MESSAGES⟩, ⟨_, PySem.W.mg_of X G v_MOST_MODULUS⟩, ⟨_, PySem.W.mg_of X G v_MOST_PLAIN⟩, ⟨_, PySem.W.mg_of X G v_MOST_ROWS⟩, ⟨_, PySem.W.mg_of X G v_MOST_STATES⟩, ⟨_, PySem.W.mg_of X G v_MOST_TEXT⟩, ⟨_, PySem.W.mg_of X G v_MOST_TIMES⟩, ⟨_, PySem.W.mg_of X G v_MOST_WITHIN⟩, ⟨_, PySem.W.mg_of X G v_MOST_WORD⟩, ⟨_, PySem.W.mg_of X G x_JOINING, _, _, _, e_JOINING, rfl, rfl, w_JOINING, q_JOINING⟩, ⟨_, PySem.W.mg_of X G x_WORDED, _, _, _, e_WORDED, rfl, rfl, w_WORDED, q_WORDED⟩, ⟨_, PySem.W.mg_of X G g_FURTHER_WORDS, kt_FURTHER_WORDS⟩, ⟨_, PySem.W.mg_of X G g_TOLD_LETTERS, kt_TOLD_LETTERS⟩, PySem.W.mg_of X G p_permutations, ⟨_, (PySem.W.mg_of X G xg_KeeperError), (exTab_cons (PySem.W.mg_of X G xg_BadQuestion) (exm_at x3_KeeperError x4_KeeperError xy_KeeperError xn_BadQuestion_KeeperError) (exTab_cons (PySem.W.mg_of X G xg_BadNumber) (exm_at x3_KeeperError x4_KeeperError xy_KeeperError xn_BadNumber_KeeperError) (exTab_cons (PySem.W.mg_of X G xg_BadEdits) (exm_at x3_KeeperError x4_KeeperError xy_KeeperError xn_BadEdits_KeeperError) (exTab_cons (PySem.W.mg_of X G xg_BadString) (exm_at x3_KeeperError x4_KeeperError xy_KeeperError xn_BadString_KeeperError) (exTab_cons (PySem.W.mg_of X G xg_BadKeeper) (exm_at x3_KeeperError x4_KeeperError xy_KeeperError xn_BadKeeper_KeeperError) (exTab_cons (PySem.W.mg_of X G xg_BadMessages) (exm_at x3_KeeperError x4_KeeperError xy_KeeperError xn_BadMessages_KeeperError) (exTab_cons (PySem.W.mg_of X G xg_BadText) (exm_at x3_KeeperError x4_KeeperError xy_KeeperError xn_BadText_KeeperError) (exTab_cons (PySem.W.mg_of X G xg_BadAsk) (exm_at x3_KeeperError x4_KeeperError xy_KeeperError xn_BadAsk_KeeperError) (exTab_cons (PySem.W.mg_of X G xg_BadWorld) (exm_at x3_KeeperError x4_KeeperError xy_KeeperError xn_BadWorld_KeeperError) (exTab_cons (PySem.W.mg_of X G xg_Answerable) (exm_at x3_KeeperError x4_KeeperError xy_KeeperError xn_Answerable_KeeperError) exTab_nil))))))))))⟩, (isTab_cons (PySem.W.mg_of X G xg_BadQuestion) (PySem.W.mg_of X G xg_Answerable) ⟨x1_BadQuestion, x2_BadQuestion, x3_BadQuestion, x4_BadQuestion, x5_BadQuestion, x6, x7, x8_BadQuestion⟩ (kit_ref x4_Answerable xy_Answerable xd_Answerable xn_BadQuestion_Answerable) (isTab_cons (PySem.W.mg_of X G xg_BadNumber) (PySem.W.mg_of X G xg_Answerable) ⟨x1_BadNumber, x2_BadNumber, x3_BadNumber, x4_BadNumber, x5_BadNumber, x6, x7, x8_BadNumber⟩ (kit_ref x4_Answerable xy_Answerable xd_Answerable xn_BadNumber_Answerable) (isTab_cons (PySem.W.mg_of X G xg_BadEdits) (PySem.W.mg_of X G xg_Answerable) ⟨x1_BadEdits, x2_BadEdits, x3_BadEdits, x4_BadEdits, x5_BadEdits, x6, x7, x8_BadEdits⟩ (kit_ref x4_Answerable xy_Answerable xd_Answerable xn_BadEdits_Answerable) (isTab_cons (PySem.W.mg_of X G xg_BadString) (PySem.W.mg_of X G xg_Answerable) ⟨x1_BadString, x2_BadString, x3_BadString, x4_BadString, x5_BadString, x6, x7, x8_BadString⟩ (kit_ref x4_Answerable xy_Answerable xd_Answerable xn_BadString_Answerable) (isTab_cons (PySem.W.mg_of X G xg_BadKeeper) (PySem.W.mg_of X G xg_Answerable) ⟨x1_BadKeeper, x2_BadKeeper, x3_BadKeeper, x4_BadKeeper, x5_BadKeeper, x6, x7, x8_BadKeeper⟩ (kit_ref x4_Answerable xy_Answerable xd_Answerable xn_BadKeeper_Answerable) (isTab_cons (PySem.W.mg_of X G xg_BadMessages) (PySem.W.mg_of X G xg_Answerable) ⟨x1_BadMessages, x2_BadMessages, x3_BadMessages, x4_BadMessages, x5_BadMessages, x6, x7, x8_BadMessages⟩ (kit_ref x4_Answerable xy_Answerable xd_Answerable xn_BadMessages_Answerable) (isTab_cons (PySem.W.mg_of X G xg_BadText) (PySem.W.mg_of X G xg_Answerable) ⟨x1_BadText, x2_BadText, x3_BadText, x4_BadText, x5_BadText, x6, x7, x8_BadText⟩ (kit_ref x4_Answerable xy_Answerable xd_Answerable xn_BadText_Answerable) (isTab_cons (PySem.W.mg_of X G xg_BadAsk) (PySem.W.mg_of X G xg_Answerable) ⟨x1_BadAsk, x2_BadAsk, x3_BadAsk, x4_BadAsk, x5_BadAsk, x6, x7, x8_BadAsk⟩ (kit_ref x4_Answerable xy_Answerable xd_Answerable xn_BadAsk_Answerable) (isTab_cons (PySem.W.mg_of X G xg_BadWorld) (PySem.W.mg_of X G xg_Answerable) ⟨x1_BadWorld, x2_BadWorld, x3_BadWorld, x4_BadWorld, x5_BadWorld, x6, x7, x8_BadWorld⟩ (kit_ref x4_Answerable xy_Answerable xd_Answerable xn_BadWorld_Answerable) (isTab_cons (PySem.W.mg_of X G xg_Answerable) (PySem.W.mg_of X G xg_Answerable) ⟨x1_Answerable, x2_Answerable, x3_Answerable, x4_Answerable, x5_Answerable, x6, x7, x8_Answerable⟩ (kit_ref x4_Answerable xy_Answerable xd_Answerable xn_Answerable_Answerable) isTab_nil)))))))))), (isTab_cons (PySem.W.mg_of X G xg_BadQuestion) (PySem.W.mg_of X G xg_BadAsk) ⟨x1_BadQuestion, x2_BadQuestion, x3_BadQuestion, x4_BadQuestion, x5_BadQuestion, x6, x7, x8_BadQuestion⟩ (kit_ref x4_BadAsk xy_BadAsk xd_BadAsk xn_BadQuestion_BadAsk) (isTab_cons (PySem.W.mg_of X G xg_BadNumber) (PySem.W.mg_of X G xg_BadAsk) ⟨x1_BadNumber, x2_BadNumber, x3_BadNumber, x4_BadNumber, x5_BadNumber, x6, x7, x8_BadNumber⟩ (kit_ref x4_BadAsk xy_BadAsk xd_BadAsk xn_BadNumber_BadAsk) (isTab_cons (PySem.W.mg_of X G xg_BadEdits) (PySem.W.mg_of X G xg_BadAsk) ⟨x1_BadEdits, x2_BadEdits, x3_BadEdits, x4_BadEdits, x5_BadEdits, x6, x7, x8_BadEdits⟩ (kit_ref x4_BadAsk xy_BadAsk xd_BadAsk xn_BadEdits_BadAsk) (isTab_cons (PySem.W.mg_of X G xg_BadString) (PySem.W.mg_of X G xg_BadAsk) ⟨x1_BadString, x2_BadString, x3_BadString, x4_BadString, x5_BadString, x6, x7, x8_BadString⟩ (kit_ref x4_BadAsk xy_BadAsk xd_BadAsk xn_BadString_BadAsk) (isTab_cons (PySem.W.mg_of X G xg_BadKeeper) (PySem.W.mg_of X G xg_BadAsk) ⟨x1_BadKeeper, x2_BadKeeper, x3_BadKeeper, x4_BadKeeper, x5_BadKeeper, x6, x7, x8_BadKeeper⟩ (kit_ref x4_BadAsk xy_BadAsk xd_BadAsk xn_BadKeeper_BadAsk) (isTab_cons (PySem.W.mg_of X G xg_BadMessages) (PySem.W.mg_of X G xg_BadAsk) ⟨x1_BadMessages, x2_BadMessages, x3_BadMessages, x4_BadMessages, x5_BadMessages, x6, x7, x8_BadMessages⟩ (kit_ref x4_BadAsk xy_BadAsk xd_BadAsk xn_BadMessages_BadAsk) (isTab_cons (PySem.W.mg_of X G xg_BadText) (PySem.W.mg_of X G xg_BadAsk) ⟨x1_BadText, x2_BadText, x3_BadText, x4_BadText, x5_BadText, x6, x7, x8_BadText⟩ (kit_ref x4_BadAsk xy_BadAsk xd_BadAsk xn_BadText_BadAsk) (isTab_cons (PySem.W.mg_of X G xg_BadAsk) (PySem.W.mg_of X G xg_BadAsk) ⟨x1_BadAsk, x2_BadAsk, x3_BadAsk, x4_BadAsk, x5_BadAsk, x6, x7, x8_BadAsk⟩ (kit_ref x4_BadAsk xy_BadAsk xd_BadAsk xn_BadAsk_BadAsk) (isTab_cons (PySem.W.mg_of X G xg_BadWorld) (PySem.W.mg_of X G xg_BadAsk) ⟨x1_BadWorld, x2_BadWorld, x3_BadWorld, x4_BadWorld, x5_BadWorld, x6, x7, x8_BadWorld⟩ (kit_ref x4_BadAsk xy_BadAsk xd_BadAsk xn_BadWorld_BadAsk) (isTab_cons (PySem.W.mg_of X G xg_Answerable) (PySem.W.mg_of X G xg_BadAsk) ⟨x1_Answerable, x2_Answerable, x3_Answerable, x4_Answerable, x5_Answerable, x6, x7, x8_Answerable⟩ (kit_ref x4_BadAsk xy_BadAsk xd_BadAsk xn_Answerable_BadAsk) isTab_nil)))))))))), (isTab_cons (PySem.W.mg_of X G xg_BadQuestion) (PySem.W.mg_of X G xg_BadEdits) ⟨x1_BadQuestion, x2_BadQuestion, x3_BadQuestion, x4_BadQuestion, x5_BadQuestion, x6, x7, x8_BadQuestion⟩ (kit_ref x4_BadEdits xy_BadEdits xd_BadEdits xn_BadQuestion_BadEdits) (isTab_cons (PySem.W.mg_of X G xg_BadNumber) (PySem.W.mg_of X G xg_BadEdits) ⟨x1_BadNumber, x2_BadNumber, x3_BadNumber, x4_BadNumber, x5_BadNumber, x6, x7, x8_BadNumber⟩ (kit_ref x4_BadEdits xy_BadEdits xd_BadEdits xn_BadNumber_BadEdits) (isTab_cons (PySem.W.mg_of X G xg_BadEdits) (PySem.W.mg_of X G xg_BadEdits) ⟨x1_BadEdits, x2_BadEdits, x3_BadEdits, x4_BadEdits, x5_BadEdits, x6, x7, x8_BadEdits⟩ (kit_ref x4_BadEdits xy_BadEdits xd_BadEdits xn_BadEdits_BadEdits) (isTab_cons (PySem.W.mg_of X G xg_BadString) (PySem.W.mg_of X G xg_BadEdits) ⟨x1_BadString, x2_BadString, x3_BadString, x4_BadString, x5_BadString, x6, x7, x8_BadString⟩ (kit_ref x4_BadEdits xy_BadEdits xd_BadEdits xn_BadString_BadEdits) (isTab_cons (PySem.W.mg_of X G xg_BadKeeper) (PySem.W.mg_of X G xg_BadEdits) ⟨x1_BadKeeper, x2_BadKeeper, x3_BadKeeper, x4_BadKeeper, x5_BadKeeper, x6, x7, x8_BadKeeper⟩ (kit_ref x4_BadEdits xy_BadEdits xd_BadEdits xn_BadKeeper_BadEdits) (isTab_cons (PySem.W.mg_of X G xg_BadMessages) (PySem.W.mg_of X G xg_BadEdits) ⟨x1_BadMessages, x2_BadMessages, x3_BadMessages, x4_BadMessages, x5_BadMessages, x6, x7, x8_BadMessages⟩ (kit_ref x4_BadEdits xy_BadEdits xd_BadEdits xn_BadMessages_BadEdits) (isTab_cons (PySem.W.mg_of X G xg_BadText) (PySem.W.mg_of X G xg_BadEdits) ⟨x1_BadText, x2_BadText, x3_BadText, x4_BadText, x5_BadText, x6, x7, x8_BadText⟩ (kit_ref x4_BadEdits xy_BadEdits xd_BadEdits xn_BadText_BadEdits) (isTab_cons (PySem.W.mg_of X G xg_BadAsk) (PySem.W.mg_of X G xg_BadEdits) ⟨x1_BadAsk, x2_BadAsk, x3_BadAsk, x4_BadAsk, x5_BadAsk, x6, x7, x8_BadAsk⟩ (kit_ref x4_BadEdits xy_BadEdits xd_BadEdits xn_BadAsk_BadEdits) (isTab_cons (PySem.W.mg_of X G xg_BadWorld) (PySem.W.mg_of X G xg_BadEdits) ⟨x1_BadWorld, x2_BadWorld, x3_BadWorld, x4_BadWorld, x5_BadWorld, x6, x7, x8_BadWorld⟩ (kit_ref x4_BadEdits xy_BadEdits xd_BadEdits xn_BadWorld_BadEdits) (isTab_cons (PySem.W.mg_of X G xg_Answerable) (PySem.W.mg_of X G xg_BadEdits) ⟨x1_Answerable, x2_Answerable, x3_Answerable, x4_Answerable, x5_Answerable, x6, x7, x8_Answerable⟩ (kit_ref x4_BadEdits xy_BadEdits xd_BadEdits xn_Answerable_BadEdits) isTab_nil)))))))))), (isTab_cons (PySem.W.mg_of X G xg_BadQuestion) (PySem.W.mg_of X G xg_BadKeeper) ⟨x1_BadQuestion, x2_BadQuestion, x3_BadQuestion, x4_BadQuestion, x5_BadQuestion, x6, x7, x8_BadQuestion⟩ (kit_ref x4_BadKeeper xy_BadKeeper xd_BadKeeper xn_BadQuestion_BadKeeper) (isTab_cons (PySem.W.mg_of X G xg_BadNumber) (PySem.W.mg_of X G xg_BadKeeper) ⟨x1_BadNumber, x2_BadNumber, x3_BadNumber, x4_BadNumber, x5_BadNumber, x6, x7, x8_BadNumber⟩ (kit_ref x4_BadKeeper xy_BadKeeper xd_BadKeeper xn_BadNumber_BadKeeper) (isTab_cons (PySem.W.mg_of X G xg_BadEdits) (PySem.W.mg_of X G xg_BadKeeper) ⟨x1_BadEdits, x2_BadEdits, x3_BadEdits, x4_BadEdits, x5_BadEdits, x6, x7, x8_BadEdits⟩ (kit_ref x4_BadKeeper xy_BadKeeper xd_BadKeeper xn_BadEdits_BadKeeper) (isTab_cons (PySem.W.mg_of X G xg_BadString) (PySem.W.mg_of X G xg_BadKeeper) ⟨x1_BadString, x2_BadString, x3_BadString, x4_BadString, x5_BadString, x6, x7, x8_BadString⟩ (kit_ref x4_BadKeeper xy_BadKeeper xd_BadKeeper xn_BadString_BadKeeper) (isTab_cons (PySem.W.mg_of X G xg_BadKeeper) (PySem.W.mg_of X G xg_BadKeeper) ⟨x1_BadKeeper, x2_BadKeeper, x3_BadKeeper, x4_BadKeeper, x5_BadKeeper, x6, x7, x8_BadKeeper⟩ (kit_ref x4_BadKeeper xy_BadKeeper xd_BadKeeper xn_BadKeeper_BadKeeper) (isTab_cons (PySem.W.mg_of X G xg_BadMessages) (PySem.W.mg_of X G xg_BadKeeper) ⟨x1_BadMessages, x2_BadMessages, x3_BadMessages, x4_BadMessages, x5_BadMessages, x6, x7, x8_BadMessages⟩ (kit_ref x4_BadKeeper xy_BadKeeper xd_BadKeeper xn_BadMessages_BadKeeper) (isTab_cons (PySem.W.mg_of X G xg_BadText) (PySem.W.mg_of X G xg_BadKeeper) ⟨x1_BadText, x2_BadText, x3_BadText, x4_BadText, x5_BadText, x6, x7, x8_BadText⟩ (kit_ref x4_BadKeeper xy_BadKeeper xd_BadKeeper xn_BadText_BadKeeper) (isTab_cons (PySem.W.mg_of X G xg_BadAsk) (PySem.W.mg_of X G xg_BadKeeper) ⟨x1_BadAsk, x2_BadAsk, x3_BadAsk, x4_BadAsk, x5_BadAsk, x6, x7, x8_BadAsk⟩ (kit_ref x4_BadKeeper xy_BadKeeper xd_BadKeeper xn_BadAsk_BadKeeper) (isTab_cons (PySem.W.mg_of X G xg_BadWorld) (PySem.W.mg_of X G xg_BadKeeper) ⟨x1_BadWorld, x2_BadWorld, x3_BadWorld, x4_BadWorld, x5_BadWorld, x6, x7, x8_BadWorld⟩ (kit_ref x4_BadKeeper xy_BadKeeper xd_BadKeeper xn_BadWorld_BadKeeper) (isTab_cons (PySem.W.mg_of X G xg_Answerable) (PySem.W.mg_of X G xg_BadKeeper) ⟨x1_Answerable, x2_Answerable, x3_Answerable, x4_Answerable, x5_Answerable, x6, x7, x8_Answerable⟩ (kit_ref x4_BadKeeper xy_BadKeeper xd_BadKeeper xn_Answerable_BadKeeper) isTab_nil)))))))))), (isTab_cons (PySem.W.mg_of X G xg_BadQuestion) (PySem.W.mg_of X G xg_BadMessages) ⟨x1_BadQuestion, x2_BadQuestion, x3_BadQuestion, x4_BadQuestion, x5_BadQuestion, x6, x7, x8_BadQuestion⟩ (kit_ref x4_BadMessages xy_BadMessages xd_BadMessages xn_BadQuestion_BadMessages) (isTab_cons (PySem.W.mg_of X G xg_BadNumber) (PySem.W.mg_of X G xg_BadMessages) ⟨x1_BadNumber, x2_BadNumber, x3_BadNumber, x4_BadNumber, x5_BadNumber, x6, x7, x8_BadNumber⟩ (kit_ref x4_BadMessages xy_BadMessages xd_BadMessages xn_BadNumber_BadMessages) (isTab_cons (PySem.W.mg_of X G xg_BadEdits) (PySem.W.mg_of X G xg_BadMessages) ⟨x1_BadEdits, x2_BadEdits, x3_BadEdits, x4_BadEdits, x5_BadEdits, x6, x7, x8_BadEdits⟩ (kit_ref x4_BadMessages xy_BadMessages xd_BadMessages xn_BadEdits_BadMessages) (isTab_cons (PySem.W.mg_of X G xg_BadString) (PySem.W.mg_of X G xg_BadMessages) ⟨x1_BadString, x2_BadString, x3_BadString, x4_BadString, x5_BadString, x6, x7, x8_BadString⟩ (kit_ref x4_BadMessages xy_BadMessages xd_BadMessages xn_BadString_BadMessages) (isTab_cons (PySem.W.mg_of X G xg_BadKeeper) (PySem.W.mg_of X G xg_BadMessages) ⟨x1_BadKeeper, x2_BadKeeper, x3_BadKeeper, x4_BadKeeper, x5_BadKeeper, x6, x7, x8_BadKeeper⟩ (kit_ref x4_BadMessages xy_BadMessages xd_BadMessages xn_BadKeeper_BadMessages) (isTab_cons (PySem.W.mg_of X G xg_BadMessages) (PySem.W.mg_of X G xg_BadMessages) ⟨x1_BadMessages, x2_BadMessages, x3_BadMessages, x4_BadMessages, x5_BadMessages, x6, x7, x8_BadMessages⟩ (kit_ref x4_BadMessages xy_BadMessages xd_BadMessages xn_BadMessages_BadMessages) (isTab_cons (PySem.W.mg_of X G xg_BadText) (PySem.W.mg_of X G xg_BadMessages) ⟨x1_BadText, x2_BadText, x3_BadText, x4_BadText, x5_BadText, x6, x7, x8_BadText⟩ (kit_ref x4_BadMessages xy_BadMessages xd_BadMessages xn_BadText_BadMessages) (isTab_cons (PySem.W.mg_of X G xg_BadAsk) (PySem.W.mg_of X G xg_BadMessages) ⟨x1_BadAsk, x2_BadAsk, x3_BadAsk, x4_BadAsk, x5_BadAsk, x6, x7, x8_BadAsk⟩ (kit_ref x4_BadMessages xy_BadMessages xd_BadMessages xn_BadAsk_BadMessages) (isTab_cons (PySem.W.mg_of X G xg_BadWorld) (PySem.W.mg_of X G xg_BadMessages) ⟨x1_BadWorld, x2_BadWorld, x3_BadWorld, x4_BadWorld, x5_BadWorld, x6, x7, x8_BadWorld⟩ (kit_ref x4_BadMessages xy_BadMessages xd_BadMessages xn_BadWorld_BadMessages) (isTab_cons (PySem.W.mg_of X G xg_Answerable) (PySem.W.mg_of X G xg_BadMessages) ⟨x1_Answerable, x2_Answerable, x3_Answerable, x4_Answerable, x5_Answerable, x6, x7, x8_Answerable⟩ (kit_ref x4_BadMessages xy_BadMessages xd_BadMessages xn_Answerable_BadMessages) isTab_nil)))))))))), (isTab_cons (PySem.W.mg_of X G xg_BadQuestion) (PySem.W.mg_of X G xg_BadNumber) ⟨x1_BadQuestion, x2_BadQuestion, x3_BadQuestion, x4_BadQuestion, x5_BadQuestion, x6, x7, x8_BadQuestion⟩ (kit_ref x4_BadNumber xy_BadNumber xd_BadNumber xn_BadQuestion_BadNumber) (isTab_cons (PySem.W.mg_of X G xg_BadNumber) (PySem.W.mg_of X G xg_BadNumber) ⟨x1_BadNumber, x2_BadNumber, x3_BadNumber, x4_BadNumber, x5_BadNumber, x6, x7, x8_BadNumber⟩ (kit_ref x4_BadNumber xy_BadNumber xd_BadNumber xn_BadNumber_BadNumber) (isTab_cons (PySem.W.mg_of X G xg_BadEdits) (PySem.W.mg_of X G xg_BadNumber) ⟨x1_BadEdits, x2_BadEdits, x3_BadEdits, x4_BadEdits, x5_BadEdits, x6, x7, x8_BadEdits⟩ (kit_ref x4_BadNumber xy_BadNumber xd_BadNumber xn_BadEdits_BadNumber) (isTab_cons (PySem.W.mg_of X G xg_BadString) (PySem.W.mg_of X G xg_BadNumber) ⟨x1_BadString, x2_BadString, x3_BadString, x4_BadString, x5_BadString, x6, x7, x8_BadString⟩ (kit_ref x4_BadNumber xy_BadNumber xd_BadNumber xn_BadString_BadNumber) (isTab_cons (PySem.W.mg_of X G xg_BadKeeper) (PySem.W.mg_of X G xg_BadNumber) ⟨x1_BadKeeper, x2_BadKeeper, x3_BadKeeper, x4_BadKeeper, x5_BadKeeper, x6, x7, x8_BadKeeper⟩ (kit_ref x4_BadNumber xy_BadNumber xd_BadNumber xn_BadKeeper_BadNumber) (isTab_cons (PySem.W.mg_of X G xg_BadMessages) (PySem.W.mg_of X G xg_BadNumber) ⟨x1_BadMessages, x2_BadMessages, x3_BadMessages, x4_BadMessages, x5_BadMessages, x6, x7, x8_BadMessages⟩ (kit_ref x4_BadNumber xy_BadNumber xd_BadNumber xn_BadMessages_BadNumber) (isTab_cons (PySem.W.mg_of X G xg_BadText) (PySem.W.mg_of X G xg_BadNumber) ⟨x1_BadText, x2_BadText, x3_BadText, x4_BadText, x5_BadText, x6, x7, x8_BadText⟩ (kit_ref x4_BadNumber xy_BadNumber xd_BadNumber xn_BadText_BadNumber) (isTab_cons (PySem.W.mg_of X G xg_BadAsk) (PySem.W.mg_of X G xg_BadNumber) ⟨x1_BadAsk, x2_BadAsk, x3_BadAsk, x4_BadAsk, x5_BadAsk, x6, x7, x8_BadAsk⟩ (kit_ref x4_BadNumber xy_BadNumber xd_BadNumber xn_BadAsk_BadNumber) (isTab_cons (PySem.W.mg_of X G xg_BadWorld) (PySem.W.mg_of X G xg_BadNumber) ⟨x1_BadWorld, x2_BadWorld, x3_BadWorld, x4_BadWorld, x5_BadWorld, x6, x7, x8_BadWorld⟩ (kit_ref x4_BadNumber xy_BadNumber xd_BadNumber xn_BadWorld_BadNumber) (isTab_cons (PySem.W.mg_of X G xg_Answerable) (PySem.W.mg_of X G xg_BadNumber) ⟨x1_Answerable, x2_Answerable, x3_Answerable, x4_Answerable, x5_Answerable, x6, x7, x8_Answerable⟩ (kit_ref x4_BadNumber xy_BadNumber xd_BadNumber xn_Answerable_BadNumber) isTab_nil)))))))))), (isTab_cons (PySem.W.mg_of X G xg_BadQuestion) (PySem.W.mg_of X G xg_BadQuestion) ⟨x1_BadQuestion, x2_BadQuestion, x3_BadQuestion, x4_BadQuestion, x5_BadQuestion, x6, x7, x8_BadQuestion⟩ (kit_ref x4_BadQuestion xy_BadQuestion xd_BadQuestion xn_BadQuestion_BadQuestion) (isTab_cons (PySem.W.mg_of X G xg_BadNumber) (PySem.W.mg_of X G xg_BadQuestion) ⟨x1_BadNumber, x2_BadNumber, x3_BadNumber, x4_BadNumber, x5_BadNumber, x6, x7, x8_BadNumber⟩ (kit_ref x4_BadQuestion xy_BadQuestion xd_BadQuestion xn_BadNumber_BadQuestion) (isTab_cons (PySem.W.mg_of X G xg_BadEdits) (PySem.W.mg_of X G xg_BadQuestion) ⟨x1_BadEdits, x2_BadEdits, x3_BadEdits, x4_BadEdits, x5_BadEdits, x6, x7, x8_BadEdits⟩ (kit_ref x4_BadQuestion xy_BadQuestion xd_BadQuestion xn_BadEdits_BadQuestion) (isTab_cons (PySem.W.mg_of X G xg_BadString) (PySem.W.mg_of X G xg_BadQuestion) ⟨x1_BadString, x2_BadString, x3_BadString, x4_BadString, x5_BadString, x6, x7, x8_BadString⟩ (kit_ref x4_BadQuestion xy_BadQuestion xd_BadQuestion xn_BadString_BadQuestion) (isTab_cons (PySem.W.mg_of X G xg_BadKeeper) (PySem.W.mg_of X G xg_BadQuestion) ⟨x1_BadKeeper, x2_BadKeeper, x3_BadKeeper, x4_BadKeeper, x5_BadKeeper, x6, x7, x8_BadKeeper⟩ (kit_ref x4_BadQuestion xy_BadQuestion xd_BadQuestion xn_BadKeeper_BadQuestion) (isTab_cons (PySem.W.mg_of X G xg_BadMessages) (PySem.W.mg_of X G xg_BadQuestion) ⟨x1_BadMessages, x2_BadMessages, x3_BadMessages, x4_BadMessages, x5_BadMessages, x6, x7, x8_BadMessages⟩ (kit_ref x4_BadQuestion xy_BadQuestion xd_BadQuestion xn_BadMessages_BadQuestion) (isTab_cons (PySem.W.mg_of X G xg_BadText) (PySem.W.mg_of X G xg_BadQuestion) ⟨x1_BadText, x2_BadText, x3_BadText, x4_BadText, x5_BadText, x6, x7, x8_BadText⟩ (kit_ref x4_BadQuestion xy_BadQuestion xd_BadQuestion xn_BadText_BadQuestion) (isTab_cons (PySem.W.mg_of X G xg_BadAsk) (PySem.W.mg_of X G xg_BadQuestion) ⟨x1_BadAsk, x2_BadAsk, x3_BadAsk, x4_BadAsk, x5_BadAsk, x6, x7, x8_BadAsk⟩ (kit_ref x4_BadQuestion xy_BadQuestion xd_BadQuestion xn_BadAsk_BadQuestion) (isTab_cons (PySem.W.mg_of X G xg_BadWorld) (PySem.W.mg_of X G xg_BadQuestion) ⟨x1_BadWorld, x2_BadWorld, x3_BadWorld, x4_BadWorld, x5_BadWorld, x6, x7, x8_BadWorld⟩ (kit_ref x4_BadQuestion xy_BadQuestion xd_BadQuestion xn_BadWorld_BadQuestion) (isTab_cons (PySem.W.mg_of X G xg_Answerable) (PySem.W.mg_of X G xg_BadQuestion) ⟨x1_Answerable, x2_Answerable, x3_Answerable, x4_Answerable, x5_Answerable, x6, x7, x8_Answerable⟩ (kit_ref x4_BadQuestion xy_BadQuestion xd_BadQuestion xn_Answerable_BadQuestion) isTab_nil)))))))))), (isTab_cons (PySem.W.mg_of X G xg_BadQuestion) (PySem.W.mg_of X G xg_BadString) ⟨x1_BadQuestion, x2_BadQuestion, x3_BadQuestion, x4_BadQuestion, x5_BadQuestion, x6, x7, x8_BadQuestion⟩ (kit_ref x4_BadString xy_BadString xd_BadString xn_BadQuestion_BadString) (isTab_cons (PySem.W.mg_of X G xg_BadNumber) (PySem.W.mg_of X G xg_BadString) ⟨x1_BadNumber, x2_BadNumber, x3_BadNumber, x4_BadNumber, x5_BadNumber, x6, x7, x8_BadNumber⟩ (kit_ref x4_BadString xy_BadString xd_BadString xn_BadNumber_BadString) (isTab_cons (PySem.W.mg_of X G xg_BadEdits) (PySem.W.mg_of X G xg_BadString) ⟨x1_BadEdits, x2_BadEdits, x3_BadEdits, x4_BadEdits, x5_BadEdits, x6, x7, x8_BadEdits⟩ (kit_ref x4_BadString xy_BadString xd_BadString xn_BadEdits_BadString) (isTab_cons (PySem.W.mg_of X G xg_BadString) (PySem.W.mg_of X G xg_BadString) ⟨x1_BadString, x2_BadString, x3_BadString, x4_BadString, x5_BadString, x6, x7, x8_BadString⟩ (kit_ref x4_BadString xy_BadString xd_BadString xn_BadString_BadString) (isTab_cons (PySem.W.mg_of X G xg_BadKeeper) (PySem.W.mg_of X G xg_BadString) ⟨x1_BadKeeper, x2_BadKeeper, x3_BadKeeper, x4_BadKeeper, x5_BadKeeper, x6, x7, x8_BadKeeper⟩ (kit_ref x4_BadString xy_BadString xd_BadString xn_BadKeeper_BadString) (isTab_cons (PySem.W.mg_of X G xg_BadMessages) (PySem.W.mg_of X G xg_BadString) ⟨x1_BadMessages, x2_BadMessages, x3_BadMessages, x4_BadMessages, x5_BadMessages, x6, x7, x8_BadMessages⟩ (kit_ref x4_BadString xy_BadString xd_BadString xn_BadMessages_BadString) (isTab_cons (PySem.W.mg_of X G xg_BadText) (PySem.W.mg_of X G xg_BadString) ⟨x1_BadText, x2_BadText, x3_BadText, x4_BadText, x5_BadText, x6, x7, x8_BadText⟩ (kit_ref x4_BadString xy_BadString xd_BadString xn_BadText_BadString) (isTab_cons (PySem.W.mg_of X G xg_BadAsk) (PySem.W.mg_of X G xg_BadString) ⟨x1_BadAsk, x2_BadAsk, x3_BadAsk, x4_BadAsk, x5_BadAsk, x6, x7, x8_BadAsk⟩ (kit_ref x4_BadString xy_BadString xd_BadString xn_BadAsk_BadString) (isTab_cons (PySem.W.mg_of X G xg_BadWorld) (PySem.W.mg_of X G xg_BadString) ⟨x1_BadWorld, x2_BadWorld, x3_BadWorld, x4_BadWorld, x5_BadWorld, x6, x7, x8_BadWorld⟩ (kit_ref x4_BadString xy_BadString xd_BadString xn_BadWorld_BadString) (isTab_cons (PySem.W.mg_of X G xg_Answerable) (PySem.W.mg_of X G xg_BadString) ⟨x1_Answerable, x2_Answerable, x3_Answerable, x4_Answerable, x5_Answerable, x6, x7, x8_Answerable⟩ (kit_ref x4_BadString xy_BadString xd_BadString xn_Answerable_BadString) isTab_nil)))))))))), (isTab_cons (PySem.W.mg_of X G xg_BadQuestion) (PySem.W.mg_of X G xg_BadText) ⟨x1_BadQuestion, x2_BadQuestion, x3_BadQuestion, x4_BadQuestion, x5_BadQuestion, x6, x7, x8_BadQuestion⟩ (kit_ref x4_BadText xy_BadText xd_BadText xn_BadQuestion_BadText) (isTab_cons (PySem.W.mg_of X G xg_BadNumber) (PySem.W.mg_of X G xg_BadText) ⟨x1_BadNumber, x2_BadNumber, x3_BadNumber, x4_BadNumber, x5_BadNumber, x6, x7, x8_BadNumber⟩ (kit_ref x4_BadText xy_BadText xd_BadText xn_BadNumber_BadText) (isTab_cons (PySem.W.mg_of X G xg_BadEdits) (PySem.W.mg_of X G xg_BadText) ⟨x1_BadEdits, x2_BadEdits, x3_BadEdits, x4_BadEdits, x5_BadEdits, x6, x7, x8_BadEdits⟩ (kit_ref x4_BadText xy_BadText xd_BadText xn_BadEdits_BadText) (isTab_cons (PySem.W.mg_of X G xg_BadString) (PySem.W.mg_of X G xg_BadText) ⟨x1_BadString, x2_BadString, x3_BadString, x4_BadString, x5_BadString, x6, x7, x8_BadString⟩ (kit_ref x4_BadText xy_BadText xd_BadText xn_BadString_BadText) (isTab_cons (PySem.W.mg_of X G xg_BadKeeper) (PySem.W.mg_of X G xg_BadText) ⟨x1_BadKeeper, x2_BadKeeper, x3_BadKeeper, x4_BadKeeper, x5_BadKeeper, x6, x7, x8_BadKeeper⟩ (kit_ref x4_BadText xy_BadText xd_BadText xn_BadKeeper_BadText) (isTab_cons (PySem.W.mg_of X G xg_BadMessages) (PySem.W.mg_of X G xg_BadText) ⟨x1_BadMessages, x2_BadMessages, x3_BadMessages, x4_BadMessages, x5_BadMessages, x6, x7, x8_BadMessages⟩ (kit_ref x4_BadText xy_BadText xd_BadText xn_BadMessages_BadText) (isTab_cons (PySem.W.mg_of X G xg_BadText) (PySem.W.mg_of X G xg_BadText) ⟨x1_BadText, x2_BadText, x3_BadText, x4_BadText, x5_BadText, x6, x7, x8_BadText⟩ (kit_ref x4_BadText xy_BadText xd_BadText xn_BadText_BadText) (isTab_cons (PySem.W.mg_of X G xg_BadAsk) (PySem.W.mg_of X G xg_BadText) ⟨x1_BadAsk, x2_BadAsk, x3_BadAsk, x4_BadAsk, x5_BadAsk, x6, x7, x8_BadAsk⟩ (kit_ref x4_BadText xy_BadText xd_BadText xn_BadAsk_BadText) (isTab_cons (PySem.W.mg_of X G xg_BadWorld) (PySem.W.mg_of X G xg_BadText) ⟨x1_BadWorld, x2_BadWorld, x3_BadWorld, x4_BadWorld, x5_BadWorld, x6, x7, x8_BadWorld⟩ (kit_ref x4_BadText xy_BadText xd_BadText xn_BadWorld_BadText) (isTab_cons (PySem.W.mg_of X G xg_Answerable) (PySem.W.mg_of X G xg_BadText) ⟨x1_Answerable, x2_Answerable, x3_Answerable, x4_Answerable, x5_Answerable, x6, x7, x8_Answerable⟩ (kit_ref x4_BadText xy_BadText xd_BadText xn_Answerable_BadText) isTab_nil)))))))))), (isTab_cons (PySem.W.mg_of X G xg_BadQuestion) (PySem.W.mg_of X G xg_BadWorld) ⟨x1_BadQuestion, x2_BadQuestion, x3_BadQuestion, x4_BadQuestion, x5_BadQuestion, x6, x7, x8_BadQuestion⟩ (kit_ref x4_BadWorld xy_BadWorld xd_BadWorld xn_BadQuestion_BadWorld) (isTab_cons (PySem.W.mg_of X G xg_BadNumber) (PySem.W.mg_of X G xg_BadWorld) ⟨x1_BadNumber, x2_BadNumber, x3_BadNumber, x4_BadNumber, x5_BadNumber, x6, x7, x8_BadNumber⟩ (kit_ref x4_BadWorld xy_BadWorld xd_BadWorld xn_BadNumber_BadWorld) (isTab_cons (PySem.W.mg_of X G xg_BadEdits) (PySem.W.mg_of X G xg_BadWorld) ⟨x1_BadEdits, x2_BadEdits, x3_BadEdits, x4_BadEdits, x5_BadEdits, x6, x7, x8_BadEdits⟩ (kit_ref x4_BadWorld xy_BadWorld xd_BadWorld xn_BadEdits_BadWorld) (isTab_cons (PySem.W.mg_of X G xg_BadString) (PySem.W.mg_of X G xg_BadWorld) ⟨x1_BadString, x2_BadString, x3_BadString, x4_BadString, x5_BadString, x6, x7, x8_BadString⟩ (kit_ref x4_BadWorld xy_BadWorld xd_BadWorld xn_BadString_BadWorld) (isTab_cons (PySem.W.mg_of X G xg_BadKeeper) (PySem.W.mg_of X G xg_BadWorld) ⟨x1_BadKeeper, x2_BadKeeper, x3_BadKeeper, x4_BadKeeper, x5_BadKeeper, x6, x7, x8_BadKeeper⟩ (kit_ref x4_BadWorld xy_BadWorld xd_BadWorld xn_BadKeeper_BadWorld) (isTab_cons (PySem.W.mg_of X G xg_BadMessages) (PySem.W.mg_of X G xg_BadWorld) ⟨x1_BadMessages, x2_BadMessages, x3_BadMessages, x4_BadMessages, x5_BadMessages, x6, x7, x8_BadMessages⟩ (kit_ref x4_BadWorld xy_BadWorld xd_BadWorld xn_BadMessages_BadWorld) (isTab_cons (PySem.W.mg_of X G xg_BadText) (PySem.W.mg_of X G xg_BadWorld) ⟨x1_BadText, x2_BadText, x3_BadText, x4_BadText, x5_BadText, x6, x7, x8_BadText⟩ (kit_ref x4_BadWorld xy_BadWorld xd_BadWorld xn_BadText_BadWorld) (isTab_cons (PySem.W.mg_of X G xg_BadAsk) (PySem.W.mg_of X G xg_BadWorld) ⟨x1_BadAsk, x2_BadAsk, x3_BadAsk, x4_BadAsk, x5_BadAsk, x6, x7, x8_BadAsk⟩ (kit_ref x4_BadWorld xy_BadWorld xd_BadWorld xn_BadAsk_BadWorld) (isTab_cons (PySem.W.mg_of X G xg_BadWorld) (PySem.W.mg_of X G xg_BadWorld) ⟨x1_BadWorld, x2_BadWorld, x3_BadWorld, x4_BadWorld, x5_BadWorld, x6, x7, x8_BadWorld⟩ (kit_ref x4_BadWorld xy_BadWorld xd_BadWorld xn_BadWorld_BadWorld) (isTab_cons (PySem.W.mg_of X G xg_Answerable) (PySem.W.mg_of X G xg_BadWorld) ⟨x1_Answerable, x2_Answerable, x3_Answerable, x4_Answerable, x5_Answerable, x6, x7, x8_Answerable⟩ (kit_ref x4_BadWorld xy_BadWorld xd_BadWorld xn_Answerable_BadWorld) isTab_nil)))))))))), (isTab_cons (PySem.W.mg_of X G xg_BadQuestion) (PySem.W.mg_of X G xg_NoKeeper) ⟨x1_BadQuestion, x2_BadQuestion, x3_BadQuestion, x4_BadQuestion, x5_BadQuestion, x6, x7, x8_BadQuestion⟩ (kit_ref x4_NoKeeper xy_NoKeeper xd_NoKeeper xn_BadQuestion_NoKeeper) (isTab_cons (PySem.W.mg_of X G xg_BadNumber) (PySem.W.mg_of X G xg_NoKeeper) ⟨x1_BadNumber, x2_BadNumber, x3_BadNumber, x4_BadNumber, x5_BadNumber, x6, x7, x8_BadNumber⟩ (kit_ref x4_NoKeeper xy_NoKeeper xd_NoKeeper xn_BadNumber_NoKeeper) (isTab_cons (PySem.W.mg_of X G xg_BadEdits) (PySem.W.mg_of X G xg_NoKeeper) ⟨x1_BadEdits, x2_BadEdits, x3_BadEdits, x4_BadEdits, x5_BadEdits, x6, x7, x8_BadEdits⟩ (kit_ref x4_NoKeeper xy_NoKeeper xd_NoKeeper xn_BadEdits_NoKeeper) (isTab_cons (PySem.W.mg_of X G xg_BadString) (PySem.W.mg_of X G xg_NoKeeper) ⟨x1_BadString, x2_BadString, x3_BadString, x4_BadString, x5_BadString, x6, x7, x8_BadString⟩ (kit_ref x4_NoKeeper xy_NoKeeper xd_NoKeeper xn_BadString_NoKeeper) (isTab_cons (PySem.W.mg_of X G xg_BadKeeper) (PySem.W.mg_of X G xg_NoKeeper) ⟨x1_BadKeeper, x2_BadKeeper, x3_BadKeeper, x4_BadKeeper, x5_BadKeeper, x6, x7, x8_BadKeeper⟩ (kit_ref x4_NoKeeper xy_NoKeeper xd_NoKeeper xn_BadKeeper_NoKeeper) (isTab_cons (PySem.W.mg_of X G xg_BadMessages) (PySem.W.mg_of X G xg_NoKeeper) ⟨x1_BadMessages, x2_BadMessages, x3_BadMessages, x4_BadMessages, x5_BadMessages, x6, x7, x8_BadMessages⟩ (kit_ref x4_NoKeeper xy_NoKeeper xd_NoKeeper xn_BadMessages_NoKeeper) (isTab_cons (PySem.W.mg_of X G xg_BadText) (PySem.W.mg_of X G xg_NoKeeper) ⟨x1_BadText, x2_BadText, x3_BadText, x4_BadText, x5_BadText, x6, x7, x8_BadText⟩ (kit_ref x4_NoKeeper xy_NoKeeper xd_NoKeeper xn_BadText_NoKeeper) (isTab_cons (PySem.W.mg_of X G xg_BadAsk) (PySem.W.mg_of X G xg_NoKeeper) ⟨x1_BadAsk, x2_BadAsk, x3_BadAsk, x4_BadAsk, x5_BadAsk, x6, x7, x8_BadAsk⟩ (kit_ref x4_NoKeeper xy_NoKeeper xd_NoKeeper xn_BadAsk_NoKeeper) (isTab_cons (PySem.W.mg_of X G xg_BadWorld) (PySem.W.mg_of X G xg_NoKeeper) ⟨x1_BadWorld, x2_BadWorld, x3_BadWorld, x4_BadWorld, x5_BadWorld, x6, x7, x8_BadWorld⟩ (kit_ref x4_NoKeeper xy_NoKeeper xd_NoKeeper xn_BadWorld_NoKeeper) (isTab_cons (PySem.W.mg_of X G xg_Answerable) (PySem.W.mg_of X G xg_NoKeeper) ⟨x1_Answerable, x2_Answerable, x3_Answerable, x4_Answerable, x5_Answerable, x6, x7, x8_Answerable⟩ (kit_ref x4_NoKeeper xy_NoKeeper xd_NoKeeper xn_Answerable_NoKeeper) isTab_nil)))))))))), ⟨_, (PySem.W.mg_of X G xg_Answerable), xe_Answerable, xk_Answerable, x3_Answerable, xy_Answerable⟩, ⟨_, (PySem.W.mg_of X G xg_BadAsk), xe_BadAsk, xk_BadAsk, x3_BadAsk, xy_BadAsk⟩, ⟨_, (PySem.W.mg_of X G xg_BadNumber), xe_BadNumber, xk_BadNumber, x3_BadNumber, xy_BadNumber⟩, ⟨_, (PySem.W.mg_of X G xg_BadString), xe_BadString, xk_BadString, x3_BadString, xy_BadString⟩, ⟨_, (PySem.W.mg_of X G xg_BadText), xe_BadText, xk_BadText, x3_BadText, xy_BadText⟩, ⟨_, (PySem.W.mg_of X G xg_BadWorld), xe_BadWorld, xk_BadWorld, x3_BadWorld, xy_BadWorld⟩, ⟨_, PySem.W.mg_of X G g_FURTHER_WORDS, kt_FURTHER_WORDS, fun z hz => by
    unfold no_FURTHER_WORDS at hz
    simp only [List.mem_cons, List.not_mem_nil, or_false] at hz
    rcases hz with rfl | rfl | rfl
    · exact yn_FURTHER_WORDS_0
    · exact yn_FURTHER_WORDS_1
    · exact yn_FURTHER_WORDS_2⟩, (isTabV_cons (PySem.W.mg_of X G xg_BadQuestion) ⟨x1_BadQuestion, x2_BadQuestion, x3_BadQuestion, x4_BadQuestion, x5_BadQuestion, x6, x7, x8_BadQuestion⟩ (kit_type (by decide +kernel) xq_ValueError_BadQuestion) (isTabV_cons (PySem.W.mg_of X G xg_BadNumber) ⟨x1_BadNumber, x2_BadNumber, x3_BadNumber, x4_BadNumber, x5_BadNumber, x6, x7, x8_BadNumber⟩ (kit_type (by decide +kernel) xq_ValueError_BadNumber) (isTabV_cons (PySem.W.mg_of X G xg_BadEdits) ⟨x1_BadEdits, x2_BadEdits, x3_BadEdits, x4_BadEdits, x5_BadEdits, x6, x7, x8_BadEdits⟩ (kit_type (by decide +kernel) xq_ValueError_BadEdits) (isTabV_cons (PySem.W.mg_of X G xg_BadString) ⟨x1_BadString, x2_BadString, x3_BadString, x4_BadString, x5_BadString, x6, x7, x8_BadString⟩ (kit_type (by decide +kernel) xq_ValueError_BadString) (isTabV_cons (PySem.W.mg_of X G xg_BadKeeper) ⟨x1_BadKeeper, x2_BadKeeper, x3_BadKeeper, x4_BadKeeper, x5_BadKeeper, x6, x7, x8_BadKeeper⟩ (kit_type (by decide +kernel) xq_ValueError_BadKeeper) (isTabV_cons (PySem.W.mg_of X G xg_BadMessages) ⟨x1_BadMessages, x2_BadMessages, x3_BadMessages, x4_BadMessages, x5_BadMessages, x6, x7, x8_BadMessages⟩ (kit_type (by decide +kernel) xq_ValueError_BadMessages) (isTabV_cons (PySem.W.mg_of X G xg_BadText) ⟨x1_BadText, x2_BadText, x3_BadText, x4_BadText, x5_BadText, x6, x7, x8_BadText⟩ (kit_type (by decide +kernel) xq_ValueError_BadText) (isTabV_cons (PySem.W.mg_of X G xg_BadAsk) ⟨x1_BadAsk, x2_BadAsk, x3_BadAsk, x4_BadAsk, x5_BadAsk, x6, x7, x8_BadAsk⟩ (kit_type (by decide +kernel) xq_ValueError_BadAsk) (isTabV_cons (PySem.W.mg_of X G xg_BadWorld) ⟨x1_BadWorld, x2_BadWorld, x3_BadWorld, x4_BadWorld, x5_BadWorld, x6, x7, x8_BadWorld⟩ (kit_type (by decide +kernel) xq_ValueError_BadWorld) (isTabV_cons (PySem.W.mg_of X G xg_Answerable) ⟨x1_Answerable, x2_Answerable, x3_Answerable, x4_Answerable, x5_Answerable, x6, x7, x8_Answerable⟩ (kit_type (by decide +kernel) xq_ValueError_Answerable) isTabV_nil))))))))))⟩
  have Fl := fun_mk (st := s_law) l_law c_law k_law
  obtain ⟨f1_further_text, c1_further_text, P1_further_text, o1_further_text, fd1_further_text, t1_further_text, t2_further_text, t3_further_text, t4_further_text, t5_further_text, t6_further_text⟩ := hX "further_text" (by simp)
  have z1_further_text := t1_further_text.symm.trans (PySem.W.mg_of X G a_further_text)
  cases z1_further_text
  rw [X _ _ l_further_text] at t2_further_text
  cases t2_further_text
  cases t3_further_text
  cases t4_further_text
  have z2_further_text : P1_further_text = P_further_text := by
    obtain ⟨oo, vv, f1, f2, f3, f4, f5, f6, f7, g1, g2, g3, g4, _⟩ := t5_further_text
    rw [X _ _ m_further_text] at g1
    cases g1
    cases g3
    rw [p_further_text] at g4
    cases g4
    rfl
  subst z2_further_text
  obtain ⟨f1_keep_further, c1_keep_further, P1_keep_further, o1_keep_further, fd1_keep_further, t1_keep_further, t2_keep_further, t3_keep_further, t4_keep_further, t5_keep_further, t6_keep_further⟩ := hX "keep_further" (by simp)
  have z1_keep_further := t1_keep_further.symm.trans (PySem.W.mg_of X G a_keep_further)
  cases z1_keep_further
  rw [X _ _ l_keep_further] at t2_keep_further
  cases t2_keep_further
  cases t3_keep_further
  cases t4_keep_further
  have z2_keep_further : P1_keep_further = P_keep_further := by
    obtain ⟨oo, vv, f1, f2, f3, f4, f5, f6, f7, g1, g2, g3, g4, _⟩ := t5_keep_further
    rw [X _ _ m_keep_further] at g1
    cases g1
    cases g3
    rw [p_keep_further] at g4
    cases g4
    rfl
  subst z2_keep_further
  obtain ⟨f1_law, c1_law, P1_law, o1_law, fd1_law, t1_law, t2_law, t3_law, t4_law, t5_law, t6_law⟩ := hX "law" (by simp)
  have z1_law := t1_law.symm.trans (PySem.W.mg_of X G a_law)
  cases z1_law
  rw [X _ _ l_law] at t2_law
  cases t2_law
  cases t3_law
  cases t4_law
  have z2_law : P1_law = P_law := by
    obtain ⟨oo, vv, f1, f2, f3, f4, f5, f6, f7, g1, g2, g3, g4, _⟩ := t5_law
    rw [X _ _ m_law] at g1
    cases g1
    cases g3
    rw [p_law] at g4
    cases g4
    rfl
  subst z2_law
  refine ⟨(PySem.W.fnOf "law" "law" (defArgs s_law) (defBody s_law) (defScope s_law) .none kV_law dc_law pm_law an_law (.ref cc_law) ct_law), [(cc_further_text, P1_further_text), (cc_keep_further, P1_keep_further), (cc_law, P1_law)], spA ⟨mg, ⟨w, K, mg, [(P1_further_text, (("further_text" : Str) ++ ".<locals>.") ++ "<lambda>"), (P1_keep_further, (("keep_further" : Str) ++ ".<locals>.") ++ "<lambda>"), (P1_law, (("law" : Str) ++ ".<locals>.") ++ "<lambda>")]⟩⟩ 1 F_law, fun p hp => ?_, fun p hp => ?_, fun p hp => ?_, fun s v => .of_eq rfl, fun H a ns hl _ hT hS => ?_, fun base _ _ hB => ?_⟩
  · simp only [List.mem_cons, List.not_mem_nil, or_false] at hp
    rcases hp with rfl | rfl | rfl
    · exact t6_further_text
    · exact t6_keep_further
    · exact t6_law
  · simp only [List.mem_cons, List.not_mem_nil, or_false] at hp
    rcases hp with rfl | rfl | rfl
    · exact n_further_text
    · exact n_keep_further
    · exact n_law
  · simp only [List.mem_cons, List.not_mem_nil, or_false] at hp
    rcases hp with rfl | rfl | rfl
    · exact t5_further_text
    · exact t5_keep_further
    · exact t5_law
  · refine law_endT hF H a ns hl hS (fun p hp => ?_) fun _ => rfl
    simp only [List.mem_cons, List.not_mem_nil, or_false] at hp
    rcases hp with rfl | rfl | rfl
    · exact LamX.TabS.nil (hT (cc_further_text, P1_further_text) (by simp))
    · exact LamX.TabS.nil (hT (cc_keep_further, P1_keep_further) (by simp))
    · exact LamX.TabS.nil (hT (cc_law, P1_law) (by simp))
  have B_further_text : LamB mg [(P1_further_text, (("further_text" : Str) ++ ".<locals>.") ++ "<lambda>"), (P1_keep_further, (("keep_further" : Str) ++ ".<locals>.") ++ "<lambda>"), (P1_law, (("law" : Str) ++ ".<locals>.") ++ "<lambda>")] base (PySem.W.fnOf "further_text" "further_text" (defArgs s_further_text) (defBody s_further_text) (defScope s_further_text) .none kV_further_text dc_further_text pm_further_text an_further_text (.ref cc_further_text) ct_further_text) ((("further_text" : Str) ++ ".<locals>.") ++ "<lambda>") cc_further_text P1_further_text := by
    refine ⟨rfl, hB (cc_further_text, P1_further_text) (by simp), by simp, ?_⟩
    · intro p hp e
      simp only [List.mem_cons, List.not_mem_nil, or_false] at hp
      rcases hp with rfl | rfl | rfl
      · rfl
      · exact absurd e.symm ne_further_text_keep_further
      · exact absurd e.symm ne_further_text_law
  have B_keep_further : LamB mg [(P1_further_text, (("further_text" : Str) ++ ".<locals>.") ++ "<lambda>"), (P1_keep_further, (("keep_further" : Str) ++ ".<locals>.") ++ "<lambda>"), (P1_law, (("law" : Str) ++ ".<locals>.") ++ "<lambda>")] base (PySem.W.fnOf "keep_further" "keep_further" (defArgs s_keep_further) (defBody s_keep_further) (defScope s_keep_further) .none kV_keep_further dc_keep_further pm_keep_further an_keep_further (.ref cc_keep_further) ct_keep_further) ((("keep_further" : Str) ++ ".<locals>.") ++ "<lambda>") cc_keep_further P1_keep_further := by
    refine ⟨rfl, hB (cc_keep_further, P1_keep_further) (by simp), by simp, ?_⟩
    · intro p hp e
      simp only [List.mem_cons, List.not_mem_nil, or_false] at hp
      rcases hp with rfl | rfl | rfl
      · exact absurd e ne_further_text_keep_further
      · rfl
      · exact absurd e.symm ne_keep_further_law
  have B_law : LamB mg [(P1_further_text, (("further_text" : Str) ++ ".<locals>.") ++ "<lambda>"), (P1_keep_further, (("keep_further" : Str) ++ ".<locals>.") ++ "<lambda>"), (P1_law, (("law" : Str) ++ ".<locals>.") ++ "<lambda>")] base (PySem.W.fnOf "law" "law" (defArgs s_law) (defBody s_law) (defScope s_law) .none kV_law dc_law pm_law an_law (.ref cc_law) ct_law) ((("law" : Str) ++ ".<locals>.") ++ "<lambda>") cc_law P1_law := by
    refine ⟨rfl, hB (cc_law, P1_law) (by simp), by simp, ?_⟩
    · intro p hp e
      simp only [List.mem_cons, List.not_mem_nil, or_false] at hp
      rcases hp with rfl | rfl | rfl
      · exact absurd e ne_further_text_law
      · exact absurd e ne_keep_further_law
      · rfl
  have o_BadQuestion : OexC K C_BadQuestion := oexC_mk xl_BadQuestion xr_BadQuestion xs_BadQuestion x3_BadQuestion xy_BadQuestion xk_BadQuestion
  have z_BadQuestion : SI.SupC l.prog K mg C_BadQuestion cc_iBadQuestion cd_iBadQuestion := ⟨o_BadQuestion, ⟨_, _, _, xo_BadQuestion⟩, ⟨_, _, _, _, _, _, xp_BadQuestion, xq_BadQuestion, xw_BadQuestion⟩, xb_BadQuestion, xu_BadQuestion, xv_BadQuestion, xz1, T.b_super, xz2⟩
  have g_BadQuestion : SI.Exc1 l.prog w K mg base "BadQuestion" "part" 1 := ⟨C_BadQuestion, fI_BadQuestion, _, (PySem.W.mg_of X G xg_BadQuestion), o_BadQuestion, xi_BadQuestion, xj_BadQuestion, SI.init1_fn (k := 0) xL_BadQuestion xc_BadQuestion ⟨rfl, rfl, rfl, by decide +kernel, by decide +kernel, by decide +kernel, by decide +kernel, rfl, rfl⟩ rfl rfl z_BadQuestion (by decide) xf_BadQuestion_part (by decide) (by decide) (fun env => ⟨_, rfl⟩), Binds.all fun us hl => match us, hl with | [_, _], _ => rfl⟩
  have o_BadEdits : OexC K C_BadEdits := oexC_mk xl_BadEdits xr_BadEdits xs_BadEdits x3_BadEdits xy_BadEdits xk_BadEdits
  have z_BadEdits : SI.SupC l.prog K mg C_BadEdits cc_iBadEdits cd_iBadEdits := ⟨o_BadEdits, ⟨_, _, _, xo_BadEdits⟩, ⟨_, _, _, _, _, _, xp_BadEdits, xq_BadEdits, xw_BadEdits⟩, xb_BadEdits, xu_BadEdits, xv_BadEdits, xz1, T.b_super, xz2⟩
  have g_BadEdits : SI.Exc1 l.prog w K mg base "BadEdits" "index" 1 := ⟨C_BadEdits, fI_BadEdits, _, (PySem.W.mg_of X G xg_BadEdits), o_BadEdits, xi_BadEdits, xj_BadEdits, SI.init1_fn (k := 0) xL_BadEdits xc_BadEdits ⟨rfl, rfl, rfl, by decide +kernel, by decide +kernel, by decide +kernel, by decide +kernel, rfl, rfl⟩ rfl rfl z_BadEdits (by decide) xf_BadEdits_index (by decide) (by decide) (fun env => ⟨_, rfl⟩), Binds.all fun us hl => match us, hl with | [_, _], _ => rfl⟩
  have o_BadKeeper : OexC K C_BadKeeper := oexC_mk xl_BadKeeper xr_BadKeeper xs_BadKeeper x3_BadKeeper xy_BadKeeper xk_BadKeeper
  have z_BadKeeper : SI.SupC l.prog K mg C_BadKeeper cc_iBadKeeper cd_iBadKeeper := ⟨o_BadKeeper, ⟨_, _, _, xo_BadKeeper⟩, ⟨_, _, _, _, _, _, xp_BadKeeper, xq_BadKeeper, xw_BadKeeper⟩, xb_BadKeeper, xu_BadKeeper, xv_BadKeeper, xz1, T.b_super, xz2⟩
  have g_BadKeeper : SI.Exc1 l.prog w K mg base "BadKeeper" "index" 1 := ⟨C_BadKeeper, fI_BadKeeper, _, (PySem.W.mg_of X G xg_BadKeeper), o_BadKeeper, xi_BadKeeper, xj_BadKeeper, SI.init1_fn (k := 0) xL_BadKeeper xc_BadKeeper ⟨rfl, rfl, rfl, by decide +kernel, by decide +kernel, by decide +kernel, by decide +kernel, rfl, rfl⟩ rfl rfl z_BadKeeper (by decide) xf_BadKeeper_index (by decide) (by decide) (fun env => ⟨_, rfl⟩), Binds.all fun us hl => match us, hl with | [_, _], _ => rfl⟩
  have o_BadMessages : OexC K C_BadMessages := oexC_mk xl_BadMessages xr_BadMessages xs_BadMessages x3_BadMessages xy_BadMessages xk_BadMessages
  have z_BadMessages : SI.SupC l.prog K mg C_BadMessages cc_iBadMessages cd_iBadMessages := ⟨o_BadMessages, ⟨_, _, _, xo_BadMessages⟩, ⟨_, _, _, _, _, _, xp_BadMessages, xq_BadMessages, xw_BadMessages⟩, xb_BadMessages, xu_BadMessages, xv_BadMessages, xz1, T.b_super, xz2⟩
  have g_BadMessages : SI.Exc1 l.prog w K mg base "BadMessages" "index" 1 := ⟨C_BadMessages, fI_BadMessages, _, (PySem.W.mg_of X G xg_BadMessages), o_BadMessages, xi_BadMessages, xj_BadMessages, SI.init1_fn (k := 0) xL_BadMessages xc_BadMessages ⟨rfl, rfl, rfl, by decide +kernel, by decide +kernel, by decide +kernel, by decide +kernel, rfl, rfl⟩ rfl rfl z_BadMessages (by decide) xf_BadMessages_index (by decide) (by decide) (fun env => ⟨_, rfl⟩), Binds.all fun us hl => match us, hl with | [_, _], _ => rfl⟩
  have g_law_taken := ok_law_taken (P := l.prog) (w := w) (Tb := [(P1_further_text, (("further_text" : Str) ++ ".<locals>.") ++ "<lambda>"), (P1_keep_further, (("keep_further" : Str) ++ ".<locals>.") ++ "<lambda>"), (P1_law, (("law" : Str) ++ ".<locals>.") ++ "<lambda>")]) (base := base) T  (fun_mk (st := s_law_taken) l_law_taken c_law_taken k_law_taken) (PySem.W.mg_of X G a_law_taken) 
  have g_law_pick := ok_law_pick (P := l.prog) (w := w) (Tb := [(P1_further_text, (("further_text" : Str) ++ ".<locals>.") ++ "<lambda>"), (P1_keep_further, (("keep_further" : Str) ++ ".<locals>.") ++ "<lambda>"), (P1_law, (("law" : Str) ++ ".<locals>.") ++ "<lambda>")]) (base := base) T g_law_taken (fun_mk (st := s_law_pick) l_law_pick c_law_pick k_law_pick) (PySem.W.mg_of X G a_law_pick) 
  have g_law_deep := ok_law_deep (P := l.prog) (w := w) (Tb := [(P1_further_text, (("further_text" : Str) ++ ".<locals>.") ++ "<lambda>"), (P1_keep_further, (("keep_further" : Str) ++ ".<locals>.") ++ "<lambda>"), (P1_law, (("law" : Str) ++ ".<locals>.") ++ "<lambda>")]) (base := base) T  (fun_mk (st := s_law_deep) l_law_deep c_law_deep k_law_deep) (PySem.W.mg_of X G a_law_deep) 
  have g_law_wide := ok_law_wide (P := l.prog) (w := w) (Tb := [(P1_further_text, (("further_text" : Str) ++ ".<locals>.") ++ "<lambda>"), (P1_keep_further, (("keep_further" : Str) ++ ".<locals>.") ++ "<lambda>"), (P1_law, (("law" : Str) ++ ".<locals>.") ++ "<lambda>")]) (base := base) T  (fun_mk (st := s_law_wide) l_law_wide c_law_wide k_law_wide) (PySem.W.mg_of X G a_law_wide) 
  have g_is_number := ok_is_number (P := l.prog) (w := w) (Tb := [(P1_further_text, (("further_text" : Str) ++ ".<locals>.") ++ "<lambda>"), (P1_keep_further, (("keep_further" : Str) ++ ".<locals>.") ++ "<lambda>"), (P1_law, (("law" : Str) ++ ".<locals>.") ++ "<lambda>")]) (base := base) T  (fun_mk (st := s_is_number) l_is_number c_is_number k_is_number) (PySem.W.mg_of X G a_is_number) 
  have g_check_letters := ok_check_letters (P := l.prog) (w := w) (Tb := [(P1_further_text, (("further_text" : Str) ++ ".<locals>.") ++ "<lambda>"), (P1_keep_further, (("keep_further" : Str) ++ ".<locals>.") ++ "<lambda>"), (P1_law, (("law" : Str) ++ ".<locals>.") ++ "<lambda>")]) (base := base) T g_is_number (fun_mk (st := s_check_letters) l_check_letters c_check_letters k_check_letters) (PySem.W.mg_of X G a_check_letters) 
  have g_are_numbers := ok_are_numbers (P := l.prog) (w := w) (Tb := [(P1_further_text, (("further_text" : Str) ++ ".<locals>.") ++ "<lambda>"), (P1_keep_further, (("keep_further" : Str) ++ ".<locals>.") ++ "<lambda>"), (P1_law, (("law" : Str) ++ ".<locals>.") ++ "<lambda>")]) (base := base) T g_is_number (fun_mk (st := s_are_numbers) l_are_numbers c_are_numbers k_are_numbers) (PySem.W.mg_of X G a_are_numbers) 
  have g_is_text := ok_is_text (P := l.prog) (w := w) (Tb := [(P1_further_text, (("further_text" : Str) ++ ".<locals>.") ++ "<lambda>"), (P1_keep_further, (("keep_further" : Str) ++ ".<locals>.") ++ "<lambda>"), (P1_law, (("law" : Str) ++ ".<locals>.") ++ "<lambda>")]) (base := base) T g_are_numbers (fun_mk (st := s_is_text) l_is_text c_is_text k_is_text) (PySem.W.mg_of X G a_is_text) 
  have g_is_weighing := ok_is_weighing (P := l.prog) (w := w) (Tb := [(P1_further_text, (("further_text" : Str) ++ ".<locals>.") ++ "<lambda>"), (P1_keep_further, (("keep_further" : Str) ++ ".<locals>.") ++ "<lambda>"), (P1_law, (("law" : Str) ++ ".<locals>.") ++ "<lambda>")]) (base := base) T g_is_number g_are_numbers (fun_mk (st := s_is_weighing) l_is_weighing c_is_weighing k_is_weighing) (PySem.W.mg_of X G a_is_weighing) 
  have g_is_plain := ok_is_plain (P := l.prog) (w := w) (Tb := [(P1_further_text, (("further_text" : Str) ++ ".<locals>.") ++ "<lambda>"), (P1_keep_further, (("keep_further" : Str) ++ ".<locals>.") ++ "<lambda>"), (P1_law, (("law" : Str) ++ ".<locals>.") ++ "<lambda>")]) (base := base) T g_is_text g_is_number g_is_weighing (fun_mk (st := s_is_plain) l_is_plain c_is_plain k_is_plain) (PySem.W.mg_of X G a_is_plain) 
  have g_is_ask := ok_is_ask (P := l.prog) (w := w) (Tb := [(P1_further_text, (("further_text" : Str) ++ ".<locals>.") ++ "<lambda>"), (P1_keep_further, (("keep_further" : Str) ++ ".<locals>.") ++ "<lambda>"), (P1_law, (("law" : Str) ++ ".<locals>.") ++ "<lambda>")]) (base := base) T g_is_plain (fun_mk (st := s_is_ask) l_is_ask c_is_ask k_is_ask) (PySem.W.mg_of X G a_is_ask) 8
  have g_plains_of := ok_plains_of (P := l.prog) (w := w) (Tb := [(P1_further_text, (("further_text" : Str) ++ ".<locals>.") ++ "<lambda>"), (P1_keep_further, (("keep_further" : Str) ++ ".<locals>.") ++ "<lambda>"), (P1_law, (("law" : Str) ++ ".<locals>.") ++ "<lambda>")]) (base := base) T  (fun_mk (st := s_plains_of) l_plains_of c_plains_of k_plains_of) (PySem.W.mg_of X G a_plains_of) 8
  have g_check_ask := ok_check_ask (P := l.prog) (w := w) (Tb := [(P1_further_text, (("further_text" : Str) ++ ".<locals>.") ++ "<lambda>"), (P1_keep_further, (("keep_further" : Str) ++ ".<locals>.") ++ "<lambda>"), (P1_law, (("law" : Str) ++ ".<locals>.") ++ "<lambda>")]) (base := base) T g_is_ask g_plains_of (fun_mk (st := s_check_ask) l_check_ask c_check_ask k_check_ask) (PySem.W.mg_of X G a_check_ask) 
  have g_check_text := ok_check_text (P := l.prog) (w := w) (Tb := [(P1_further_text, (("further_text" : Str) ++ ".<locals>.") ++ "<lambda>"), (P1_keep_further, (("keep_further" : Str) ++ ".<locals>.") ++ "<lambda>"), (P1_law, (("law" : Str) ++ ".<locals>.") ++ "<lambda>")]) (base := base) T g_is_text (fun_mk (st := s_check_text) l_check_text c_check_text k_check_text) (PySem.W.mg_of X G a_check_text) 
  have g_is_true := ok_is_true (P := l.prog) (w := w) (Tb := [(P1_further_text, (("further_text" : Str) ++ ".<locals>.") ++ "<lambda>"), (P1_keep_further, (("keep_further" : Str) ++ ".<locals>.") ++ "<lambda>"), (P1_law, (("law" : Str) ++ ".<locals>.") ++ "<lambda>")]) (base := base) T g_check_letters g_check_ask g_check_text (fun_mk (st := s_is_true) l_is_true c_is_true k_is_true) (PySem.W.mg_of X G a_is_true) 
  have g_known_behind := ok_known_behind (P := l.prog) (w := w) (Tb := [(P1_further_text, (("further_text" : Str) ++ ".<locals>.") ++ "<lambda>"), (P1_keep_further, (("keep_further" : Str) ++ ".<locals>.") ++ "<lambda>"), (P1_law, (("law" : Str) ++ ".<locals>.") ++ "<lambda>")]) (base := base) T  (fun_mk (st := s_known_behind) l_known_behind c_known_behind k_known_behind) (PySem.W.mg_of X G a_known_behind) 
  have g_most_known := ok_most_known (P := l.prog) (w := w) (Tb := [(P1_further_text, (("further_text" : Str) ++ ".<locals>.") ++ "<lambda>"), (P1_keep_further, (("keep_further" : Str) ++ ".<locals>.") ++ "<lambda>"), (P1_law, (("law" : Str) ++ ".<locals>.") ++ "<lambda>")]) (base := base) T  (fun_mk (st := s_most_known) l_most_known c_most_known k_most_known) (PySem.W.mg_of X G a_most_known) 
  have g_table_behind := ok_table_behind (P := l.prog) (w := w) (Tb := [(P1_further_text, (("further_text" : Str) ++ ".<locals>.") ++ "<lambda>"), (P1_keep_further, (("keep_further" : Str) ++ ".<locals>.") ++ "<lambda>"), (P1_law, (("law" : Str) ++ ".<locals>.") ++ "<lambda>")]) (base := base) T g_most_known g_known_behind (fun_mk (st := s_table_behind) l_table_behind c_table_behind k_table_behind) (PySem.W.mg_of X G a_table_behind) 
  have g_numbered := ok_numbered (P := l.prog) (w := w) (Tb := [(P1_further_text, (("further_text" : Str) ++ ".<locals>.") ++ "<lambda>"), (P1_keep_further, (("keep_further" : Str) ++ ".<locals>.") ++ "<lambda>"), (P1_law, (("law" : Str) ++ ".<locals>.") ++ "<lambda>")]) (base := base) T  (fun_mk (st := s_numbered) l_numbered c_numbered k_numbered) (PySem.W.mg_of X G a_numbered) 
  have g_is_met := ok_is_met (P := l.prog) (w := w) (Tb := [(P1_further_text, (("further_text" : Str) ++ ".<locals>.") ++ "<lambda>"), (P1_keep_further, (("keep_further" : Str) ++ ".<locals>.") ++ "<lambda>"), (P1_law, (("law" : Str) ++ ".<locals>.") ++ "<lambda>")]) (base := base) T  (fun_mk (st := s_is_met) l_is_met c_is_met k_is_met) (PySem.W.mg_of X G a_is_met) 
  have g_is_joined := ok_is_joined (P := l.prog) (w := w) (Tb := [(P1_further_text, (("further_text" : Str) ++ ".<locals>.") ++ "<lambda>"), (P1_keep_further, (("keep_further" : Str) ++ ".<locals>.") ++ "<lambda>"), (P1_law, (("law" : Str) ++ ".<locals>.") ++ "<lambda>")]) (base := base) T  (fun_mk (st := s_is_joined) l_is_joined c_is_joined k_is_joined) (PySem.W.mg_of X G a_is_joined) 8
  have g_parted_groups := ok_parted_groups (P := l.prog) (w := w) (Tb := [(P1_further_text, (("further_text" : Str) ++ ".<locals>.") ++ "<lambda>"), (P1_keep_further, (("keep_further" : Str) ++ ".<locals>.") ++ "<lambda>"), (P1_law, (("law" : Str) ++ ".<locals>.") ++ "<lambda>")]) (base := base) T  (fun_mk (st := s_parted_groups) l_parted_groups c_parted_groups k_parted_groups) (PySem.W.mg_of X G a_parted_groups) 
  have g_groups_of := ok_groups_of (P := l.prog) (w := w) (Tb := [(P1_further_text, (("further_text" : Str) ++ ".<locals>.") ++ "<lambda>"), (P1_keep_further, (("keep_further" : Str) ++ ".<locals>.") ++ "<lambda>"), (P1_law, (("law" : Str) ++ ".<locals>.") ++ "<lambda>")]) (base := base) T g_parted_groups ⟨⟨_, _, _, _, _, _, _, _, _, _, rfl, l_groups_of, c_groups_of, .inr ⟨by simp, T_groups_of, _, yT_groups_of.toList, _, rfl, t_groups_of, rfl, u_groups_of⟩, .inl rfl⟩, k_groups_of⟩ (PySem.W.mg_of X G a_groups_of) 
  have g_least_of := ok_least_of (P := l.prog) (w := w) (Tb := [(P1_further_text, (("further_text" : Str) ++ ".<locals>.") ++ "<lambda>"), (P1_keep_further, (("keep_further" : Str) ++ ".<locals>.") ++ "<lambda>"), (P1_law, (("law" : Str) ++ ".<locals>.") ++ "<lambda>")]) (base := base) T g_groups_of ⟨⟨_, _, _, _, _, _, _, _, _, _, rfl, l_least_of, c_least_of, .inr ⟨by simp, T_least_of, _, yT_least_of.toList, _, rfl, t_least_of, rfl, u_least_of⟩, .inl rfl⟩, k_least_of⟩ (PySem.W.mg_of X G a_least_of) 
  have g_question_of := ok_question_of (P := l.prog) (w := w) (Tb := [(P1_further_text, (("further_text" : Str) ++ ".<locals>.") ++ "<lambda>"), (P1_keep_further, (("keep_further" : Str) ++ ".<locals>.") ++ "<lambda>"), (P1_law, (("law" : Str) ++ ".<locals>.") ++ "<lambda>")]) (base := base) T g_check_letters g_check_ask g_plains_of g_table_behind g_numbered g_is_met g_is_joined g_least_of (fun_mk (st := s_question_of) l_question_of c_question_of k_question_of) (PySem.W.mg_of X G a_question_of) 
  have g_write_ask := ok_write_ask (P := l.prog) (w := w) (Tb := [(P1_further_text, (("further_text" : Str) ++ ".<locals>.") ++ "<lambda>"), (P1_keep_further, (("keep_further" : Str) ++ ".<locals>.") ++ "<lambda>"), (P1_law, (("law" : Str) ++ ".<locals>.") ++ "<lambda>")]) (base := base) T g_check_letters g_check_ask (fun_mk (st := s_write_ask) l_write_ask c_write_ask k_write_ask) (PySem.W.mg_of X G a_write_ask) 
  have g_check_string := ok_check_string (P := l.prog) (w := w) (Tb := [(P1_further_text, (("further_text" : Str) ++ ".<locals>.") ++ "<lambda>"), (P1_keep_further, (("keep_further" : Str) ++ ".<locals>.") ++ "<lambda>"), (P1_law, (("law" : Str) ++ ".<locals>.") ++ "<lambda>")]) (base := base) T  (fun_mk (st := s_check_string) l_check_string c_check_string k_check_string) (PySem.W.mg_of X G a_check_string) 
  have g_read_ask := ok_read_ask (P := l.prog) (w := w) (Tb := [(P1_further_text, (("further_text" : Str) ++ ".<locals>.") ++ "<lambda>"), (P1_keep_further, (("keep_further" : Str) ++ ".<locals>.") ++ "<lambda>"), (P1_law, (("law" : Str) ++ ".<locals>.") ++ "<lambda>")]) (base := base) T g_check_letters g_check_string (fun_mk (st := s_read_ask) l_read_ask c_read_ask k_read_ask) (PySem.W.mg_of X G a_read_ask) 
  have g_check_further := ok_check_further (P := l.prog) (w := w) (Tb := [(P1_further_text, (("further_text" : Str) ++ ".<locals>.") ++ "<lambda>"), (P1_keep_further, (("keep_further" : Str) ++ ".<locals>.") ++ "<lambda>"), (P1_law, (("law" : Str) ++ ".<locals>.") ++ "<lambda>")]) (base := base) T  (fun_mk (st := s_check_further) l_check_further c_check_further k_check_further) (PySem.W.mg_of X G a_check_further) 
  have g_further_text := ok_further_text (P := l.prog) (w := w) (Tb := [(P1_further_text, (("further_text" : Str) ++ ".<locals>.") ++ "<lambda>"), (P1_keep_further, (("keep_further" : Str) ++ ".<locals>.") ++ "<lambda>"), (P1_law, (("law" : Str) ++ ".<locals>.") ++ "<lambda>")]) (base := base) T g_check_further g_check_letters (ok_texts_by (P := l.prog) (w := w) (Tb := [(P1_further_text, (("further_text" : Str) ++ ".<locals>.") ++ "<lambda>"), (P1_keep_further, (("keep_further" : Str) ++ ".<locals>.") ++ "<lambda>"), (P1_law, (("law" : Str) ++ ".<locals>.") ++ "<lambda>")]) (base := base) (k := 2) (by decide) T g_BadEdits (fun_mk (st := s_texts_by) l_texts_by c_texts_by k_texts_by) (PySem.W.mg_of X G a_texts_by)) (fun_mk (st := s_further_text) l_further_text c_further_text k_further_text) (PySem.W.mg_of X G a_further_text) B_further_text 
  have g_further_told := ok_further_told (P := l.prog) (w := w) (Tb := [(P1_further_text, (("further_text" : Str) ++ ".<locals>.") ++ "<lambda>"), (P1_keep_further, (("keep_further" : Str) ++ ".<locals>.") ++ "<lambda>"), (P1_law, (("law" : Str) ++ ".<locals>.") ++ "<lambda>")]) (base := base) T g_further_text (fun_mk (st := s_further_told) l_further_told c_further_told k_further_told) (PySem.W.mg_of X G a_further_told) 
  have g_further_messages_with := ok_further_messages_with (P := l.prog) (w := w) (Tb := [(P1_further_text, (("further_text" : Str) ++ ".<locals>.") ++ "<lambda>"), (P1_keep_further, (("keep_further" : Str) ++ ".<locals>.") ++ "<lambda>"), (P1_law, (("law" : Str) ++ ".<locals>.") ++ "<lambda>")]) (base := base) T  (fun_mk (st := s_further_messages_with) l_further_messages_with c_further_messages_with k_further_messages_with) (PySem.W.mg_of X G a_further_messages_with) 
  have g_further_messages := ok_further_messages (P := l.prog) (w := w) (Tb := [(P1_further_text, (("further_text" : Str) ++ ".<locals>.") ++ "<lambda>"), (P1_keep_further, (("keep_further" : Str) ++ ".<locals>.") ++ "<lambda>"), (P1_law, (("law" : Str) ++ ".<locals>.") ++ "<lambda>")]) (base := base) T g_check_further g_check_letters g_further_messages_with (fun_mk (st := s_further_messages) l_further_messages c_further_messages k_further_messages) (PySem.W.mg_of X G a_further_messages) 
  have g_are_steps := ok_are_steps (P := l.prog) (w := w) (Tb := [(P1_further_text, (("further_text" : Str) ++ ".<locals>.") ++ "<lambda>"), (P1_keep_further, (("keep_further" : Str) ++ ".<locals>.") ++ "<lambda>"), (P1_law, (("law" : Str) ++ ".<locals>.") ++ "<lambda>")]) (base := base) T g_are_numbers (fun_mk (st := s_are_steps) l_are_steps c_are_steps k_are_steps) (PySem.W.mg_of X G a_are_steps) 
  have g_check_question := ok_check_question (P := l.prog) (w := w) (Tb := [(P1_further_text, (("further_text" : Str) ++ ".<locals>.") ++ "<lambda>"), (P1_keep_further, (("keep_further" : Str) ++ ".<locals>.") ++ "<lambda>"), (P1_law, (("law" : Str) ++ ".<locals>.") ++ "<lambda>")]) (base := base) T g_BadQuestion g_is_number g_are_steps g_are_numbers (fun_mk (st := s_check_question) l_check_question c_check_question k_check_question) (PySem.W.mg_of X G a_check_question) 
  have g_can_keep_further := ok_can_keep_further (P := l.prog) (w := w) (Tb := [(P1_further_text, (("further_text" : Str) ++ ".<locals>.") ++ "<lambda>"), (P1_keep_further, (("keep_further" : Str) ++ ".<locals>.") ++ "<lambda>"), (P1_law, (("law" : Str) ++ ".<locals>.") ++ "<lambda>")]) (base := base) T g_check_further g_check_question (fun_mk (st := s_can_keep_further) l_can_keep_further c_can_keep_further k_can_keep_further) (PySem.W.mg_of X G a_can_keep_further) 
  have g_further_keeper := ok_further_keeper (P := l.prog) (w := w) (Tb := [(P1_further_text, (("further_text" : Str) ++ ".<locals>.") ++ "<lambda>"), (P1_keep_further, (("keep_further" : Str) ++ ".<locals>.") ++ "<lambda>"), (P1_law, (("law" : Str) ++ ".<locals>.") ++ "<lambda>")]) (base := base) T g_check_further g_check_question (fun_mk (st := s_further_keeper) l_further_keeper c_further_keeper k_further_keeper) (PySem.W.mg_of X G a_further_keeper) 
  have g_check_states := ok_check_states (P := l.prog) (w := w) (Tb := [(P1_further_text, (("further_text" : Str) ++ ".<locals>.") ++ "<lambda>"), (P1_keep_further, (("keep_further" : Str) ++ ".<locals>.") ++ "<lambda>"), (P1_law, (("law" : Str) ++ ".<locals>.") ++ "<lambda>")]) (base := base) T g_BadKeeper g_are_numbers g_is_number (fun_mk (st := s_check_states) l_check_states c_check_states k_check_states) (PySem.W.mg_of X G a_check_states) 
  have g_is_further_message := ok_is_further_message (P := l.prog) (w := w) (Tb := [(P1_further_text, (("further_text" : Str) ++ ".<locals>.") ++ "<lambda>"), (P1_keep_further, (("keep_further" : Str) ++ ".<locals>.") ++ "<lambda>"), (P1_law, (("law" : Str) ++ ".<locals>.") ++ "<lambda>")]) (base := base) T g_are_numbers (fun_mk (st := s_is_further_message) l_is_further_message c_is_further_message k_is_further_message) (PySem.W.mg_of X G a_is_further_message) 
  have g_keep_further := ok_keep_further (P := l.prog) (w := w) (Tb := [(P1_further_text, (("further_text" : Str) ++ ".<locals>.") ++ "<lambda>"), (P1_keep_further, (("keep_further" : Str) ++ ".<locals>.") ++ "<lambda>"), (P1_law, (("law" : Str) ++ ".<locals>.") ++ "<lambda>")]) (base := base) T g_check_further g_check_letters g_further_messages g_check_states (ok_check_messages (P := l.prog) (w := w) (Tb := [(P1_further_text, (("further_text" : Str) ++ ".<locals>.") ++ "<lambda>"), (P1_keep_further, (("keep_further" : Str) ++ ".<locals>.") ++ "<lambda>"), (P1_law, (("law" : Str) ++ ".<locals>.") ++ "<lambda>")]) (base := base) (k := 4) (by decide) T g_BadMessages (fun_mk (st := s_check_messages) l_check_messages c_check_messages k_check_messages) (PySem.W.mg_of X G a_check_messages)) g_is_further_message (fun_mk (st := s_keep_further) l_keep_further c_keep_further k_keep_further) (PySem.W.mg_of X G a_keep_further) B_keep_further 
  have g_is_commuting := ok_is_commuting (P := l.prog) (w := w) (Tb := [(P1_further_text, (("further_text" : Str) ++ ".<locals>.") ++ "<lambda>"), (P1_keep_further, (("keep_further" : Str) ++ ".<locals>.") ++ "<lambda>"), (P1_law, (("law" : Str) ++ ".<locals>.") ++ "<lambda>")]) (base := base) T  (fun_mk (st := s_is_commuting) l_is_commuting c_is_commuting k_is_commuting) (PySem.W.mg_of X G a_is_commuting) 
  have g_is_kept_further := ok_is_kept_further (P := l.prog) (w := w) (Tb := [(P1_further_text, (("further_text" : Str) ++ ".<locals>.") ++ "<lambda>"), (P1_keep_further, (("keep_further" : Str) ++ ".<locals>.") ++ "<lambda>"), (P1_law, (("law" : Str) ++ ".<locals>.") ++ "<lambda>")]) (base := base) T g_is_commuting (fun_mk (st := s_is_kept_further) l_is_kept_further c_is_kept_further k_is_kept_further) (PySem.W.mg_of X G a_is_kept_further) 
  have g_check_unkept := ok_check_unkept (P := l.prog) (w := w) (Tb := [(P1_further_text, (("further_text" : Str) ++ ".<locals>.") ++ "<lambda>"), (P1_keep_further, (("keep_further" : Str) ++ ".<locals>.") ++ "<lambda>"), (P1_law, (("law" : Str) ++ ".<locals>.") ++ "<lambda>")]) (base := base) T g_check_further g_check_question g_check_states g_further_messages g_is_kept_further g_least_of (fun_mk (st := s_check_unkept) l_check_unkept c_check_unkept k_check_unkept) (PySem.W.mg_of X G a_check_unkept) 
  have g_mislead := ok_mislead (P := l.prog) (w := w) (Tb := [(P1_further_text, (("further_text" : Str) ++ ".<locals>.") ++ "<lambda>"), (P1_keep_further, (("keep_further" : Str) ++ ".<locals>.") ++ "<lambda>"), (P1_law, (("law" : Str) ++ ".<locals>.") ++ "<lambda>")]) (base := base) T g_check_unkept (fun_mk (st := s_mislead) l_mislead c_mislead k_mislead) (PySem.W.mg_of X G a_mislead) 
  have g_shows_misled := ok_shows_misled (P := l.prog) (w := w) (Tb := [(P1_further_text, (("further_text" : Str) ++ ".<locals>.") ++ "<lambda>"), (P1_keep_further, (("keep_further" : Str) ++ ".<locals>.") ++ "<lambda>"), (P1_law, (("law" : Str) ++ ".<locals>.") ++ "<lambda>")]) (base := base) T g_check_unkept (fun_mk (st := s_shows_misled) l_shows_misled c_shows_misled k_shows_misled) (PySem.W.mg_of X G a_shows_misled) 
  have g_further_reason := ok_further_reason (P := l.prog) (w := w) (Tb := [(P1_further_text, (("further_text" : Str) ++ ".<locals>.") ++ "<lambda>"), (P1_keep_further, (("keep_further" : Str) ++ ".<locals>.") ++ "<lambda>"), (P1_law, (("law" : Str) ++ ".<locals>.") ++ "<lambda>")]) (base := base) T g_check_further g_check_question (fun_mk (st := s_further_reason) l_further_reason c_further_reason k_further_reason) (PySem.W.mg_of X G a_further_reason) 
  have g_shows_further_reason := ok_shows_further_reason (P := l.prog) (w := w) (Tb := [(P1_further_text, (("further_text" : Str) ++ ".<locals>.") ++ "<lambda>"), (P1_keep_further, (("keep_further" : Str) ++ ".<locals>.") ++ "<lambda>"), (P1_law, (("law" : Str) ++ ".<locals>.") ++ "<lambda>")]) (base := base) T g_check_further g_check_question (fun_mk (st := s_shows_further_reason) l_shows_further_reason c_shows_further_reason k_shows_further_reason) (PySem.W.mg_of X G a_shows_further_reason) 
  have gl := ok_law (P := l.prog) (w := w) (Tb := [(P1_further_text, (("further_text" : Str) ++ ".<locals>.") ++ "<lambda>"), (P1_keep_further, (("keep_further" : Str) ++ ".<locals>.") ++ "<lambda>"), (P1_law, (("law" : Str) ++ ".<locals>.") ++ "<lambda>")]) (base := base) T g_law_pick g_law_deep g_law_wide (ok_law_error (P := l.prog) (w := w) (Tb := [(P1_further_text, (("further_text" : Str) ++ ".<locals>.") ++ "<lambda>"), (P1_keep_further, (("keep_further" : Str) ++ ".<locals>.") ++ "<lambda>"), (P1_law, (("law" : Str) ++ ".<locals>.") ++ "<lambda>")]) (base := base) (k := 15) (by decide) T  (fun_mk (st := s_law_error) l_law_error c_law_error k_law_error) (PySem.W.mg_of X G a_law_error)) g_is_true g_question_of g_write_ask g_read_ask g_further_text g_further_told g_further_messages g_can_keep_further g_further_keeper g_keep_further g_mislead g_shows_misled g_further_reason g_shows_further_reason Fl B_law
  exact gl
end P68
open PySem PySem.W PyProof.Rows
set_option maxHeartbeats 0 in
theorem PySem.Challenge.cw_toldwhat_k68_upper_layers_refused_holds : PySem.Challenge.rw_toldwhat_k68_upper_layers_refused.Holds := by
  w_on; o_law; k_head; (case hw => w_witness2)
  k_fill
  refine AB.walk_ofX (l := PySem.Challenge.rw_toldwhat_k68_upper_layers_refused) (n := 63) (k := 17) (x := "script") (CX := fun w => L2.CX PySem.Challenge.rw_toldwhat_k68_upper_layers_refused.prog w) ["further_text", "keep_further", "law"] rfl (by decide) rfl ⟨rfl, by decide, by decide⟩ (by decide +kernel) (fun w h Y => PySem.W.km_in_of Y) ?F AB.cx_false
  case F =>
    intro w mg fa h Yh KX G hmg hX
    refine' P68.all_mk KX G hmg hX P68.maths ?a_law_taken ?l_law_taken ?c_law_taken ?k_law_taken ?a_law_pick ?l_law_pick ?c_law_pick ?k_law_pick ?a_law_deep ?l_law_deep ?c_law_deep ?k_law_deep ?a_law_wide ?l_law_wide ?c_law_wide ?k_law_wide ?a_law_error ?l_law_error ?c_law_error ?k_law_error ?a_is_number ?l_is_number ?c_is_number ?k_is_number ?a_check_letters ?l_check_letters ?c_check_letters ?k_check_letters ?a_are_numbers ?l_are_numbers ?c_are_numbers ?k_are_numbers ?a_is_text ?l_is_text ?c_is_text ?k_is_text ?a_is_weighing ?l_is_weighing ?c_is_weighing ?k_is_weighing ?a_is_plain ?l_is_plain ?c_is_plain ?k_is_plain ?a_is_ask ?l_is_ask ?c_is_ask ?k_is_ask ?a_plains_of ?l_plains_of ?c_plains_of ?k_plains_of ?a_check_ask ?l_check_ask ?c_check_ask ?k_check_ask ?a_check_text ?l_check_text ?c_check_text ?k_check_text ?a_is_true ?l_is_true ?c_is_true ?k_is_true ?a_known_behind ?l_known_behind ?c_known_behind ?k_known_behind ?a_most_known ?l_most_known ?c_most_known ?k_most_known ?a_table_behind ?l_table_behind ?c_table_behind ?k_table_behind ?a_numbered ?l_numbered ?c_numbered ?k_numbered ?a_is_met ?l_is_met ?c_is_met ?k_is_met ?a_is_joined ?l_is_joined ?c_is_joined ?k_is_joined ?a_parted_groups ?l_parted_groups ?c_parted_groups ?k_parted_groups ?a_groups_of ?l_groups_of ?c_groups_of ?k_groups_of ?t_groups_of ?u_groups_of ?a_least_of ?l_least_of ?c_least_of ?k_least_of ?t_least_of ?u_least_of ?a_question_of ?l_question_of ?c_question_of ?k_question_of ?a_write_ask ?l_write_ask ?c_write_ask ?k_write_ask ?a_check_string ?l_check_string ?c_check_string ?k_check_string ?a_read_ask ?l_read_ask ?c_read_ask ?k_read_ask ?a_check_further ?l_check_further ?c_check_further ?k_check_further ?a_texts_by ?l_texts_by ?c_texts_by ?k_texts_by ?a_further_text ?l_further_text ?c_further_text ?k_further_text ?m_further_text ?p_further_text ?n_further_text ?a_further_told ?l_further_told ?c_further_told ?k_further_told ?a_further_messages_with ?l_further_messages_with ?c_further_messages_with ?k_further_messages_with ?a_further_messages ?l_further_messages ?c_further_messages ?k_further_messages ?a_are_steps ?l_are_steps ?c_are_steps ?k_are_steps ?a_check_question ?l_check_question ?c_check_question ?k_check_question ?a_can_keep_further ?l_can_keep_further ?c_can_keep_further ?k_can_keep_further ?a_further_keeper ?l_further_keeper ?c_further_keeper ?k_further_keeper ?a_check_states ?l_check_states ?c_check_states ?k_check_states ?a_check_messages ?l_check_messages ?c_check_messages ?k_check_messages ?a_is_further_message ?l_is_further_message ?c_is_further_message ?k_is_further_message ?a_keep_further ?l_keep_further ?c_keep_further ?k_keep_further ?m_keep_further ?p_keep_further ?n_keep_further ?a_is_commuting ?l_is_commuting ?c_is_commuting ?k_is_commuting ?a_is_kept_further ?l_is_kept_further ?c_is_kept_further ?k_is_kept_further ?a_check_unkept ?l_check_unkept ?c_check_unkept ?k_check_unkept ?a_mislead ?l_mislead ?c_mislead ?k_mislead ?a_shows_misled ?l_shows_misled ?c_shows_misled ?k_shows_misled ?a_further_reason ?l_further_reason ?c_further_reason ?k_further_reason ?a_shows_further_reason ?l_shows_further_reason ?c_shows_further_reason ?k_shows_further_reason ?a_law ?l_law ?c_law ?k_law ?m_law ?p_law ?n_law ?ne_further_text_keep_further ?ne_further_text_law ?ne_keep_further_law ?v_MOST_ANSWER ?v_MOST_EDITS ?v_MOST_LETTERS ?v_MOST_MEMORIES ?v_MOST_MESSAGES ?v_MOST_MODULUS ?v_MOST_PLAIN ?v_MOST_ROWS ?v_MOST_STATES ?v_MOST_TEXT ?v_MOST_TIMES ?v_MOST_WITHIN ?v_MOST_WORD ?z_ValueError ?z_all ?z_any ?z_bool ?z_enumerate ?z_int ?z_isinstance ?z_len ?z_list ?z_range ?z_set ?z_sorted ?z_str ?z_super ?z_tuple ?z_zip ?g_FURTHER_WORDS ?h_FURTHER_WORDS ?i_FURTHER_WORDS ?j_FURTHER_WORDS ?x_FURTHER_WORDS_0 ?e_FURTHER_WORDS_0 ?w_FURTHER_WORDS_0 ?q_FURTHER_WORDS_0 ?x_FURTHER_WORDS_1 ?e_FURTHER_WORDS_1 ?w_FURTHER_WORDS_1 ?q_FURTHER_WORDS_1 ?x_FURTHER_WORDS_2 ?e_FURTHER_WORDS_2 ?w_FURTHER_WORDS_2 ?q_FURTHER_WORDS_2 ?x_FURTHER_WORDS_3 ?e_FURTHER_WORDS_3 ?w_FURTHER_WORDS_3 ?q_FURTHER_WORDS_3 ?g_TOLD_LETTERS ?h_TOLD_LETTERS ?i_TOLD_LETTERS ?j_TOLD_LETTERS ?x_TOLD_LETTERS_0 ?x_TOLD_LETTERS_1 ?x_TOLD_LETTERS_2 ?x_TOLD_LETTERS_3 ?x_TOLD_LETTERS_4 ?x_JOINING ?e_JOINING ?w_JOINING ?q_JOINING ?x_WORDED ?e_WORDED ?w_WORDED ?q_WORDED ?p_permutations ?xg_Answerable ?xg_BadAsk ?xg_BadEdits ?xg_BadKeeper ?xg_BadMessages ?xg_BadNumber ?xg_BadQuestion ?xg_BadString ?xg_BadText ?xg_BadWorld ?xg_KeeperError ?xg_NoKeeper ?x3_Answerable ?x4_Answerable ?xy_Answerable ?xd_Answerable ?x3_BadAsk ?x4_BadAsk ?xy_BadAsk ?xd_BadAsk ?x3_BadEdits ?x4_BadEdits ?xy_BadEdits ?xd_BadEdits ?x3_BadKeeper ?x4_BadKeeper ?xy_BadKeeper ?xd_BadKeeper ?x3_BadMessages ?x4_BadMessages ?xy_BadMessages ?xd_BadMessages ?x3_BadNumber ?x4_BadNumber ?xy_BadNumber ?xd_BadNumber ?x3_BadQuestion ?x4_BadQuestion ?xy_BadQuestion ?xd_BadQuestion ?x3_BadString ?x4_BadString ?xy_BadString ?xd_BadString ?x3_BadText ?x4_BadText ?xy_BadText ?xd_BadText ?x3_BadWorld ?x4_BadWorld ?xy_BadWorld ?xd_BadWorld ?x3_KeeperError ?x4_KeeperError ?xy_KeeperError ?x3_NoKeeper ?x4_NoKeeper ?xy_NoKeeper ?xd_NoKeeper ?xn_BadQuestion_Answerable ?xn_BadQuestion_BadAsk ?xn_BadQuestion_BadEdits ?xn_BadQuestion_BadKeeper ?xn_BadQuestion_BadMessages ?xn_BadQuestion_BadNumber ?xn_BadQuestion_BadQuestion ?xn_BadQuestion_BadString ?xn_BadQuestion_BadText ?xn_BadQuestion_BadWorld ?xn_BadQuestion_KeeperError ?xn_BadQuestion_NoKeeper ?x1_BadQuestion ?x2_BadQuestion ?x5_BadQuestion ?x8_BadQuestion ?xk_BadQuestion ?xf_BadQuestion_part ?xl_BadQuestion ?xr_BadQuestion ?xs_BadQuestion ?xi_BadQuestion ?xj_BadQuestion ?xL_BadQuestion ?xc_BadQuestion ?xo_BadQuestion ?xp_BadQuestion ?xq_BadQuestion ?xw_BadQuestion ?xb_BadQuestion ?xu_BadQuestion ?xv_BadQuestion ?xn_BadNumber_Answerable ?xn_BadNumber_BadAsk ?xn_BadNumber_BadEdits ?xn_BadNumber_BadKeeper ?xn_BadNumber_BadMessages ?xn_BadNumber_BadNumber ?xn_BadNumber_BadQuestion ?xn_BadNumber_BadString ?xn_BadNumber_BadText ?xn_BadNumber_BadWorld ?xn_BadNumber_KeeperError ?xn_BadNumber_NoKeeper ?x1_BadNumber ?x2_BadNumber ?x5_BadNumber ?x8_BadNumber ?xk_BadNumber ?xe_BadNumber ?xn_BadEdits_Answerable ?xn_BadEdits_BadAsk ?xn_BadEdits_BadEdits ?xn_BadEdits_BadKeeper ?xn_BadEdits_BadMessages ?xn_BadEdits_BadNumber ?xn_BadEdits_BadQuestion ?xn_BadEdits_BadString ?xn_BadEdits_BadText ?xn_BadEdits_BadWorld ?xn_BadEdits_KeeperError ?xn_BadEdits_NoKeeper ?x1_BadEdits ?x2_BadEdits ?x5_BadEdits ?x8_BadEdits ?xk_BadEdits ?xf_BadEdits_index ?xl_BadEdits ?xr_BadEdits ?xs_BadEdits ?xi_BadEdits ?xj_BadEdits ?xL_BadEdits ?xc_BadEdits ?xo_BadEdits ?xp_BadEdits ?xq_BadEdits ?xw_BadEdits ?xb_BadEdits ?xu_BadEdits ?xv_BadEdits ?xn_BadString_Answerable ?xn_BadString_BadAsk ?xn_BadString_BadEdits ?xn_BadString_BadKeeper ?xn_BadString_BadMessages ?xn_BadString_BadNumber ?xn_BadString_BadQuestion ?xn_BadString_BadString ?xn_BadString_BadText ?xn_BadString_BadWorld ?xn_BadString_KeeperError ?xn_BadString_NoKeeper ?x1_BadString ?x2_BadString ?x5_BadString ?x8_BadString ?xk_BadString ?xe_BadString ?xn_BadKeeper_Answerable ?xn_BadKeeper_BadAsk ?xn_BadKeeper_BadEdits ?xn_BadKeeper_BadKeeper ?xn_BadKeeper_BadMessages ?xn_BadKeeper_BadNumber ?xn_BadKeeper_BadQuestion ?xn_BadKeeper_BadString ?xn_BadKeeper_BadText ?xn_BadKeeper_BadWorld ?xn_BadKeeper_KeeperError ?xn_BadKeeper_NoKeeper ?x1_BadKeeper ?x2_BadKeeper ?x5_BadKeeper ?x8_BadKeeper ?xk_BadKeeper ?xf_BadKeeper_index ?xl_BadKeeper ?xr_BadKeeper ?xs_BadKeeper ?xi_BadKeeper ?xj_BadKeeper ?xL_BadKeeper ?xc_BadKeeper ?xo_BadKeeper ?xp_BadKeeper ?xq_BadKeeper ?xw_BadKeeper ?xb_BadKeeper ?xu_BadKeeper ?xv_BadKeeper ?xn_BadMessages_Answerable ?xn_BadMessages_BadAsk ?xn_BadMessages_BadEdits ?xn_BadMessages_BadKeeper ?xn_BadMessages_BadMessages ?xn_BadMessages_BadNumber ?xn_BadMessages_BadQuestion ?xn_BadMessages_BadString ?xn_BadMessages_BadText ?xn_BadMessages_BadWorld ?xn_BadMessages_KeeperError ?xn_BadMessages_NoKeeper ?x1_BadMessages ?x2_BadMessages ?x5_BadMessages ?x8_BadMessages ?xk_BadMessages ?xf_BadMessages_index ?xl_BadMessages ?xr_BadMessages ?xs_BadMessages ?xi_BadMessages ?xj_BadMessages ?xL_BadMessages ?xc_BadMessages ?xo_BadMessages ?xp_BadMessages ?xq_BadMessages ?xw_BadMessages ?xb_BadMessages ?xu_BadMessages ?xv_BadMessages ?xn_BadText_Answerable ?xn_BadText_BadAsk ?xn_BadText_BadEdits ?xn_BadText_BadKeeper ?xn_BadText_BadMessages ?xn_BadText_BadNumber ?xn_BadText_BadQuestion ?xn_BadText_BadString ?xn_BadText_BadText ?xn_BadText_BadWorld ?xn_BadText_KeeperError ?xn_BadText_NoKeeper ?x1_BadText ?x2_BadText ?x5_BadText ?x8_BadText ?xk_BadText ?xe_BadText ?xn_BadAsk_Answerable ?xn_BadAsk_BadAsk ?xn_BadAsk_BadEdits ?xn_BadAsk_BadKeeper ?xn_BadAsk_BadMessages ?xn_BadAsk_BadNumber ?xn_BadAsk_BadQuestion ?xn_BadAsk_BadString ?xn_BadAsk_BadText ?xn_BadAsk_BadWorld ?xn_BadAsk_KeeperError ?xn_BadAsk_NoKeeper ?x1_BadAsk ?x2_BadAsk ?x5_BadAsk ?x8_BadAsk ?xk_BadAsk ?xe_BadAsk ?xn_BadWorld_Answerable ?xn_BadWorld_BadAsk ?xn_BadWorld_BadEdits ?xn_BadWorld_BadKeeper ?xn_BadWorld_BadMessages ?xn_BadWorld_BadNumber ?xn_BadWorld_BadQuestion ?xn_BadWorld_BadString ?xn_BadWorld_BadText ?xn_BadWorld_BadWorld ?xn_BadWorld_KeeperError ?xn_BadWorld_NoKeeper ?x1_BadWorld ?x2_BadWorld ?x5_BadWorld ?x8_BadWorld ?xk_BadWorld ?xe_BadWorld ?xn_Answerable_Answerable ?xn_Answerable_BadAsk ?xn_Answerable_BadEdits ?xn_Answerable_BadKeeper ?xn_Answerable_BadMessages ?xn_Answerable_BadNumber ?xn_Answerable_BadQuestion ?xn_Answerable_BadString ?xn_Answerable_BadText ?xn_Answerable_BadWorld ?xn_Answerable_KeeperError ?xn_Answerable_NoKeeper ?x1_Answerable ?x2_Answerable ?x5_Answerable ?x8_Answerable ?xk_Answerable ?xe_Answerable ?yn_FURTHER_WORDS_0 ?yn_FURTHER_WORDS_1 ?yn_FURTHER_WORDS_2 ?xq_ValueError_BadQuestion ?xq_ValueError_BadNumber ?xq_ValueError_BadEdits ?xq_ValueError_BadString ?xq_ValueError_BadKeeper ?xq_ValueError_BadMessages ?xq_ValueError_BadText ?xq_ValueError_BadAsk ?xq_ValueError_BadWorld ?xq_ValueError_Answerable ?x6 ?x7 ?xz1 ?xz2
    (case a_law_taken => k_is)
    (case l_law_taken => k_is)
    (case c_law_taken => k_is)
    (case k_law_taken => k_is)
    (case a_law_pick => k_is)
    (case l_law_pick => k_is)
    (case c_law_pick => k_is)
    (case k_law_pick => k_is)
    (case a_law_deep => k_is)
    (case l_law_deep => k_is)
    (case c_law_deep => k_is)
    (case k_law_deep => k_is)
    (case a_law_wide => k_is)
    (case l_law_wide => k_is)
    (case c_law_wide => k_is)
    (case k_law_wide => k_is)
    (case a_law_error => k_is)
    (case l_law_error => k_is)
    (case c_law_error => k_is)
    (case k_law_error => k_is)
    (case a_is_number => k_is)
    (case l_is_number => k_is)
    (case c_is_number => k_is)
    (case k_is_number => k_is)
    (case a_check_letters => k_is)
    (case l_check_letters => k_is)
    (case c_check_letters => k_is)
    (case k_check_letters => k_is)
    (case a_are_numbers => k_is)
    (case l_are_numbers => k_is)
    (case c_are_numbers => k_is)
    (case k_are_numbers => k_is)
    (case a_is_text => k_is)
    (case l_is_text => k_is)
    (case c_is_text => k_is)
    (case k_is_text => k_is)
    (case a_is_weighing => k_is)
    (case l_is_weighing => k_is)
    (case c_is_weighing => k_is)
    (case k_is_weighing => k_is)
    (case a_is_plain => k_is)
    (case l_is_plain => k_is)
    (case c_is_plain => k_is)
    (case k_is_plain => k_is)
    (case a_is_ask => k_is)
    (case l_is_ask => k_is)
    (case c_is_ask => k_is)
    (case k_is_ask => k_is)
    (case a_plains_of => k_is)
    (case l_plains_of => k_is)
    (case c_plains_of => k_is)
    (case k_plains_of => k_is)
    (case a_check_ask => k_is)
    (case l_check_ask => k_is)
    (case c_check_ask => k_is)
    (case k_check_ask => k_is)
    (case a_check_text => k_is)
    (case l_check_text => k_is)
    (case c_check_text => k_is)
    (case k_check_text => k_is)
    (case a_is_true => k_is)
    (case l_is_true => k_is)
    (case c_is_true => k_is)
    (case k_is_true => k_is)
    (case a_known_behind => k_is)
    (case l_known_behind => k_is)
    (case c_known_behind => k_is)
    (case k_known_behind => k_is)
    (case a_most_known => k_is)
    (case l_most_known => k_is)
    (case c_most_known => k_is)
    (case k_most_known => k_is)
    (case a_table_behind => k_is)
    (case l_table_behind => k_is)
    (case c_table_behind => k_is)
    (case k_table_behind => k_is)
    (case a_numbered => k_is)
    (case l_numbered => k_is)
    (case c_numbered => k_is)
    (case k_numbered => k_is)
    (case a_is_met => k_is)
    (case l_is_met => k_is)
    (case c_is_met => k_is)
    (case k_is_met => k_is)
    (case a_is_joined => k_is)
    (case l_is_joined => k_is)
    (case c_is_joined => k_is)
    (case k_is_joined => k_is)
    (case a_parted_groups => k_is)
    (case l_parted_groups => k_is)
    (case c_parted_groups => k_is)
    (case k_parted_groups => k_is)
    (case a_groups_of => k_is)
    (case l_groups_of => k_is)
    (case c_groups_of => k_is)
    (case k_groups_of => k_is)
    (case t_groups_of => k_is)
    (case u_groups_of => exact .cons rfl .nil)
    (case a_least_of => k_is)
    (case l_least_of => k_is)
    (case c_least_of => k_is)
    (case k_least_of => k_is)
    (case t_least_of => k_is)
    (case u_least_of => exact .cons rfl .nil)
    (case a_question_of => k_is)
    (case l_question_of => k_is)
    (case c_question_of => k_is)
    (case k_question_of => k_is)
    (case a_write_ask => k_is)
    (case l_write_ask => k_is)
    (case c_write_ask => k_is)
    (case k_write_ask => k_is)
    (case a_check_string => k_is)
    (case l_check_string => k_is)
    (case c_check_string => k_is)
    (case k_check_string => k_is)
    (case a_read_ask => k_is)
    (case l_read_ask => k_is)
    (case c_read_ask => k_is)
    (case k_read_ask => k_is)
    (case a_check_further => k_is)
    (case l_check_further => k_is)
    (case c_check_further => k_is)
    (case k_check_further => k_is)
    (case a_texts_by => k_is)
    (case l_texts_by => k_is)
    (case c_texts_by => k_is)
    (case k_texts_by => k_is)
    (case a_further_text => k_is)
    (case l_further_text => k_is)
    (case c_further_text => k_is)
    (case k_further_text => k_is)
    (case m_further_text => k_is)
    (case p_further_text => exact rfl)
    (case n_further_text => exact AB.km_out Yh (by decide))
    (case a_further_told => k_is)
    (case l_further_told => k_is)
    (case c_further_told => k_is)
    (case k_further_told => k_is)
    (case a_further_messages_with => k_is)
    (case l_further_messages_with => k_is)
    (case c_further_messages_with => k_is)
    (case k_further_messages_with => k_is)
    (case a_further_messages => k_is)
    (case l_further_messages => k_is)
    (case c_further_messages => k_is)
    (case k_further_messages => k_is)
    (case a_are_steps => k_is)
    (case l_are_steps => k_is)
    (case c_are_steps => k_is)
    (case k_are_steps => k_is)
    (case a_check_question => k_is)
    (case l_check_question => k_is)
    (case c_check_question => k_is)
    (case k_check_question => k_is)
    (case a_can_keep_further => k_is)
    (case l_can_keep_further => k_is)
    (case c_can_keep_further => k_is)
    (case k_can_keep_further => k_is)
    (case a_further_keeper => k_is)
    (case l_further_keeper => k_is)
    (case c_further_keeper => k_is)
    (case k_further_keeper => k_is)
    (case a_check_states => k_is)
    (case l_check_states => k_is)
    (case c_check_states => k_is)
    (case k_check_states => k_is)
    (case a_check_messages => k_is)
    (case l_check_messages => k_is)
    (case c_check_messages => k_is)
    (case k_check_messages => k_is)
    (case a_is_further_message => k_is)
    (case l_is_further_message => k_is)
    (case c_is_further_message => k_is)
    (case k_is_further_message => k_is)
    (case a_keep_further => k_is)
    (case l_keep_further => k_is)
    (case c_keep_further => k_is)
    (case k_keep_further => k_is)
    (case m_keep_further => k_is)
    (case p_keep_further => exact rfl)
    (case n_keep_further => exact AB.km_out Yh (by decide))
    (case a_is_commuting => k_is)
    (case l_is_commuting => k_is)
    (case c_is_commuting => k_is)
    (case k_is_commuting => k_is)
    (case a_is_kept_further => k_is)
    (case l_is_kept_further => k_is)
    (case c_is_kept_further => k_is)
    (case k_is_kept_further => k_is)
    (case a_check_unkept => k_is)
    (case l_check_unkept => k_is)
    (case c_check_unkept => k_is)
    (case k_check_unkept => k_is)
    (case a_mislead => k_is)
    (case l_mislead => k_is)
    (case c_mislead => k_is)
    (case k_mislead => k_is)
    (case a_shows_misled => k_is)
    (case l_shows_misled => k_is)
    (case c_shows_misled => k_is)
    (case k_shows_misled => k_is)
    (case a_further_reason => k_is)
    (case l_further_reason => k_is)
    (case c_further_reason => k_is)
    (case k_further_reason => k_is)
    (case a_shows_further_reason => k_is)
    (case l_shows_further_reason => k_is)
    (case c_shows_further_reason => k_is)
    (case k_shows_further_reason => k_is)
    (case a_law => k_is)
    (case l_law => k_is)
    (case c_law => k_is)
    (case k_law => k_is)
    (case m_law => k_is)
    (case p_law => exact rfl)
    (case n_law => exact AB.km_out Yh (by decide))
    (case ne_further_text_keep_further => decide)
    (case ne_further_text_law => decide)
    (case ne_keep_further_law => decide)
    (case v_MOST_ANSWER => k_is)
    (case v_MOST_EDITS => k_is)
    (case v_MOST_LETTERS => k_is)
    (case v_MOST_MEMORIES => k_is)
    (case v_MOST_MESSAGES => k_is)
    (case v_MOST_MODULUS => k_is)
    (case v_MOST_PLAIN => k_is)
    (case v_MOST_ROWS => k_is)
    (case v_MOST_STATES => k_is)
    (case v_MOST_TEXT => k_is)
    (case v_MOST_TIMES => k_is)
    (case v_MOST_WITHIN => k_is)
    (case v_MOST_WORD => k_is)
    (case z_ValueError => k_is)
    (case z_all => k_is)
    (case z_any => k_is)
    (case z_bool => k_is)
    (case z_enumerate => k_is)
    (case z_int => k_is)
    (case z_isinstance => k_is)
    (case z_len => k_is)
    (case z_list => k_is)
    (case z_range => k_is)
    (case z_set => k_is)
    (case z_sorted => k_is)
    (case z_str => k_is)
    (case z_super => k_is)
    (case z_tuple => k_is)
    (case z_zip => k_is)
    (case g_FURTHER_WORDS => k_is)
    (case h_FURTHER_WORDS => k_is)
    (case i_FURTHER_WORDS => k_keys)
    (case j_FURTHER_WORDS => decide)
    (case x_FURTHER_WORDS_0 => k_is)
    (case e_FURTHER_WORDS_0 => k_is)
    (case w_FURTHER_WORDS_0 => decide)
    (case q_FURTHER_WORDS_0 => exact (.cons ⟨_, rfl⟩ (.cons ⟨_, rfl⟩ .nil)))
    (case x_FURTHER_WORDS_1 => k_is)
    (case e_FURTHER_WORDS_1 => k_is)
    (case w_FURTHER_WORDS_1 => decide)
    (case q_FURTHER_WORDS_1 => exact (.cons ⟨_, rfl⟩ (.cons ⟨_, rfl⟩ .nil)))
    (case x_FURTHER_WORDS_2 => k_is)
    (case e_FURTHER_WORDS_2 => k_is)
    (case w_FURTHER_WORDS_2 => decide)
    (case q_FURTHER_WORDS_2 => exact (.cons ⟨_, rfl⟩ (.cons ⟨_, rfl⟩ .nil)))
    (case x_FURTHER_WORDS_3 => k_is)
    (case e_FURTHER_WORDS_3 => k_is)
    (case w_FURTHER_WORDS_3 => decide)
    (case q_FURTHER_WORDS_3 => exact (.cons ⟨_, rfl⟩ (.cons ⟨_, rfl⟩ .nil)))
    (case g_TOLD_LETTERS => k_is)
    (case h_TOLD_LETTERS => k_is)
    (case i_TOLD_LETTERS => k_keys)
    (case j_TOLD_LETTERS => decide)
    (case x_TOLD_LETTERS_0 => k_is)
    (case x_TOLD_LETTERS_1 => k_is)
    (case x_TOLD_LETTERS_2 => k_is)
    (case x_TOLD_LETTERS_3 => k_is)
    (case x_TOLD_LETTERS_4 => k_is)
    (case x_JOINING => k_is)
    (case e_JOINING => k_is)
    (case w_JOINING => decide)
    (case q_JOINING => exact (.cons ⟨_, rfl⟩ (.cons ⟨_, rfl⟩ .nil)))
    (case x_WORDED => k_is)
    (case e_WORDED => k_is)
    (case w_WORDED => decide)
    (case q_WORDED => exact (.cons ⟨_, rfl⟩ (.cons ⟨_, rfl⟩ (.cons ⟨_, rfl⟩ (.cons ⟨_, rfl⟩ .nil)))))
    (case p_permutations => k_is)
    (case xg_Answerable => k_is)
    (case xg_BadAsk => k_is)
    (case xg_BadEdits => k_is)
    (case xg_BadKeeper => k_is)
    (case xg_BadMessages => k_is)
    (case xg_BadNumber => k_is)
    (case xg_BadQuestion => k_is)
    (case xg_BadString => k_is)
    (case xg_BadText => k_is)
    (case xg_BadWorld => k_is)
    (case xg_KeeperError => k_is)
    (case xg_NoKeeper => k_is)
    (case x3_Answerable => k_is)
    (case x4_Answerable => k_is)
    (case xy_Answerable => k_is)
    (case xd_Answerable => k_is)
    (case x3_BadAsk => k_is)
    (case x4_BadAsk => k_is)
    (case xy_BadAsk => k_is)
    (case xd_BadAsk => k_is)
    (case x3_BadEdits => k_is)
    (case x4_BadEdits => k_is)
    (case xy_BadEdits => k_is)
    (case xd_BadEdits => k_is)
    (case x3_BadKeeper => k_is)
    (case x4_BadKeeper => k_is)
    (case xy_BadKeeper => k_is)
    (case xd_BadKeeper => k_is)
    (case x3_BadMessages => k_is)
    (case x4_BadMessages => k_is)
    (case xy_BadMessages => k_is)
    (case xd_BadMessages => k_is)
    (case x3_BadNumber => k_is)
    (case x4_BadNumber => k_is)
    (case xy_BadNumber => k_is)
    (case xd_BadNumber => k_is)
    (case x3_BadQuestion => k_is)
    (case x4_BadQuestion => k_is)
    (case xy_BadQuestion => k_is)
    (case xd_BadQuestion => k_is)
    (case x3_BadString => k_is)
    (case x4_BadString => k_is)
    (case xy_BadString => k_is)
    (case xd_BadString => k_is)
    (case x3_BadText => k_is)
    (case x4_BadText => k_is)
    (case xy_BadText => k_is)
    (case xd_BadText => k_is)
    (case x3_BadWorld => k_is)
    (case x4_BadWorld => k_is)
    (case xy_BadWorld => k_is)
    (case xd_BadWorld => k_is)
    (case x3_KeeperError => k_is)
    (case x4_KeeperError => k_is)
    (case xy_KeeperError => k_is)
    (case x3_NoKeeper => k_is)
    (case x4_NoKeeper => k_is)
    (case xy_NoKeeper => k_is)
    (case xd_NoKeeper => k_is)
    (case xn_BadQuestion_Answerable => k_is)
    (case xn_BadQuestion_BadAsk => k_is)
    (case xn_BadQuestion_BadEdits => k_is)
    (case xn_BadQuestion_BadKeeper => k_is)
    (case xn_BadQuestion_BadMessages => k_is)
    (case xn_BadQuestion_BadNumber => k_is)
    (case xn_BadQuestion_BadQuestion => k_is)
    (case xn_BadQuestion_BadString => k_is)
    (case xn_BadQuestion_BadText => k_is)
    (case xn_BadQuestion_BadWorld => k_is)
    (case xn_BadQuestion_KeeperError => k_is)
    (case xn_BadQuestion_NoKeeper => k_is)
    (case x1_BadQuestion => k_is)
    (case x2_BadQuestion => k_is)
    (case x5_BadQuestion => k_is)
    (case x8_BadQuestion => k_is)
    (case xk_BadQuestion => k_is)
    (case xf_BadQuestion_part => k_is)
    (case xl_BadQuestion => k_is)
    (case xr_BadQuestion => rfl)
    (case xs_BadQuestion => k_is)
    (case xi_BadQuestion => k_is)
    (case xj_BadQuestion => k_is)
    (case xL_BadQuestion => k_is)
    (case xc_BadQuestion => k_is)
    (case xo_BadQuestion => k_is)
    (case xp_BadQuestion => k_is)
    (case xq_BadQuestion => exact rfl)
    (case xw_BadQuestion => exact rfl)
    (case xb_BadQuestion => k_is)
    (case xu_BadQuestion => ks_is)
    (case xv_BadQuestion => k_is)
    (case xn_BadNumber_Answerable => k_is)
    (case xn_BadNumber_BadAsk => k_is)
    (case xn_BadNumber_BadEdits => k_is)
    (case xn_BadNumber_BadKeeper => k_is)
    (case xn_BadNumber_BadMessages => k_is)
    (case xn_BadNumber_BadNumber => k_is)
    (case xn_BadNumber_BadQuestion => k_is)
    (case xn_BadNumber_BadString => k_is)
    (case xn_BadNumber_BadText => k_is)
    (case xn_BadNumber_BadWorld => k_is)
    (case xn_BadNumber_KeeperError => k_is)
    (case xn_BadNumber_NoKeeper => k_is)
    (case x1_BadNumber => k_is)
    (case x2_BadNumber => k_is)
    (case x5_BadNumber => k_is)
    (case x8_BadNumber => k_is)
    (case xk_BadNumber => k_is)
    (case xe_BadNumber => k_exc)
    (case xn_BadEdits_Answerable => k_is)
    (case xn_BadEdits_BadAsk => k_is)
    (case xn_BadEdits_BadEdits => k_is)
    (case xn_BadEdits_BadKeeper => k_is)
    (case xn_BadEdits_BadMessages => k_is)
    (case xn_BadEdits_BadNumber => k_is)
    (case xn_BadEdits_BadQuestion => k_is)
    (case xn_BadEdits_BadString => k_is)
    (case xn_BadEdits_BadText => k_is)
    (case xn_BadEdits_BadWorld => k_is)
    (case xn_BadEdits_KeeperError => k_is)
    (case xn_BadEdits_NoKeeper => k_is)
    (case x1_BadEdits => k_is)
    (case x2_BadEdits => k_is)
    (case x5_BadEdits => k_is)
    (case x8_BadEdits => k_is)
    (case xk_BadEdits => k_is)
    (case xf_BadEdits_index => k_is)
    (case xl_BadEdits => k_is)
    (case xr_BadEdits => rfl)
    (case xs_BadEdits => k_is)
    (case xi_BadEdits => k_is)
    (case xj_BadEdits => k_is)
    (case xL_BadEdits => k_is)
    (case xc_BadEdits => k_is)
    (case xo_BadEdits => k_is)
    (case xp_BadEdits => k_is)
    (case xq_BadEdits => exact rfl)
    (case xw_BadEdits => exact rfl)
    (case xb_BadEdits => k_is)
    (case xu_BadEdits => ks_is)
    (case xv_BadEdits => k_is)
    (case xn_BadString_Answerable => k_is)
    (case xn_BadString_BadAsk => k_is)
    (case xn_BadString_BadEdits => k_is)
    (case xn_BadString_BadKeeper => k_is)
    (case xn_BadString_BadMessages => k_is)
    (case xn_BadString_BadNumber => k_is)
    (case xn_BadString_BadQuestion => k_is)
    (case xn_BadString_BadString => k_is)
    (case xn_BadString_BadText => k_is)
    (case xn_BadString_BadWorld => k_is)
    (case xn_BadString_KeeperError => k_is)
    (case xn_BadString_NoKeeper => k_is)
    (case x1_BadString => k_is)
    (case x2_BadString => k_is)
    (case x5_BadString => k_is)
    (case x8_BadString => k_is)
    (case xk_BadString => k_is)
    (case xe_BadString => k_exc)
    (case xn_BadKeeper_Answerable => k_is)
    (case xn_BadKeeper_BadAsk => k_is)
    (case xn_BadKeeper_BadEdits => k_is)
    (case xn_BadKeeper_BadKeeper => k_is)
    (case xn_BadKeeper_BadMessages => k_is)
    (case xn_BadKeeper_BadNumber => k_is)
    (case xn_BadKeeper_BadQuestion => k_is)
    (case xn_BadKeeper_BadString => k_is)
    (case xn_BadKeeper_BadText => k_is)
    (case xn_BadKeeper_BadWorld => k_is)
    (case xn_BadKeeper_KeeperError => k_is)
    (case xn_BadKeeper_NoKeeper => k_is)
    (case x1_BadKeeper => k_is)
    (case x2_BadKeeper => k_is)
    (case x5_BadKeeper => k_is)
    (case x8_BadKeeper => k_is)
    (case xk_BadKeeper => k_is)
    (case xf_BadKeeper_index => k_is)
    (case xl_BadKeeper => k_is)
    (case xr_BadKeeper => rfl)
    (case xs_BadKeeper => k_is)
    (case xi_BadKeeper => k_is)
    (case xj_BadKeeper => k_is)
    (case xL_BadKeeper => k_is)
    (case xc_BadKeeper => k_is)
    (case xo_BadKeeper => k_is)
    (case xp_BadKeeper => k_is)
    (case xq_BadKeeper => exact rfl)
    (case xw_BadKeeper => exact rfl)
    (case xb_BadKeeper => k_is)
    (case xu_BadKeeper => ks_is)
    (case xv_BadKeeper => k_is)
    (case xn_BadMessages_Answerable => k_is)
    (case xn_BadMessages_BadAsk => k_is)
    (case xn_BadMessages_BadEdits => k_is)
    (case xn_BadMessages_BadKeeper => k_is)
    (case xn_BadMessages_BadMessages => k_is)
    (case xn_BadMessages_BadNumber => k_is)
    (case xn_BadMessages_BadQuestion => k_is)
    (case xn_BadMessages_BadString => k_is)
    (case xn_BadMessages_BadText => k_is)
    (case xn_BadMessages_BadWorld => k_is)
    (case xn_BadMessages_KeeperError => k_is)
    (case xn_BadMessages_NoKeeper => k_is)
    (case x1_BadMessages => k_is)
    (case x2_BadMessages => k_is)
    (case x5_BadMessages => k_is)
    (case x8_BadMessages => k_is)
    (case xk_BadMessages => k_is)
    (case xf_BadMessages_index => k_is)
    (case xl_BadMessages => k_is)
    (case xr_BadMessages => rfl)
    (case xs_BadMessages => k_is)
    (case xi_BadMessages => k_is)
    (case xj_BadMessages => k_is)
    (case xL_BadMessages => k_is)
    (case xc_BadMessages => k_is)
    (case xo_BadMessages => k_is)
    (case xp_BadMessages => k_is)
    (case xq_BadMessages => exact rfl)
    (case xw_BadMessages => exact rfl)
    (case xb_BadMessages => k_is)
    (case xu_BadMessages => ks_is)
    (case xv_BadMessages => k_is)
    (case xn_BadText_Answerable => k_is)
    (case xn_BadText_BadAsk => k_is)
    (case xn_BadText_BadEdits => k_is)
    (case xn_BadText_BadKeeper => k_is)
    (case xn_BadText_BadMessages => k_is)
    (case xn_BadText_BadNumber => k_is)
    (case xn_BadText_BadQuestion => k_is)
    (case xn_BadText_BadString => k_is)
    (case xn_BadText_BadText => k_is)
    (case xn_BadText_BadWorld => k_is)
    (case xn_BadText_KeeperError => k_is)
    (case xn_BadText_NoKeeper => k_is)
    (case x1_BadText => k_is)
    (case x2_BadText => k_is)
    (case x5_BadText => k_is)
    (case x8_BadText => k_is)
    (case xk_BadText => k_is)
    (case xe_BadText => k_exc)
    (case xn_BadAsk_Answerable => k_is)
    (case xn_BadAsk_BadAsk => k_is)
    (case xn_BadAsk_BadEdits => k_is)
    (case xn_BadAsk_BadKeeper => k_is)
    (case xn_BadAsk_BadMessages => k_is)
    (case xn_BadAsk_BadNumber => k_is)
    (case xn_BadAsk_BadQuestion => k_is)
    (case xn_BadAsk_BadString => k_is)
    (case xn_BadAsk_BadText => k_is)
    (case xn_BadAsk_BadWorld => k_is)
    (case xn_BadAsk_KeeperError => k_is)
    (case xn_BadAsk_NoKeeper => k_is)
    (case x1_BadAsk => k_is)
    (case x2_BadAsk => k_is)
    (case x5_BadAsk => k_is)
    (case x8_BadAsk => k_is)
    (case xk_BadAsk => k_is)
    (case xe_BadAsk => k_exc)
    (case xn_BadWorld_Answerable => k_is)
    (case xn_BadWorld_BadAsk => k_is)
    (case xn_BadWorld_BadEdits => k_is)
    (case xn_BadWorld_BadKeeper => k_is)
    (case xn_BadWorld_BadMessages => k_is)
    (case xn_BadWorld_BadNumber => k_is)
    (case xn_BadWorld_BadQuestion => k_is)
    (case xn_BadWorld_BadString => k_is)
    (case xn_BadWorld_BadText => k_is)
    (case xn_BadWorld_BadWorld => k_is)
    (case xn_BadWorld_KeeperError => k_is)
    (case xn_BadWorld_NoKeeper => k_is)
    (case x1_BadWorld => k_is)
    (case x2_BadWorld => k_is)
    (case x5_BadWorld => k_is)
    (case x8_BadWorld => k_is)
    (case xk_BadWorld => k_is)
    (case xe_BadWorld => k_exc)
    (case xn_Answerable_Answerable => k_is)
    (case xn_Answerable_BadAsk => k_is)
    (case xn_Answerable_BadEdits => k_is)
    (case xn_Answerable_BadKeeper => k_is)
    (case xn_Answerable_BadMessages => k_is)
    (case xn_Answerable_BadNumber => k_is)
    (case xn_Answerable_BadQuestion => k_is)
    (case xn_Answerable_BadString => k_is)
    (case xn_Answerable_BadText => k_is)
    (case xn_Answerable_BadWorld => k_is)
    (case xn_Answerable_KeeperError => k_is)
    (case xn_Answerable_NoKeeper => k_is)
    (case x1_Answerable => k_is)
    (case x2_Answerable => k_is)
    (case x5_Answerable => k_is)
    (case x8_Answerable => k_is)
    (case xk_Answerable => k_is)
    (case xe_Answerable => k_exc)
    (case yn_FURTHER_WORDS_0 => k_is)
    (case yn_FURTHER_WORDS_1 => k_is)
    (case yn_FURTHER_WORDS_2 => k_is)
    (case xq_ValueError_BadQuestion => k_is)
    (case xq_ValueError_BadNumber => k_is)
    (case xq_ValueError_BadEdits => k_is)
    (case xq_ValueError_BadString => k_is)
    (case xq_ValueError_BadKeeper => k_is)
    (case xq_ValueError_BadMessages => k_is)
    (case xq_ValueError_BadText => k_is)
    (case xq_ValueError_BadAsk => k_is)
    (case xq_ValueError_BadWorld => k_is)
    (case xq_ValueError_Answerable => k_is)
    (case x6 => k_is)
    (case x7 => k_is)
    (case xz1 => k_is)
    (case xz2 => exact rfl)
