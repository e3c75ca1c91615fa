import PyProof.Rows.All
import Wide.All
import OpenK.AllK
import Wide.FinOn
import HandS.ForMost
import HandS.ForExc
import KE.KeyNested
import HandS.Strs
import HandS.Lambda
import HandS.IsInst
import HandS.TupAny
import HandS.Deep
import HandS.Zip
import HandS.SortInts
import HandS.Conv
import HandS.TupLen
import HandS.Wide
import KE.GoesMore
import PyProof.Draws
import HandS.Style
import PyProof.Rows.TupDisplay
import HandS.Defaults
import HandS.CallSlots
import KE.KFromBytes
import HandS.Base
import HandS.Call
import HandS.List
import HandS.More
import KE.LtData
import HandS.DictComp
import KE.GoesEnumKw
import HandS.SetFor
import HandS.SetBool
import HandS.EndTab
import KE.KNestM
import HandS.TupMul
import PyProof.Rows.SumAny
import HandS.ListItems
import KE.KDictSum
import KE.KDictWalk
import PyProof.ConsumeWalk
import HandS.ExcInit
import HandS.ExcSuper
import HandS.ExcField
import HandS.ExcIs
import HandS.TryOnly
import HandS.FStr
import KE.KSuper
import KE.KExcSuper
import KE.RegKSuper
import KE.DataMinKey
import HandS.SetKeys
import PyProof.SeqIndex
import KE.DataMinMax
import PySem.Challenge.RW_toldwhat_k12_known_questions
set_option Elab.async false
set_option linter.all false
set_option maxRecDepth 100000
set_option maxHeartbeats 8000000
/-! AB: an abstract machine over the hand layer: values are trees, lists and dicts stand in a store by number. -/
namespace AB
open PySem PySem.Spec PyProof.Rows L2
inductive A where
  | non | bl (b : Bool) | int (i : Int) | str (x : Str) | tup (xs : List A) | lst (l : Nat) | dct (l : Nat) | ty (n : String) | obj (l : Nat) | rng (lo hi : Int) | ftp (xs : List A)
inductive Cell where
  | lst (xs : List A) | frz (xs : List A) | dK (kvs : List (Key × A)) | dT (kvs : List (List Key × A)) | dN (kvs : List (NestedKey × A)) | st (xs : List Int) | obj | xd (fs : List (Str × A)) | fk (kvs : List (Key × A)) | fT (kvs : List (List Key × A)) | ins (C : Str) (fs : List (Str × A))
abbrev Store := List Cell
structure Exn where
  name : Str
  dct : Option Nat
inductive EO (α : Type) where
  | ok (a : α) (M : Store) | ex (e : Exn) (M : Store) | bad
def EO.bind {α β : Type} (x : EO α) (g : α → Store → EO β) : EO β := match x with
  | .ok a M => g a M
  | .ex e M => .ex e M
  | .bad => .bad
abbrev Sl := List (Option A)
abbrev EF := Sl → Store → EO A
abbrev EFs := Sl → Store → EO (List A)
abbrev EFb := Sl → Store → EO Bool
/-! ### the relation -/
mutual
inductive Is (ρ : List Addr) (H : Hp) : A → V → Prop
  | non : Is ρ H .non .non
  | bl (b : Bool) : Is ρ H (.bl b) (.bl b)
  | int (i : Int) : Is ρ H (.int i) (.int i)
  | str (x : Str) : Is ρ H (.str x) (.str x)
  | tup {a : Addr} {ts : List A} {vs : List V} : H a = some (.tup vs) → IsAll ρ H ts vs → Is ρ H (.tup ts) (.ref a)
  | lst {i : Nat} {a : Addr} : ρ[i]? = some a → Is ρ H (.lst i) (.ref a)
  | dct {i : Nat} {a : Addr} : ρ[i]? = some a → Is ρ H (.dct i) (.ref a)
  | ty (n : String) : Is ρ H (.ty n) (.ty n)
  | obj {i : Nat} {a : Addr} : ρ[i]? = some a → Is ρ H (.obj i) (.ref a)
  | rng {lo hi : Int} {a : Addr} : H a = some (.rng lo hi) → Is ρ H (.rng lo hi) (.ref a)
  | ftp {a : Addr} {ts : List A} {vs : List V} {ob : Obj} : H a = some (.frz ob (.tup vs)) → ob.cls = .type "tuple" → ob.dict = none → IsAll ρ H ts vs → Is ρ H (.ftp ts) (.ref a)
inductive IsAll (ρ : List Addr) (H : Hp) : List A → List V → Prop
  | nil : IsAll ρ H [] []
  | cons {t : A} {v : V} {ts : List A} {vs : List V} : Is ρ H t v → IsAll ρ H ts vs → IsAll ρ H (t :: ts) (v :: vs)
end
def Ext (ρ ρ' : List Addr) : Prop := ∃ t, ρ' = ρ ++ t
/-- what never changes -/
inductive Imm : HO → Prop where
  | frz (ob u) : Imm (.frz ob u)
  | tup (xs) : Imm (.tup xs)
  | rng (a b) : Imm (.rng a b)
  | own (x) : Imm (.own x)
  | code (c : Addr) (q : Str) : Imm (LamX.CodeO c q)
def Grow (H H' : Hp) : Prop := ∀ a u, Imm u → H a = some u → H' a = some u
theorem Ext.refl (ρ : List Addr) : Ext ρ ρ := ⟨[], by simp⟩
theorem Ext.trans {a b c : List Addr} (x : Ext a b) (y : Ext b c) : Ext a c := by
  obtain ⟨t, rfl⟩ := x
  obtain ⟨u, rfl⟩ := y
  exact ⟨t ++ u, by simp⟩
theorem Ext.get {ρ ρ' : List Addr} (x : Ext ρ ρ') {i : Nat} {a : Addr} (h : ρ[i]? = some a) : ρ'[i]? = some a := by
  obtain ⟨t, rfl⟩ := x
  have hi : i < ρ.length := (List.getElem?_eq_some_iff.mp h).1
  rw [List.getElem?_append_left hi]; exact h
theorem Ext.snoc (ρ : List Addr) (p : Addr) : Ext ρ (ρ ++ [p]) := ⟨[p], rfl⟩
theorem Grow.refl (H : Hp) : Grow H H := fun _ _ _ h => h
theorem Grow.trans {a b c : Hp} (x : Grow a b) (y : Grow b c) : Grow a c := fun p xs i h => y p xs i (x p xs i h)
theorem Grow.upd {H : Hp} {p : Addr} {o : HO} (h : ∀ u, Imm u → H p ≠ some u) : Grow H (upd H p o) := fun a xs i e => by
  have : a ≠ p := fun z => by subst z; exact h _ i e
  rw [upd_ne this]; exact e
theorem Grow.new {H : Hp} {p : Addr} {o : HO} (h : H p = none) : Grow H (L2.upd H p o) := Grow.upd (fun xs _ e => by rw [h] at e; cases e)
mutual
theorem Is.mono {ρ ρ' : List Addr} {H H' : Hp} (x : Ext ρ ρ') (g : Grow H H') : ∀ {t : A} {v : V}, Is ρ H t v → Is ρ' H' t v
  | _, _, .non => .non
  | _, _, .bl b => .bl b
  | _, _, .int i => .int i
  | _, _, .str s => .str s
  | _, _, .tup h r => .tup (g _ _ (.tup _) h) (IsAll.mono x g r)
  | _, _, .lst h => .lst (x.get h)
  | _, _, .dct h => .dct (x.get h)
  | _, _, .ty n => .ty n
  | _, _, .obj h => .obj (x.get h)
  | _, _, .rng h => .rng (g _ _ (.rng _ _) h)
  | _, _, .ftp h c d r => .ftp (g _ _ (.frz _ _) h) c d (IsAll.mono x g r)
theorem IsAll.mono {ρ ρ' : List Addr} {H H' : Hp} (x : Ext ρ ρ') (g : Grow H H') : ∀ {ts : List A} {vs : List V}, IsAll ρ H ts vs → IsAll ρ' H' ts vs
  | _, _, .nil => .nil
  | _, _, .cons r rs => .cons (Is.mono x g r) (IsAll.mono x g rs)
end
section
variable {ρ : List Addr} {H : Hp}
theorem IsAll.length : ∀ {ts : List A} {vs : List V}, IsAll ρ H ts vs → ts.length = vs.length
  | _, _, .nil => rfl
  | _, _, .cons _ r => by simp [IsAll.length r]
theorem IsAll.append : ∀ {ts us : List A} {vs ws : List V}, IsAll ρ H ts vs → IsAll ρ H us ws → IsAll ρ H (ts ++ us) (vs ++ ws)
  | _, _, _, _, .nil, s => s
  | _, _, _, _, .cons r t, s => .cons r (IsAll.append t s)
theorem IsAll.get : ∀ {ts : List A} {vs : List V} {i : Nat} {t : A}, IsAll ρ H ts vs → ts[i]? = some t → ∃ v, vs[i]? = some v ∧ Is ρ H t v
  | _, _, _, _, .nil, e => by simp at e
  | _, _, 0, _, .cons r _, e => by simp at e; subst e; exact ⟨_, rfl, r⟩
  | _, _, i + 1, _, .cons _ r, e => by
    obtain ⟨v, h1, h2⟩ := IsAll.get (i := i) r (by simpa using e)
    exact ⟨v, by simpa using h1, h2⟩
theorem IsAll.getV : ∀ {ts : List A} {vs : List V} {i : Nat} {v : V}, IsAll ρ H ts vs → vs[i]? = some v → ∃ t, ts[i]? = some t ∧ Is ρ H t v
  | _, _, _, _, .nil, e => by simp at e
  | _, _, 0, _, .cons r _, e => by simp at e; subst e; exact ⟨_, rfl, r⟩
  | _, _, i + 1, _, .cons _ r, e => by
    obtain ⟨v, h1, h2⟩ := IsAll.getV (i := i) r (by simpa using e)
    exact ⟨v, by simpa using h1, h2⟩
theorem IsAll.take : ∀ {ts : List A} {vs : List V} (n : Nat), IsAll ρ H ts vs → IsAll ρ H (ts.take n) (vs.take n)
  | _, _, 0, _ => by simpa using IsAll.nil
  | _, _, _ + 1, .nil => by simpa using IsAll.nil
  | _, _, n + 1, .cons r t => by simpa using IsAll.cons r (IsAll.take n t)
theorem IsAll.drop : ∀ {ts : List A} {vs : List V} (n : Nat), IsAll ρ H ts vs → IsAll ρ H (ts.drop n) (vs.drop n)
  | _, _, 0, r => by simpa using r
  | _, _, _ + 1, .nil => by simpa using IsAll.nil
  | _, _, n + 1, .cons _ t => by simpa using IsAll.drop n t
theorem IsAll.reverse : ∀ {ts : List A} {vs : List V}, IsAll ρ H ts vs → IsAll ρ H ts.reverse vs.reverse
  | _, _, .nil => .nil
  | _, _, .cons r t => by
    rw [List.reverse_cons, List.reverse_cons]
    exact IsAll.append (IsAll.reverse t) (.cons r .nil)
theorem IsAll.set {t : A} {v : V} (r : Is ρ H t v) : ∀ {ts : List A} {vs : List V} (i : Nat), IsAll ρ H ts vs → IsAll ρ H (ts.set i t) (vs.set i v)
  | _, _, _, .nil => by simpa using IsAll.nil
  | _, _, 0, .cons _ s => .cons r s
  | _, _, i + 1, .cons q s => .cons q (IsAll.set r i s)
theorem IsAll.ints : ∀ {vs : List V} {is : List Int}, IsAll ρ H (is.map A.int) vs → vs = is.map V.int
  | _, [], .nil => rfl
  | _, i :: is, .cons r t => by
    cases r
    rw [IsAll.ints t]; rfl
end
/-- the world and what the top has written -/
abbrev Tbl := List (Addr × Str)
structure Amb where
  wd : World
  K : PySem.W.Frag
  mg : Str → Option Value
  Tb : Tbl
/-- what a text's top and world are -/
structure Gx where
  mg : Str → Option Value
  w : Amb
abbrev _root_.L2.Cx.am (X : Cx) (Tb : Tbl) : Amb := ⟨X.w, X.K, X.mg, Tb⟩
abbrev _root_.L2.Cx.gx (X : Cx) (Tb : Tbl) : Gx := ⟨X.mg, X.am Tb⟩
/-- a wish; where the tables are; what stood at the frame's beginning -/
structure WR where
  w : WX
  Tb : Tbl
  r : List Addr
  h : Hp
instance : CoeFun WR (fun _ => Value → Option Addr → L2.St → Hp → Prop) := ⟨WR.w⟩
/-- .. nothing may be raised -/
abbrev WR.nx (W : WR) : WR := ⟨fun _ _ _ _ => False, W.Tb, W.r, W.h⟩
def Cell.isM : Cell → Bool
  | .frz _ => false
  | .obj => false
  | .fk _ => false
  | .fT _ => false
  | _ => true
def Cell.isF : Cell → Bool
  | .fk _ => true
  | .fT _ => true
  | _ => false
/-- a key, as a value -/
def ofN : NestedKey → A
  | .none => .non
  | .num i => .int i
  | .text x => .str x
  | .tup ks => .tup (ofNs ks)
where ofNs : List NestedKey → List A
  | [] => []
  | k :: ks => ofN k :: ofNs ks
/-- a dict whose keys are tuples of anything: its keys with their places -/
def nestO (w : World) (a : Addr) (ks : List (NestedKey × Addr)) (vs : List V) : HO := .ext fun h => ks.length ≤ sizeLine ∧ (a == sysModules) = false ∧ ks.length = vs.length ∧ (ks.map (·.1)).Nodup ∧
  ∃ us : List Value, Vals vs us ∧ ∃ o es ep, h.get? a = some o ∧ o.ExactDict ∧ o.data = .dict es ep ∧ es.toList = (ks.zip us).map fun p => { hash := p.1.1.hash w, key := .ref p.1.2, val := p.2 }
/-- a list of the written part -/
def FrK (w : Amb) (a : Addr) (vs : List V) : Prop := ∃ (o : Obj) (its : Array Value) (n : Nat), w.K.lookup a = some o ∧ o.cls = .type "list" ∧ o.dict = none ∧ o.data = .seq its n ∧ its.size ≤ sizeLine ∧ Vals vs its.toList
/-- a cell as it lies at its address -/
def RC (w : Amb) (ρ : List Addr) (H : Hp) (a : Addr) : Cell → Prop
  | .lst xs => ∃ vs, H a = some (.lst vs) ∧ IsAll ρ H xs vs
  | .frz xs => ∃ vs, (((∃ o, H a = some (.frz o (.lst vs))) ∨ H a = some (.lst vs)) ∨ FrK w a vs) ∧ IsAll ρ H xs vs
  | .dK kvs => ∃ vs, H a = some (.dK ((kvs.map (·.1)).zip vs)) ∧ IsAll ρ H (kvs.map (·.2)) vs
  | .dT kvs => ∃ vs, H a = some (.dT ((kvs.map (·.1)).zip vs)) ∧ IsAll ρ H (kvs.map (·.2)) vs
  | .dN kvs => ∃ bs vs, H a = some (nestO w.wd a ((kvs.map (·.1)).zip bs) vs) ∧ IsAll ρ H (kvs.map fun kv => ofN kv.1) (bs.map V.ref) ∧ IsAll ρ H (kvs.map (·.2)) vs ∧ ∀ kv ∈ kvs, kv.1.depth ≤ 8
  | .st xs => ∃ S : Int → Bool, H a = some (SetO w.wd a S xs.length) ∧ (∀ k, S k = decide (k ∈ xs))
  | .obj => True
  | .xd fs => ∃ vs, H a = some (.xd ((fs.map (·.1)).zip vs)) ∧ IsAll ρ H (fs.map (·.2)) vs
  | .fk kvs => ∃ (od : Obj) (vs : List V), H a = some (.frz od (.dK ((kvs.map (·.1)).zip vs))) ∧ IsAll ρ H (kvs.map (·.2)) vs
  | .fT kvs => ∃ (od : Obj) (vs : List V), H a = some (.frz od (.dT ((kvs.map (·.1)).zip vs))) ∧ IsAll ρ H (kvs.map (·.2)) vs
  | .ins C fs => ∃ (Ca dx : Addr) (vs : List V), w.mg C = some (.ref Ca) ∧ H a = some (.ins Ca dx ((fs.map (·.1)).zip vs)) ∧ H dx = some (.own a) ∧ IsAll ρ H (fs.map (·.2)) vs
/-! ### code objects stand apart -/
/-- whatever is not a record is none of the code objects -/
theorem ext_ne_code {φ : Heap → Prop} {a c : Addr} {q : Str} (hφ : ∀ h, φ h → ∃ o, h.get? a = some o ∧ ∀ vs, o.data ≠ .fields vs) : HO.ext φ ≠ LamX.CodeO c q := fun z => by
  unfold LamX.CodeO at z
  have z := HO.ext.inj z
  let ob : Obj := { cls := .none, data := .fields #[.none, .str q 0] }
  let h : Heap := { objs := Array.replicate (c + 1) ob }
  have all : ∀ (b : Addr) (o : Obj), h.get? b = some o → o = ob := fun b o e => by
    have e := (Heap.get?_some_iff.mp e).1
    rw [show h.objs = Array.replicate (c + 1) ob from rfl, Array.getElem?_replicate] at e
    split at e
    · exact (Option.some.inj e).symm
    · cases e
  have at_c : h.get? c = some ob := Heap.get?_some_iff.mpr ⟨by rw [show h.objs = Array.replicate (c + 1) ob from rfl, Array.getElem?_replicate, if_pos (Nat.lt_succ_self c)], rfl⟩
  have hc : (fun h : Heap => ∃ (oc : Obj) (vs : Array Value) (t : Tok), h.get? c = some oc ∧ oc.data = .fields vs ∧ vs[1]? = some (.str q t)) h :=
    ⟨ob, _, 0, at_c, rfl, rfl⟩
  rw [← z] at hc
  obtain ⟨o, ho, hn⟩ := hφ _ hc
  have := all _ _ ho
  subst this
  exact hn _ rfl
structure RM (w : Amb) (ρ : List Addr) (H : Hp) (M : Store) : Prop where
  len : ρ.length = M.length
  nd : ∀ (i j : Nat) (a : Addr) (c d : Cell), ρ[i]? = some a → ρ[j]? = some a → M[i]? = some c → M[j]? = some d → c.isM = true → d.isM = true → i = j
  at_ : ∀ (i : Nat) (a : Addr) (c : Cell), ρ[i]? = some a → M[i]? = some c → RC w ρ H a c
  tabs : LamX.Tabs w.Tb H
  fz : ∀ (i j : Nat) (a : Addr) (c : Cell) (xs : List A), ρ[i]? = some a → ρ[j]? = some a → M[i]? = some c → M[j]? = some (.frz xs) → c.isM = true → ∃ vs, FrK w a vs ∧ IsAll ρ H xs vs
  fu : ∀ (i j : Nat) (a : Addr) (c d : Cell), ρ[i]? = some a → ρ[j]? = some a → M[i]? = some c → M[j]? = some d → c.isF = true → d.isF = true → i = j
inductive RS0 (ρ : List Addr) (H : Hp) : Sl → L2.St → Prop
  | nil : RS0 ρ H [] []
  | no {t : Sl} {s : L2.St} {v : Option V} : RS0 ρ H t s → RS0 ρ H (none :: t) (v :: s)
  | yes {t : Sl} {s : L2.St} {a : A} {v : V} : Is ρ H a v → RS0 ρ H t s → RS0 ρ H (some a :: t) (some v :: s)
/-- the slots, behind what stood at the frame's beginning -/
structure RS (W : WR) (ρ : List Addr) (H : Hp) (τ : Sl) (σ : L2.St) : Prop where
  ext : Ext W.r ρ
  grow : Grow W.h H
  s : RS0 ρ H τ σ
section
variable {ρ ρ' : List Addr} {H H' : Hp}
theorem RS0.mono (x : Ext ρ ρ') (g : Grow H H') : ∀ {t : Sl} {s : L2.St}, RS0 ρ H t s → RS0 ρ' H' t s
  | _, _, .nil => .nil
  | _, _, .no r => .no (RS0.mono x g r)
  | _, _, .yes i r => .yes (i.mono x g) (RS0.mono x g r)
theorem RS0.length : ∀ {t : Sl} {s : L2.St}, RS0 ρ H t s → t.length = s.length
  | _, _, .nil => rfl
  | _, _, .no r => by simp [RS0.length r]
  | _, _, .yes _ r => by simp [RS0.length r]
theorem RS0.get : ∀ {t : Sl} {s : L2.St} {i : Nat} {a : A}, RS0 ρ H t s → t[i]? = some (some a) → ∃ v, s[i]? = some (some v) ∧ Is ρ H a v
  | _, _, _, _, .nil, e => by simp at e
  | _, _, 0, _, .no _, e => by simp at e
  | _, _, i + 1, _, .no r, e => by
    obtain ⟨v, h1, h2⟩ := RS0.get (i := i) r (by simpa using e)
    exact ⟨v, by simpa using h1, h2⟩
  | _, _, 0, _, .yes h _, e => by simp at e; subst e; exact ⟨_, rfl, h⟩
  | _, _, i + 1, _, .yes _ r, e => by
    obtain ⟨v, h1, h2⟩ := RS0.get (i := i) r (by simpa using e)
    exact ⟨v, by simpa using h1, h2⟩
theorem RS0.set {a : A} {v : V} (h : Is ρ H a v) : ∀ {t : Sl} {s : L2.St} (i : Nat), RS0 ρ H t s → RS0 ρ H (t.set i (some a)) (s.set i (some v))
  | _, _, _, .nil => .nil
  | _, _, 0, .no r => .yes h r
  | _, _, i + 1, .no r => .no (RS0.set h i r)
  | _, _, 0, .yes _ r => .yes h r
  | _, _, i + 1, .yes q r => .yes q (RS0.set h i r)
theorem RS0.unset : ∀ {t : Sl} {s : L2.St} (i : Nat) (v : Option V), RS0 ρ H t s → RS0 ρ H (t.set i none) (s.set i v)
  | _, _, _, _, .nil => .nil
  | _, _, 0, _, .no r => .no r
  | _, _, i + 1, v, .no r => .no (RS0.unset i v r)
  | _, _, 0, _, .yes _ r => .no r
  | _, _, i + 1, v, .yes q r => .yes q (RS0.unset i v r)
theorem RS.mono {W : WR} (x : Ext ρ ρ') (g : Grow H H') {τ : Sl} {σ : L2.St} (r : RS W ρ H τ σ) : RS W ρ' H' τ σ := ⟨r.ext.trans x, r.grow.trans g, r.s.mono x g⟩
theorem RS.length {W : WR} {τ : Sl} {σ : L2.St} (r : RS W ρ H τ σ) : τ.length = σ.length := r.s.length
theorem RS.get {W : WR} {τ : Sl} {σ : L2.St} {i : Nat} {a : A} (r : RS W ρ H τ σ) (e : τ[i]? = some (some a)) : ∃ v, σ[i]? = some (some v) ∧ Is ρ H a v := r.s.get e
theorem RS.set {W : WR} {a : A} {v : V} (h : Is ρ H a v) {τ : Sl} {σ : L2.St} (i : Nat) (r : RS W ρ H τ σ) : RS W ρ H (τ.set i (some a)) (σ.set i (some v)) := ⟨r.ext, r.grow, r.s.set h i⟩
theorem RS.unset {W : WR} {τ : Sl} {σ : L2.St} (i : Nat) (v : Option V) (r : RS W ρ H τ σ) : RS W ρ H (τ.set i none) (σ.set i v) := ⟨r.ext, r.grow, r.s.unset i v⟩
theorem RS.of {W : WR} {τ τ' : Sl} {σ σ' : L2.St} (r : RS W ρ H τ σ) (s : RS0 ρ H τ' σ') : RS W ρ H τ' σ' := ⟨r.ext, r.grow, s⟩
theorem RC.mono {a : Addr} {c : Cell} (x : Ext ρ ρ') (g : Grow H H') (e : H' a = H a) (r : RC w ρ H a c) : RC w ρ' H' a c := by
  cases c with
  | lst xs => obtain ⟨vs, h, i⟩ := r; exact ⟨vs, e.trans h, i.mono x g⟩
  | frz xs =>
    obtain ⟨vs, h, i⟩ := r
    refine ⟨vs, ?_, i.mono x g⟩
    rcases h with (⟨o, h⟩ | h) | h
    · exact .inl (.inl ⟨o, e.trans h⟩)
    · exact .inl (.inr (e.trans h))
    · exact .inr h
  | dK xs => obtain ⟨vs, h, i⟩ := r; exact ⟨vs, e.trans h, i.mono x g⟩
  | dT xs => obtain ⟨vs, h, i⟩ := r; exact ⟨vs, e.trans h, i.mono x g⟩
  | dN xs => obtain ⟨bs, vs, h, i, j, d⟩ := r; exact ⟨bs, vs, e.trans h, i.mono x g, j.mono x g, d⟩
  | st xs => obtain ⟨S, h, i⟩ := r; exact ⟨S, e.trans h, i⟩
  | obj => trivial
  | xd xs => obtain ⟨vs, h, i⟩ := r; exact ⟨vs, e.trans h, i.mono x g⟩
  | fk xs => obtain ⟨od, vs, h, i⟩ := r; exact ⟨od, vs, e.trans h, i.mono x g⟩
  | fT xs => obtain ⟨od, vs, h, i⟩ := r; exact ⟨od, vs, e.trans h, i.mono x g⟩
  | ins C fs => obtain ⟨Ca, dx, vs, h0, h, h2, i⟩ := r; exact ⟨Ca, dx, vs, h0, e.trans h, g _ _ (.own _) h2, i.mono x g⟩
theorem set_ne_code {w : World} {a c : Addr} {S : Int → Bool} {n : Nat} {q : Str} : SetO w a S n ≠ LamX.CodeO c q := by
  unfold SetO
  refine ext_ne_code (a := a) fun h e => ?_
  obtain ⟨o, es, ep, t, ho, _, hd, _⟩ := e
  exact ⟨o, ho, fun vs z => by rw [hd] at z; cases z⟩
theorem nest_ne_code {w : World} {a c : Addr} {ks : List (NestedKey × Addr)} {vs : List V} {q : Str} : nestO w a ks vs ≠ LamX.CodeO c q := by
  unfold nestO
  refine ext_ne_code (a := a) fun h e => ?_
  obtain ⟨_, _, _, _, us, _, o, es, ep, ho, _, hd, _⟩ := e
  exact ⟨o, ho, fun vs z => by rw [hd] at z; cases z⟩
theorem codeO_ext {c : Addr} {q : Str} {o : HO} (h : ∀ φ, o ≠ .ext φ) : o ≠ LamX.CodeO c q := fun z => h _ z
/-- what a cell that may change is not -/
structure Loose (o : HO) : Prop where
  im : ¬ Imm o
  fz : ∀ ob u, o ≠ .frz ob u
  tb : ∀ ps, o ≠ .tbl ps
  cd : ∀ c q, o ≠ LamX.CodeO c q
theorem Loose.of {o : HO} (h1 : ∀ xs, o ≠ .tup xs) (h2 : ∀ a b, o ≠ .rng a b) (h3 : ∀ x, o ≠ .own x) (h4 : ∀ ob u, o ≠ .frz ob u) (h5 : ∀ ps, o ≠ .tbl ps) (h6 : ∀ c q, o ≠ LamX.CodeO c q) : Loose o :=
  ⟨fun i => by cases i with
    | tup xs => exact h1 _ rfl
    | rng a b => exact h2 _ _ rfl
    | own x => exact h3 _ rfl
    | code c q => exact h6 _ _ rfl
    | frz ob u => exact h4 _ _ rfl, h4, h5, h6⟩
theorem RC.there {a : Addr} {c : Cell} (r : RC w ρ H a c) (hm : c.isM = true) : ∃ o, H a = Option.some o ∧ Loose o := by
  cases c with
  | lst xs => obtain ⟨vs, h, i⟩ := r; exact ⟨_, h, .of (fun _ z => (by cases z)) (fun _ _ z => (by cases z)) (fun _ z => (by cases z)) (fun _ _ z => (by cases z)) (fun _ z => (by cases z)) (fun _ _ => codeO_ext fun _ z => (by cases z))⟩
  | frz xs => cases hm
  | dK xs => obtain ⟨vs, h, i⟩ := r; exact ⟨_, h, .of (fun _ z => (by cases z)) (fun _ _ z => (by cases z)) (fun _ z => (by cases z)) (fun _ _ z => (by cases z)) (fun _ z => (by cases z)) (fun _ _ => codeO_ext fun _ z => (by cases z))⟩
  | dT xs => obtain ⟨vs, h, i⟩ := r; exact ⟨_, h, .of (fun _ z => (by cases z)) (fun _ _ z => (by cases z)) (fun _ z => (by cases z)) (fun _ _ z => (by cases z)) (fun _ z => (by cases z)) (fun _ _ => codeO_ext fun _ z => (by cases z))⟩
  | dN xs => obtain ⟨bs, vs, h, i⟩ := r; exact ⟨_, h, .of (fun _ z => (by cases z)) (fun _ _ z => (by cases z)) (fun _ z => (by cases z)) (fun _ _ z => (by cases z)) (fun _ z => (by cases z)) (fun _ _ => nest_ne_code)⟩
  | st xs => obtain ⟨S, h, i⟩ := r; exact ⟨_, h, .of (fun _ z => (by cases z)) (fun _ _ z => (by cases z)) (fun _ z => (by cases z)) (fun _ _ z => (by cases z)) (fun _ z => (by cases z)) (fun _ _ => set_ne_code)⟩
  | obj => cases hm
  | xd xs => obtain ⟨vs, h, i⟩ := r; exact ⟨_, h, .of (fun _ z => (by cases z)) (fun _ _ z => (by cases z)) (fun _ z => (by cases z)) (fun _ _ z => (by cases z)) (fun _ z => (by cases z)) (fun _ _ => codeO_ext fun _ z => (by cases z))⟩
  | fk xs => cases hm
  | fT xs => cases hm
  | ins C fs => obtain ⟨Ca, dx, vs, h0, h, h2, i⟩ := r; exact ⟨_, h, .of (fun _ z => (by cases z)) (fun _ _ z => (by cases z)) (fun _ z => (by cases z)) (fun _ _ z => (by cases z)) (fun _ z => (by cases z)) (fun _ _ => codeO_ext fun _ z => (by cases z))⟩
theorem RC.froz {a : Addr} {c : Cell} (r : RC w ρ H a c) (hm : c.isF = true) : ∃ ob u, H a = Option.some (.frz ob u) := by
  cases c with
  | fk xs => obtain ⟨od, vs, h, i⟩ := r; exact ⟨_, _, h⟩
  | fT xs => obtain ⟨od, vs, h, i⟩ := r; exact ⟨_, _, h⟩
  | _ => cases hm
/-- the heap changed where nothing locked stood -/
theorem RC.kept {a : Addr} {c : Cell} (x : Ext ρ ρ') (g : Grow H H') (e : c.isM = true → H' a = H a) (f : ∀ xs, c = .frz xs → (∀ o, (∀ ps, o ≠ .tbl ps) → H a = Option.some o → H' a = Option.some o) ∨ ∃ vs, FrK w a vs ∧ IsAll ρ H xs vs) (r : RC w ρ H a c) : RC w ρ' H' a c := by
  cases hc : c.isM with
  | true => exact r.mono x g (e hc)
  | false =>
    cases c with
    | frz xs =>
      rcases f xs rfl with f | ⟨vs, f1, f2⟩
      · obtain ⟨vs, h, i⟩ := r
        refine ⟨vs, ?_, i.mono x g⟩
        rcases h with (⟨o, h⟩ | h) | h
        · exact .inl (.inl ⟨o, f _ (fun _ z => (by cases z)) h⟩)
        · exact .inl (.inr (f _ (fun _ z => (by cases z)) h))
        · exact .inr h
      · exact ⟨vs, .inr f1, f2.mono x g⟩
    | obj => trivial
    | fk xs => obtain ⟨od, vs, h, i⟩ := r; exact ⟨od, vs, g _ _ (.frz _ _) h, i.mono x g⟩
    | fT xs => obtain ⟨od, vs, h, i⟩ := r; exact ⟨od, vs, g _ _ (.frz _ _) h, i.mono x g⟩
    | _ => cases hc
theorem frz_K {a : Addr} {xs : List A} (r : RC w ρ H a (.frz xs)) (h : H a = Option.none) : ∃ vs, FrK w a vs ∧ IsAll ρ H xs vs := by
  obtain ⟨vs, q, i⟩ := r
  rcases q with (⟨o, q⟩ | q) | q
  · rw [h] at q; cases q
  · rw [h] at q; cases q
  · exact ⟨vs, q, i⟩
/-- the heap grew by what is no cell -/
theorem RM.grow {M : Store} (m : RM w ρ H M) (g : Grow H H') (k : ∀ b o, H b = Option.some o → H' b = Option.some o) : RM w ρ H' M :=
  ⟨m.len, m.nd, fun i a c h1 h2 => by
    have r := m.at_ i a c h1 h2
    refine r.kept (.refl _) g (fun hm => ?_) fun xs _ => .inl fun o _ e => k _ _ e
    obtain ⟨o, e, _⟩ := r.there hm
    exact (k a o e).trans e.symm, m.tabs.ext k, fun i j a c xs h1 h2 h3 h4 h5 => by
      obtain ⟨vs, f1, f2⟩ := m.fz i j a c xs h1 h2 h3 h4 h5
      exact ⟨vs, f1, f2.mono (.refl _) g⟩, m.fu⟩
/-- .. the tables may have grown -/
theorem RM.growT {M : Store} (m : RM w ρ H M) (k : LamX.ExtN H H') (t : LamX.Tabs w.Tb H') : RM w ρ H' M :=
  have g : Grow H H' := fun a u i e => k a u e fun ps z => by
    subst z
    generalize hz : HO.tbl ps = z at i
    cases i with
    | code c q => exact LamX.codeO_ne ps hz.symm
    | _ => cases hz
  ⟨m.len, m.nd, fun i a c h1 h2 => by
    have r := m.at_ i a c h1 h2
    refine r.kept (.refl _) g (fun hm => ?_) fun xs _ => .inl fun o n e => k _ _ e n
    obtain ⟨o, e, l⟩ := r.there hm
    exact (k a o e l.tb).trans e.symm, t, fun i j a c xs h1 h2 h3 h4 h5 => by
      obtain ⟨vs, f1, f2⟩ := m.fz i j a c xs h1 h2 h3 h4 h5
      exact ⟨vs, f1, f2.mono (.refl _) g⟩, m.fu⟩
theorem Grow.ofT {H H' : Hp} (k : LamX.ExtN H H') : Grow H H' := fun a u i e => k a u e fun ps z => by
    subst z
    generalize hz : HO.tbl ps = z at i
    cases i with
    | code c q => exact LamX.codeO_ne ps hz.symm
    | _ => cases hz
/-- an object that is not looked at -/
theorem RM.name {M : Store} (m : RM w ρ H M) (p : Addr) : RM w (ρ ++ [p]) H (M ++ [.obj]) := by
  have old : ∀ (i : Nat) (a : Addr) (d : Cell), (ρ ++ [p])[i]? = Option.some a → (M ++ [.obj])[i]? = Option.some d → (ρ[i]? = Option.some a ∧ M[i]? = Option.some d) ∨ d = .obj := fun i a d h1 h2 => by
    by_cases hi : i < ρ.length
    · rw [List.getElem?_append_left hi] at h1
      rw [List.getElem?_append_left (by rw [← m.len]; exact hi)] at h2
      exact .inl ⟨h1, h2⟩
    · rw [m.len] at hi
      rw [List.getElem?_append_right (by omega)] at h2
      have : i - M.length = 0 := by
        have := (List.getElem?_eq_some_iff.mp h2).1
        simp at this; omega
      rw [this] at h2
      exact .inr (Option.some.inj h2).symm
  refine ⟨by simp [m.len], fun i j a d d' h1 h2 h3 h4 h5 h6 => ?_, fun i a d h1 h2 => ?_, m.tabs, fun i j a c xs h1 h2 h3 h4 h5 => ?_, fun i j a d d' h1 h2 h3 h4 h5 h6 => ?_⟩
  · rcases old i a d h1 h3 with ⟨q1, q2⟩ | q
    · rcases old j a d' h2 h4 with ⟨q3, q4⟩ | q
      · exact m.nd i j a d d' q1 q3 q2 q4 h5 h6
      · subst q; cases h6
    · subst q; cases h5
  · rcases old i a d h1 h2 with ⟨q1, q2⟩ | q
    · exact (m.at_ i a d q1 q2).kept (.snoc _ _) (.refl _) (fun _ => rfl) fun _ _ => .inl fun _ _ e => e
    · subst q; trivial
  · rcases old i a c h1 h3 with ⟨q1, q2⟩ | q
    · rcases old j a _ h2 h4 with ⟨q3, q4⟩ | q
      · obtain ⟨vs, f1, f2⟩ := m.fz i j a c xs q1 q3 q2 q4 h5
        exact ⟨vs, f1, f2.mono (.snoc _ _) (.refl _)⟩
      · cases q
    · subst q; cases h5
  · rcases old i a d h1 h3 with ⟨q1, q2⟩ | q
    · rcases old j a d' h2 h4 with ⟨q3, q4⟩ | q
      · exact m.fu i j a d d' q1 q3 q2 q4 h5 h6
      · subst q; cases h6
    · subst q; cases h5
theorem tabs_upd {T : Tbl} {H : Hp} {a : Addr} {o o' : HO} (t : LamX.Tabs T H) (h : H a = Option.some o) (l : Loose o) : LamX.Tabs T (upd H a o') := fun p hp => by
  obtain ⟨ps, h1, h2, h3⟩ := t p hp
  refine ⟨ps, ?_, h2, fun pos cv hc => ?_⟩
  · rw [upd_ne (fun z => l.tb ps (by rw [z, h] at h1; exact Option.some.inj h1))]; exact h1
  · obtain ⟨c, e1, e2⟩ := h3 pos cv hc
    exact ⟨c, e1, by rw [upd_ne (fun z => l.cd c _ (by rw [z, h] at e2; rw [z]; exact Option.some.inj e2))]; exact e2⟩
theorem RM.new {M : Store} (m : RM w ρ H M) {p : Addr} {o : HO} (hp : H p = Option.none) : RM w ρ (upd H p o) M :=
  m.grow (.new hp) fun b o' e => by rw [upd_ne (ne_of_none e hp)]; exact e
/-- a new cell -/
theorem RM.push {M : Store} (m : RM w ρ H M) {p : Addr} {o : HO} {c : Cell} (hp : H p = Option.none) (hc : RC w (ρ ++ [p]) (upd H p o) p c) : RM w (ρ ++ [p]) (upd H p o) (M ++ [c]) := by
  have g : Grow H (upd H p o) := .new hp
  have old : ∀ (i : Nat) (a : Addr) (d : Cell), (ρ ++ [p])[i]? = Option.some a → (M ++ [c])[i]? = Option.some d → (i < ρ.length ∧ ρ[i]? = Option.some a ∧ M[i]? = Option.some d) ∨ (i = ρ.length ∧ a = p ∧ d = c) := fun i a d h1 h2 => by
    by_cases hi : i < ρ.length
    · rw [List.getElem?_append_left hi] at h1
      rw [List.getElem?_append_left (by rw [← m.len]; exact hi)] at h2
      exact .inl ⟨hi, h1, h2⟩
    · have : i = ρ.length := by
        have := (List.getElem?_eq_some_iff.mp h1).1
        simp at this; omega
      subst this
      rw [List.getElem?_append_right (Nat.le_refl _)] at h1
      rw [m.len, List.getElem?_append_right (Nat.le_refl _)] at h2
      simp at h1 h2
      exact .inr ⟨rfl, h1.symm, h2.symm⟩
  have apart : ∀ (i : Nat) (d : Cell), ρ[i]? = Option.some p → M[i]? = Option.some d → d.isM = true → False := fun i d h1 h2 hm => by
    obtain ⟨u, e, _⟩ := (m.at_ i p d h1 h2).there hm
    rw [hp] at e; cases e
  refine ⟨by simp [m.len], fun i j a d d' h1 h2 h3 h4 h5 h6 => ?_, fun i a d h1 h2 => ?_, m.tabs.ext fun b o' e => by rw [upd_ne (ne_of_none e hp)]; exact e, fun i j a d xs h1 h2 h3 h4 h5 => ?_, fun i j a d d' h1 h2 h3 h4 h5 h6 => ?_⟩
  · rcases old i a d h1 h3 with ⟨_, q1, q2⟩ | ⟨q0, q1, q2⟩
    · rcases old j a d' h2 h4 with ⟨_, q3, q4⟩ | ⟨_, q3, q4⟩
      · exact m.nd i j a d d' q1 q3 q2 q4 h5 h6
      · subst q3; exact (apart i d q1 q2 h5).elim
    · rcases old j a d' h2 h4 with ⟨_, q3, q4⟩ | ⟨q0', q3, q4⟩
      · subst q1; exact (apart j d' q3 q4 h6).elim
      · rw [q0, q0']
  · rcases old i a d h1 h2 with ⟨_, q1, q2⟩ | ⟨_, q1, q2⟩
    · have r := m.at_ i a d q1 q2
      refine r.kept (.snoc _ _) g (fun hm => ?_) fun xs _ => .inl fun o _ e => ?_
      · obtain ⟨u, e, _⟩ := r.there hm
        rw [upd_ne (ne_of_none e hp)]
      · rw [upd_ne (ne_of_none e hp)]; exact e
    · subst q1 q2; exact hc
  · rcases old j a _ h2 h4 with ⟨_, q3, q4⟩ | ⟨q0, q3, q4⟩
    · rcases old i a d h1 h3 with ⟨_, q1, q2⟩ | ⟨_, q1, q2⟩
      · obtain ⟨vs, f1, f2⟩ := m.fz i j a d xs q1 q3 q2 q4 h5
        exact ⟨vs, f1, f2.mono (.snoc _ _) g⟩
      · subst q1
        obtain ⟨vs, f1, f2⟩ := frz_K (m.at_ j a _ q3 q4) hp
        exact ⟨vs, f1, f2.mono (.snoc _ _) g⟩
    · subst q3
      rcases old i a d h1 h3 with ⟨_, q1, q2⟩ | ⟨_, q1, q2⟩
      · exact (apart i d q1 q2 h5).elim
      · subst q2; rw [← q4] at h5; cases h5
  · have ap : ∀ (i : Nat) (d : Cell), ρ[i]? = Option.some p → M[i]? = Option.some d → d.isF = true → False := fun i d h1 h2 hm => by
      obtain ⟨ob, u, e⟩ := (m.at_ i p d h1 h2).froz hm
      rw [hp] at e; cases e
    rcases old i a d h1 h3 with ⟨_, q1, q2⟩ | ⟨q0, q1, q2⟩
    · rcases old j a d' h2 h4 with ⟨_, q3, q4⟩ | ⟨_, q3, q4⟩
      · exact m.fu i j a d d' q1 q3 q2 q4 h5 h6
      · subst q3; exact (ap i d q1 q2 h5).elim
    · rcases old j a d' h2 h4 with ⟨_, q3, q4⟩ | ⟨q0', q3, q4⟩
      · subst q1; exact (ap j d' q3 q4 h6).elim
      · rw [q0, q0']
theorem RM.growSet {M : Store} (m : RM w ρ H M) {i : Nat} {a : Addr} {o : HO} {c : Cell} (ha : ρ[i]? = Option.some a) (hc : M[i]? = Option.some c) (hm : c.isM = true := by rfl) : Grow H (upd H a o) := by
  have r := m.at_ i a c ha hc
  obtain ⟨o', e, l⟩ := r.there hm
  exact .upd fun xs i z => by rw [e] at z; cases z; exact l.im i
/-- a cell is changed -/
theorem RM.set {M : Store} (m : RM w ρ H M) {i : Nat} {a : Addr} {o : HO} {c c' : Cell} (ha : ρ[i]? = Option.some a) (hc : M[i]? = Option.some c) (hc' : RC w ρ (upd H a o) a c') (hm : c.isM = true := by rfl) : RM w ρ (upd H a o) (M.set i c') := by
  have r := m.at_ i a c ha hc
  obtain ⟨o', e, l⟩ := r.there hm
  have g : Grow H (upd H a o) := m.growSet ha hc hm
  have hlt : i < M.length := (List.getElem?_eq_some_iff.mp hc).1
  have getM : ∀ (j : Nat) (d : Cell), (M.set i c')[j]? = Option.some d → (j = i ∧ d = c') ∨ (j ≠ i ∧ M[j]? = Option.some d) := fun j d h => by
    by_cases hj : j = i
    · subst hj
      rw [List.getElem?_set_self hlt] at h
      exact .inl ⟨rfl, (Option.some.inj h).symm⟩
    · rw [List.getElem?_set_ne (Ne.symm hj)] at h
      exact .inr ⟨hj, h⟩
  refine ⟨by simp [m.len], fun j k b d d' h1 h2 h3 h4 h5 h6 => ?_, fun j b d h1 h2 => ?_, tabs_upd m.tabs e l, fun j k b d xs h1 h2 h3 h4 h5 => ?_, fun j k b d d' h1 h2 h3 h4 h5 h6 => ?_⟩
  · rcases getM j d h3 with ⟨q1, _⟩ | ⟨q1, q2⟩
    · rcases getM k d' h4 with ⟨q3, _⟩ | ⟨q3, q4⟩
      · rw [q1, q3]
      · subst q1; exact m.nd j k b c d' h1 h2 hc q4 hm h6
    · rcases getM k d' h4 with ⟨q3, _⟩ | ⟨q3, q4⟩
      · subst q3; exact m.nd j k b d c h1 h2 q2 hc h5 hm
      · exact m.nd j k b d d' h1 h2 q2 q4 h5 h6
  · rcases getM j d h2 with ⟨q1, q2⟩ | ⟨q1, q2⟩
    · subst q1 q2
      rw [ha] at h1
      obtain rfl := Option.some.inj h1
      exact hc'
    · have q := m.at_ j b d h1 q2
      refine q.kept (.refl _) g (fun hd => ?_) fun xs ex => ?_
      · have hb : b ≠ a := fun z => by
          subst z
          exact q1 (m.nd j i b d c h1 ha q2 hc hd hm)
        exact upd_ne hb
      · by_cases hb : b = a
        · subst hb; subst ex
          exact .inr (m.fz i j b c xs ha h1 hc q2 hm)
        · exact .inl fun o _ ef => by rw [upd_ne hb]; exact ef
  · rcases getM k _ h4 with ⟨q3, q4⟩ | ⟨q3, q4⟩
    · subst q3
      rw [ha] at h2
      obtain rfl := Option.some.inj h2
      rcases getM j d h3 with ⟨q1, q2⟩ | ⟨q1, q2⟩
      · rw [← q4] at q2; subst q2; cases h5
      · exact absurd (m.nd j k a d c h1 ha q2 hc h5 hm) q1
    · rcases getM j d h3 with ⟨q1, q2⟩ | ⟨q1, q2⟩
      · subst q1
        obtain ⟨vs, f1, f2⟩ := m.fz j k b c xs h1 h2 hc q4 hm
        exact ⟨vs, f1, f2.mono (.refl _) g⟩
      · obtain ⟨vs, f1, f2⟩ := m.fz j k b d xs h1 h2 q2 q4 h5
        exact ⟨vs, f1, f2.mono (.refl _) g⟩
  · have ap : ∀ (k : Nat) (d : Cell), ρ[k]? = Option.some a → M[k]? = Option.some d → d.isF = true → False := fun k d h1 h2 hm2 => by
      obtain ⟨ob, u, e2⟩ := (m.at_ k a d h1 h2).froz hm2
      rw [e] at e2
      exact l.fz _ _ (Option.some.inj e2)
    rcases getM j d h3 with ⟨q1, _⟩ | ⟨q1, q2⟩
    · rcases getM k d' h4 with ⟨q3, _⟩ | ⟨q3, q4⟩
      · rw [q1, q3]
      · subst q1
        rw [ha] at h1
        obtain rfl := Option.some.inj h1
        exact (ap k d' h2 q4 h6).elim
    · rcases getM k d' h4 with ⟨q3, _⟩ | ⟨q3, q4⟩
      · subst q3
        rw [ha] at h2
        obtain rfl := Option.some.inj h2
        exact (ap j d h1 q2 h5).elim
      · exact m.fu j k b d d' h1 h2 q2 q4 h5 h6
end
/-! ### exceptions -/
/-- an exception of an own class: its class, its own dict -/
def RX (mg : Str → Option Value) (ρ : List Addr) (H : Hp) (e : Exn) (cls : Value) (d : Option Addr) : Prop :=
  ∃ C, mg e.name = some (.ref C) ∧ cls = .ref C ∧
    match e.dct with
    | none => d = none
    | some l => ∃ dd, d = some dd ∧ ρ[l]? = some dd
/-! ### readings -/
section
variable {α β γ δ : Type}
abbrev Rel (α β : Type) := List Addr → Hp → α → β → Prop
/-- what an outcome promises -/
def RE (G : Gx) (W : WR) (σ : L2.St) (ρ : List Addr) (H : Hp) (rel : Rel α β) (o : EO α) (Q : β → Hp → Prop) : Prop :=
  match o with
  | .ok a M => ∀ b H' ρ', Ext ρ ρ' → Grow H H' → RM G.w ρ' H' M → rel ρ' H' a b → Q b H'
  | .ex e M => ∀ cls d H' ρ', Ext ρ ρ' → Grow H H' → RM G.w ρ' H' M → RX G.mg ρ' H' e cls d → W cls d σ H'
  | .bad => False
theorem RE.mono {G : Gx} {W : WR} {σ : L2.St} {ρ ρ' : List Addr} {H H' : Hp} {rel : Rel α β} {o : EO α} {Q : β → Hp → Prop} (r : RE G W σ ρ H rel o Q) (x : Ext ρ ρ') (g : Grow H H') : RE G W σ ρ' H' rel o Q := by
  cases o with
  | ok a M => exact fun b H2 ρ2 x2 g2 => r b H2 ρ2 (x.trans x2) (g.trans g2)
  | ex e M => exact fun c d H2 ρ2 x2 g2 => r c d H2 ρ2 (x.trans x2) (g.trans g2)
  | bad => exact r
theorem RE.imp {G : Gx} {W : WR} {σ : L2.St} {ρ : List Addr} {H : Hp} {rel : Rel α β} {o : EO α} {Q Q' : β → Hp → Prop} (r : RE G W σ ρ H rel o Q) (h : ∀ b H', Q b H' → Q' b H') : RE G W σ ρ H rel o Q' := by
  cases o with
  | ok a M => exact fun b H2 ρ2 x2 g2 m i => h _ _ (r b H2 ρ2 x2 g2 m i)
  | ex e M => exact r
  | bad => exact r
def tG (G : Gx) (W : WR) (rel : Rel α β) (f : Sl → Store → EO α) (σ : L2.St) (H : Hp) (Q : β → Hp → Prop) : Prop :=
  ∃ τ M ρ, RS W ρ H τ σ ∧ RM G.w ρ H M ∧ RE G W σ ρ H rel (f τ M) Q
theorem tG.imp {G : Gx} {W : WR} {σ : L2.St} {H : Hp} {rel : Rel α β} {f : Sl → Store → EO α} {Q Q' : β → Hp → Prop} (r : tG G W rel f σ H Q) (h : ∀ b H', Q b H' → Q' b H') : tG G W rel f σ H Q' := by
  obtain ⟨τ, M, ρ, a, b, c⟩ := r
  exact ⟨τ, M, ρ, a, b, c.imp h⟩
/-- behind a first part -/
def tK (G : Gx) (W : WR) (rel₁ : Rel α β) (rel₂ : Rel γ δ) (g : Sl → α → Store → EO γ) (σ : L2.St) (Q : δ → Hp → Prop) : β → Hp → Prop := fun b H =>
  ∃ τ M ρ a, RS W ρ H τ σ ∧ RM G.w ρ H M ∧ rel₁ ρ H a b ∧ RE G W σ ρ H rel₂ (g τ a M) Q
theorem seqG {G : Gx} {W : WR} {σ : L2.St} {H : Hp} (rel₁ : Rel α β) {rel₂ : Rel γ δ} {f : Sl → Store → EO α} {g : Sl → α → Store → EO γ} {Q : δ → Hp → Prop}
    (h : tG G W rel₂ (fun τ M => (f τ M).bind (g τ)) σ H Q) : tG G W rel₁ f σ H (tK G W rel₁ rel₂ g σ Q) := by
  obtain ⟨τ, M, ρ, rs, rm, r⟩ := h
  refine ⟨τ, M, ρ, rs, rm, ?_⟩
  simp only at r
  cases e : f τ M with
  | ok a M1 =>
    rw [e] at r
    exact fun b H1 ρ1 x g' m i => ⟨τ, M1, ρ1, a, rs.mono x g', m, i, r.mono x g'⟩
  | ex en M1 => rw [e] at r; exact r
  | bad => rw [e] at r; exact r
/-- .. a second part that doesn't look at the first -/
theorem seqK {G : Gx} {W : WR} {σ : L2.St} {H : Hp} {α' β' : Type} (rel₁ : Rel α β) (hrel : ∀ {ρ ρ' H H' a b}, Ext ρ ρ' → Grow H H' → rel₁ ρ H a b → rel₁ ρ' H' a b) (rel₂ : Rel α' β') {rel₃ : Rel γ δ} {g : Sl → Store → EO α'} {k : Sl → α → α' → Store → EO γ} {Q : δ → Hp → Prop} {b : β}
    (h : tK G W rel₁ rel₃ (fun τ a M => (g τ M).bind (k τ a)) σ Q b H) :
    tG G W rel₂ g σ H (fun b' H' => ∃ τ M ρ a a', RS W ρ H' τ σ ∧ RM G.w ρ H' M ∧ rel₁ ρ H' a b ∧ rel₂ ρ H' a' b' ∧ RE G W σ ρ H' rel₃ (k τ a a' M) Q) := by
  obtain ⟨τ, M, ρ, a, rs, rm, i, r⟩ := h
  refine ⟨τ, M, ρ, rs, rm, ?_⟩
  simp only at r
  cases e : g τ M with
  | ok a' M1 =>
    rw [e] at r
    exact fun b' H1 ρ1 x g' m i' => ⟨τ, M1, ρ1, a, a', rs.mono x g', m, hrel x g' i, i', r.mono x g'⟩
  | ex en M1 => rw [e] at r; exact r
  | bad => rw [e] at r; exact r
end
abbrev relB : Rel Bool Bool := fun _ _ a b => a = b
/-- an expression, an argument list, a test -/
def AE (X : Cx) (W : WR) (e : Expr) (f : EF) : Prop := PE X e (tG (X.gx W.Tb) W Is f)
def AA (X : Cx) (W : WR) (es : List Expr) (f : EFs) : Prop := PA X es (tG (X.gx W.Tb) W IsAll f)
def AT (X : Cx) (W : WR) (e : Expr) (f : EFb) : Prop := PT X e (tG (X.gx W.Tb) W relB f)
theorem _root_.L2.PE.pre {X : Cx} {e : Expr} {t t' : TE} (h : PE X e t) (w : ∀ σ H Q, t' σ H Q → t σ H Q) : PE X e t' := ⟨fun pins s σ H Q I q => h.run pins s σ H Q I (w σ H Q q)⟩
theorem _root_.L2.PA.pre {X : Cx} {e : List Expr} {t t' : TA} (h : PA X e t) (w : ∀ σ H Q, t' σ H Q → t σ H Q) : PA X e t' := ⟨fun pos pins s σ H Q I q => h.run pos pins s σ H Q I (w σ H Q q)⟩
theorem _root_.L2.PT.pre {X : Cx} {e : Expr} {t t' : TT} (h : PT X e t) (w : ∀ σ H Q, t' σ H Q → t σ H Q) : PT X e t' := ⟨fun pins s σ H Q I q => h.run pins s σ H Q I (w σ H Q q)⟩
theorem _root_.L2.PS.pre {X : Cx} {e : Stmt} {t t' : TS} (h : PS X e t) (w : ∀ D σ H, t' D σ H → t D σ H) : PS X e t' := ⟨fun pins s σ H D I q => h.run pins s σ H D I (w D σ H q)⟩
theorem _root_.L2.PSs.pre {X : Cx} {e : List Stmt} {t t' : TS} (h : PSs X e t) (w : ∀ D σ H, t' D σ H → t D σ H) : PSs X e t' := ⟨fun pins s σ H D I q => h.run pins s σ H D I (w D σ H q)⟩
/-- a value that is there: the outcome is ok with the same store -/
theorem RE.okv {α β : Type} {G : Gx} {W : WR} {σ : L2.St} {ρ ρ' : List Addr} {H H' : Hp} {rel : Rel α β} {a : α} {b : β} {M : Store} {Q : β → Hp → Prop} (r : RE G W σ ρ H rel (.ok a M) Q) (x : Ext ρ ρ') (g : Grow H H') (m : RM G.w ρ' H' M) (i : rel ρ' H' a b) : Q b H' :=
  r b H' ρ' x g m i
/-! ### names, constants -/
section
variable {X : Cx} {W : WR} {pos : Pos}
def eVar (i : Nat) : EF := fun τ M => match τ[i]? with
  | some (some a) => .ok a M
  | _ => .bad
def eC (a : A) : EF := fun _ M => .ok a M
theorem ae_v (i : Nat) {x : Str} (hN : X.N[i]? = some x := by rfl) (hv : Vis X.env.scope x := by first | exact Or.inl rfl | exact Or.inr (Or.inl rfl) | exact Or.inr (Or.inr rfl)) (hd : (x == ("__debug__" : Str)) = false := by decide)
    (hcd : (x == ("__classdict__" : Str)) = false := by decide) : AE X W (.Name x pos) (eVar i) := by
  refine (pe_var hN hv hd hcd).pre fun σ H Q h => ?_
  obtain ⟨τ, M, ρ, rs, rm, r⟩ := h
  unfold eVar at r
  split at r
  · rename_i a e
    obtain ⟨v, h1, h2⟩ := rs.get e
    exact ⟨v, h1, r.okv (.refl _) (.refl _) rm h2⟩
  · exact False.elim r
theorem const_ok {a : A} {v : V} (hi : ∀ ρ H, Is ρ H a v) {e : Expr} (h : PE X e (tC v)) : AE X W e (eC a) := by
  refine h.pre fun σ H Q h => ?_
  obtain ⟨τ, M, ρ, rs, rm, r⟩ := h
  exact r.okv (.refl _) (.refl _) rm (hi _ _)
theorem ae_int {i : Int} {j} : AE X W (.Constant (.int i) j pos) (eC (.int i)) := const_ok (fun _ _ => .int i) pe_int
theorem ae_bl {b : Bool} {j} : AE X W (.Constant (.bool b) j pos) (eC (.bl b)) := const_ok (fun _ _ => .bl b) pe_bl
theorem ae_non {j} : AE X W (.Constant .none j pos) (eC .non) := const_ok (fun _ _ => .non) pe_non
theorem ae_str {x : Str} {j} : AE X W (.Constant (.str x) j pos) (eC (.str x)) := const_ok (fun _ _ => .str x) pe_str
/-- a module's constant -/
theorem ae_glob {x : Str} {a : A} {v : V} {u : Value} (hm : X.mg x = some u) (hi : ∀ ρ H, Is ρ H a v) (r : RelV v u) (hg : Gl X x := by rfl) (hd : (x == ("__debug__" : Str)) = false := by decide) : AE X W (.Name x pos) (eC a) := const_ok hi (pe_glob hg hm r hd)
/-! ### argument lists -/
def eNil : EFs := fun _ M => .ok [] M
def eCons (f : EF) (g : EFs) : EFs := fun τ M => (f τ M).bind fun a M1 => (g τ M1).bind fun as M2 => .ok (a :: as) M2
theorem Is.ext {ρ ρ' : List Addr} {H H' : Hp} {a : A} {b : V} (x : Ext ρ ρ') (g : Grow H H') (i : Is ρ H a b) : Is ρ' H' a b := i.mono x g
theorem aa_nil : AA X W [] eNil := by
  refine pa_nil.pre fun σ H Q h => ?_
  obtain ⟨τ, M, ρ, rs, rm, r⟩ := h
  exact r.okv (.refl _) (.refl _) rm .nil
theorem aa_cons {e : Expr} {es : List Expr} {f : EF} {g : EFs} (h1 : AE X W e f) (h2 : AA X W es g) (hs : starEach (e :: es) X.env = (false, eval e X.env) :: starEach es X.env := by rfl) : AA X W (e :: es) (eCons f g) := by
  refine (pa_cons h1 h2 hs).pre fun σ H Q h => ?_
  refine (seqG Is h).imp fun x H1 h1 => ?_
  refine (seqK Is Is.ext IsAll h1).imp fun xs H2 h2 => ?_
  obtain ⟨τ, M, ρ, a, as, rs, rm, i, is, r⟩ := h2
  exact r.okv (.refl _) (.refl _) rm (.cons i is)
/-! ### operations on values -/
/-- a two-place operation of the machine -/
abbrev O2 := A → A → Store → Option (A × Store)
abbrev O1 := A → Store → Option (A × Store)
abbrev On := List A → Store → Option (A × Store)
def toE {α : Type} (o : Option (α × Store)) : EO α := match o with
  | some (a, M) => .ok a M
  | none => .bad
/-- it ends as told, from wherever -/
def RO (w : Amb) (ρ : List Addr) (H : Hp) (o : Option (A × Store)) (Q : VK) : Prop := match o with
  | some (a, M) => ∀ v H' ρ', Ext ρ ρ' → Grow H H' → RM w ρ' H' M → Is ρ' H' a v → Q v H'
  | none => False
theorem RO.of {G : Gx} {σ : L2.St} {ρ : List Addr} {H : Hp} {o : Option (A × Store)} {Q : VK} (r : RE G W σ ρ H Is (toE o) Q) : RO G.w ρ H o Q := by
  cases o with
  | none => exact r
  | some p => exact r
def r2 (w : Amb) (o : O2) : R2 := fun x y H Q => ∃ a b M ρ, Is ρ H a x ∧ Is ρ H b y ∧ RM w ρ H M ∧ RO w ρ H (o a b M) Q
def r1 (w : Amb) (o : O1) : V → Hp → VK → Prop := fun x H Q => ∃ a M ρ, Is ρ H a x ∧ RM w ρ H M ∧ RO w ρ H (o a M) Q
def rn (w : Amb) (o : On) : List V → Hp → VK → Prop := fun xs H Q => ∃ as M ρ, IsAll ρ H as xs ∧ RM w ρ H M ∧ RO w ρ H (o as M) Q
def eOp (o : O2) (f g : EF) : EF := fun τ M => (f τ M).bind fun a M1 => (g τ M1).bind fun b M2 => toE (o a b M2)
def eUn (o : O1) (f : EF) : EF := fun τ M => (f τ M).bind fun a M1 => toE (o a M1)
def eFn (o : On) (f : EFs) : EF := fun τ M => (f τ M).bind fun as M1 => toE (o as M1)
theorem op_tK {f g : EF} {o : O2} {σ : L2.St} {H : Hp} {Q : VK} {G : Gx} (h : tG G W Is (eOp o f g) σ H Q) : tG G W Is f σ H fun x H1 => tG G W Is g σ H1 fun y H2 => r2 G.w o x y H2 Q := by
  refine (seqG Is h).imp fun x H1 h1 => ?_
  refine (seqK Is Is.ext Is h1).imp fun y H2 h2 => ?_
  obtain ⟨τ, M, ρ, a, b, rs, rm, i, j, r⟩ := h2
  exact ⟨a, b, M, ρ, i, j, rm, RO.of r⟩
theorem ae_op {a b : Expr} {op : Operator} {o : O2} {f g : EF} (ho : OpR X (binaryOp op) (r2 (X.am W.Tb) o)) (ha : AE X W a f) (hb : AE X W b g) : AE X W (.BinOp a op b pos) (eOp o f g) :=
  (pe_op ho ha hb).pre fun _ _ _ h => op_tK h
theorem ae_un {a : Expr} {op : UnaryOp} {o : O1} {f : EF} (ho : UnR X (unaryOp op) (r1 (X.am W.Tb) o)) (ha : AE X W a f) : AE X W (.UnaryOp op a pos) (eUn o f) := by
  refine (pe_un ho ha).pre fun σ H Q h => ?_
  refine (seqG Is h).imp fun x H1 h1 => ?_
  obtain ⟨τ, M, ρ, a, rs, rm, i, r⟩ := h1
  exact ⟨a, M, ρ, i, rm, RO.of r⟩
theorem fn_tK {f : EFs} {o : On} {σ : L2.St} {H : Hp} {Q : VK} {G : Gx} (h : tG G W Is (eFn o f) σ H Q) : tG G W IsAll f σ H fun xs H1 => rn G.w o xs H1 Q := by
  refine (seqG IsAll h).imp fun x H1 h1 => ?_
  obtain ⟨τ, M, ρ, a, rs, rm, i, r⟩ := h1
  exact ⟨a, M, ρ, i, rm, RO.of r⟩
/-- f(e, ..), f built in -/
theorem ae_B {id : String} {o : On} {x : Str} {p : Pos} {e : Expr} {es : List Expr} {f : EFs} (hc : CallR X (.builtin id) (rn (X.am W.Tb) o)) (hm : X.mg x = none) (ha : AA X W (e :: es) f) (hg : Gl X x := by rfl) (hv : bootBuiltins x = some (.builtin id) := by decide +kernel) (hn : x ≠ "__name__" := by decide) (hdb : (x == ("__debug__" : Str)) = false := by decide)
    (he : starEach (e :: es) X.env = (false, eval e X.env) :: starEach es X.env := by rfl) (hpl : (backTo pos (starEach es X.env)).any (·.1) = false := by rfl) : AE X W (.Call (.Name x p) (e :: es) [] pos) (eFn o f) :=
  (pe_callB hc hg hm hv ha hn hdb he hpl).pre fun _ _ _ h => fn_tK h
theorem ae_Ty {T : String} {o : On} {x : Str} {p : Pos} {e : Expr} {es : List Expr} {f : EFs} (hc : CallR X (.type T) (rn (X.am W.Tb) o)) (hm : X.mg x = none) (ha : AA X W (e :: es) f) (hg : Gl X x := by rfl) (hv : bootBuiltins x = some (.type T) := by decide +kernel) (hn : x ≠ "__name__" := by decide) (hdb : (x == ("__debug__" : Str)) = false := by decide)
    (he : starEach (e :: es) X.env = (false, eval e X.env) :: starEach es X.env := by rfl) (hpl : (backTo pos (starEach es X.env)).any (·.1) = false := by rfl) : AE X W (.Call (.Name x p) (e :: es) [] pos) (eFn o f) :=
  (pe_callTy hc hg hm hv ha hn hdb he hpl).pre fun _ _ _ h => fn_tK h
end
end AB
/-! AB2: operations -/
namespace AB
open PySem PySem.Spec PyProof.Rows L2
/-- the list that a cell holds -/
def Cell.list? : Cell → Option (List A)
  | .lst xs => some xs
  | .frz xs => some xs
  | _ => none
def listAt (M : Store) (l : Nat) : Option (List A) := match M[l]? with
  | some c => c.list?
  | none => none
theorem RM.list {ρ : List Addr} {H : Hp} {M : Store} (m : RM w ρ H M) {l : Nat} {a : Addr} {xs : List A} (ha : ρ[l]? = some a) (h : listAt M l = some xs) : ∃ vs, SqL w.K H a vs ∧ IsAll ρ H xs vs := by
  unfold listAt at h
  split at h
  · rename_i c e
    have r := m.at_ l a c ha e
    cases c with
    | lst ys => cases h; obtain ⟨vs, q, i⟩ := r; exact ⟨vs, .inl (.inl q), i⟩
    | frz ys =>
      cases h
      obtain ⟨vs, q, i⟩ := r
      rcases q with (⟨o, q⟩ | q) | q
      · exact ⟨vs, .inl (.inr ⟨o, q⟩), i⟩
      · exact ⟨vs, .inl (.inl q), i⟩
      · exact ⟨vs, .inr q, i⟩
    | dK _ => cases h
    | dT _ => cases h
    | dN _ => cases h
    | st _ => cases h
    | obj => cases h
    | xd _ => cases h
    | fk _ => cases h
    | fT _ => cases h
    | ins _ _ => cases h
  · cases h
theorem RM.lstM {ρ : List Addr} {H : Hp} {M : Store} (m : RM w ρ H M) {l : Nat} {a : Addr} {xs : List A} (ha : ρ[l]? = some a) (h : M[l]? = some (.lst xs)) : ∃ vs, H a = some (.lst vs) ∧ IsAll ρ H xs vs := m.at_ l a _ ha h
/-- a value's data -/
def dat (M : Store) : Nat → A → Option PyData
  | _, .non => some .none
  | _, .bl b => some (.bool b)
  | _, .int i => some (.int i)
  | _, .str x => some (.str x)
  | n + 1, .tup xs => (xs.mapM (dat M n)).map .tuple
  | n + 1, .ftp xs => (xs.mapM (dat M n)).map .tuple
  | n + 1, .lst l => (listAt M l).bind fun xs => (xs.mapM (dat M n)).map .list
  | _, _ => none
theorem mapM_cons_some {α β : Type} {f : α → Option β} {x : α} {xs : List α} {ys : List β} (h : (x :: xs).mapM f = some ys) : ∃ y ys', f x = some y ∧ xs.mapM f = some ys' ∧ ys = y :: ys' := by
  rw [List.mapM_cons] at h
  cases e : f x with
  | none => rw [e] at h; cases h
  | some y =>
    rw [e] at h
    cases e2 : xs.mapM f with
    | none => rw [e2] at h; cases h
    | some ys' => rw [e2] at h; cases h; exact ⟨y, ys', rfl, rfl, rfl⟩
section
variable {w : Amb} {ρ : List Addr} {H : Hp} {M : Store} {K : PySem.W.Frag}
theorem dat_all {n : Nat} (ih : ∀ {a : A} {v : V} {d : PyData}, Is ρ H a v → dat M n a = some d → Dp K H v d) : ∀ {xs : List A} {vs : List V} {ds : List PyData}, IsAll ρ H xs vs → xs.mapM (dat M n) = some ds → DpAll K H vs ds
  | [], _, ds, .nil, e => by
    rw [List.mapM_nil] at e; cases e; exact .nil
  | x :: xs, _, ds, .cons r rs, e => by
    obtain ⟨y, ys, e1, e2, rfl⟩ := mapM_cons_some e
    exact .cons (ih r e1) (dat_all ih rs e2)
theorem dat_ok (m : RM w ρ H M) : ∀ {n : Nat} {a : A} {v : V} {d : PyData}, Is ρ H a v → dat M n a = some d → Dp w.K H v d := by
  intro n
  induction n with
  | zero =>
    intro a v d r e
    cases r <;> simp only [dat] at e <;> cases e <;> constructor
  | succ n ih =>
    intro a v d r e
    cases r with
    | non => simp only [dat] at e; cases e; constructor
    | bl b => simp only [dat] at e; cases e; constructor
    | int i => simp only [dat] at e; cases e; constructor
    | str x => simp only [dat] at e; cases e; constructor
    | tup h rs =>
      simp only [dat] at e
      cases e2 : List.mapM (dat M n) _ with
      | none => rw [e2] at e; cases e
      | some ds =>
        rw [e2] at e; cases e
        exact .tup (.inl (.inl h)) (dat_all ih rs e2)
    | lst h =>
      simp only [dat] at e
      cases e1 : listAt M _ with
      | none => rw [e1] at e; cases e
      | some xs =>
        rw [e1] at e
        obtain ⟨vs, q, i⟩ := m.list h e1
        cases e2 : List.mapM (dat M n) xs with
        | none => rw [Option.bind_some, e2] at e; cases e
        | some ds =>
          rw [Option.bind_some, e2] at e; cases e
          exact .lst q (dat_all ih i e2)
    | dct h => simp only [dat] at e; cases e
    | ty n => simp only [dat] at e; cases e
    | obj h => simp only [dat] at e; cases e
    | rng h => simp only [dat] at e; cases e
    | ftp h _ _ rs =>
      simp only [dat] at e
      cases e2 : List.mapM (dat M n) _ with
      | none => rw [e2] at e; cases e
      | some ds =>
        rw [e2] at e; cases e
        exact .tup (.inl (.inr ⟨_, h⟩)) (dat_all ih rs e2)
end
/-- data that == may compare -/
def datS (M : Store) (a : A) : Option PyData := match dat M 8 a with
  | some d => if SeqAt.shaped d = true then some d else none
  | none => none
theorem datS_ok {ρ : List Addr} {H : Hp} {M : Store} (m : RM w ρ H M) {a : A} {v : V} {d : PyData} (r : Is ρ H a v) (e : datS M a = some d) : Dp w.K H v d ∧ SeqAt.shaped d = true := by
  unfold datS at e
  split at e
  · rename_i d' e'
    split at e
    · rename_i hs; cases e; exact ⟨dat_ok m r e', hs⟩
    · cases e
  · cases e
def flat? : A → Option V
  | .non => some .non
  | .bl b => some (.bl b)
  | .int i => some (.int i)
  | .str x => some (.str x)
  | _ => none
theorem flat_ok {ρ : List Addr} {H : Hp} {a : A} {v w : V} (r : Is ρ H a v) (e : flat? a = some w) : v = w ∧ flatV v = true := by
  cases r <;> simp only [flat?] at e <;> cases e <;> exact ⟨rfl, rfl⟩
theorem flats_ok {ρ : List Addr} {H : Hp} : ∀ {as : List A} {vs ws : List V}, IsAll ρ H as vs → as.mapM flat? = some ws → vs = ws ∧ vs.all flatV = true
  | [], _, ws, .nil, e => by rw [List.mapM_nil] at e; cases e; exact ⟨rfl, rfl⟩
  | x :: xs, _, ws, .cons r rs, e => by
    obtain ⟨y, ys, e1, e2, rfl⟩ := mapM_cons_some e
    obtain ⟨h1, h2⟩ := flat_ok r e1
    obtain ⟨h3, h4⟩ := flats_ok rs e2
    subst h1 h3
    exact ⟨rfl, by rw [List.all_cons, h2, h4]; rfl⟩
/-! ### results -/
section
variable {ρ : List Addr} {H : Hp} {M : Store}
theorem RO.val {a : A} {v : V} {Q : VK} (r : RO w ρ H (some (a, M)) Q) (m : RM w ρ H M) (i : Is ρ H a v) : Q v H := r v H ρ (.refl _) (.refl _) m i
/-- a new tuple -/
theorem RO.newT {ts : List A} {vs : List V} {Q : VK} {p : Addr} (r : RO w ρ H (some (.tup ts, M)) Q) (m : RM w ρ H M) (i : IsAll ρ H ts vs) (hp : H p = none) : Q (.ref p) (upd H p (.tup vs)) :=
  r _ _ ρ (.refl _) (.new hp) (m.new hp) (.tup upd_same (i.mono (.refl _) (.new hp)))
/-- a new list -/
theorem RO.newL {ts : List A} {vs : List V} {Q : VK} {p : Addr} (r : RO w ρ H (some (.lst M.length, M ++ [.lst ts])) Q) (m : RM w ρ H M) (i : IsAll ρ H ts vs) (hp : H p = none) : Q (.ref p) (upd H p (.lst vs)) :=
  r _ _ (ρ ++ [p]) (.snoc _ _) (.new hp) (m.push hp ⟨vs, upd_same, i.mono (.snoc _ _) (.new hp)⟩) (.lst (by rw [← m.len]; simp))
/-- a list is changed -/
theorem RO.setL {l : Nat} {a : A} {v : V} {b : Addr} {c : Cell} {ts : List A} {vs : List V} {Q : VK} (r : RO w ρ H (some (a, M.set l (.lst ts))) Q) (m : RM w ρ H M) (hb : ρ[l]? = some b) (hc : M[l]? = some c) (i : IsAll ρ H ts vs) (ia : Is ρ H a v) (hm : c.isM = true := by rfl) : Q v (upd H b (.lst vs)) :=
  have g := m.growSet (o := .lst vs) hb hc hm
  r _ _ ρ (.refl _) g (m.set hb hc ⟨vs, upd_same, i.mono (.refl _) g⟩ hm) (ia.mono (.refl _) g)
end
def oAdd : O2 := fun a b M => match a, b with
  | .int i, .int j => some (.int (i + j), M)
  | .tup xs, .tup ys => if xs.length + ys.length ≤ sizeLine then some (.tup (xs ++ ys), M) else none
  | .str x, .str y => if x.length + y.length ≤ sizeLine then some (.str (x ++ y), M) else none
  | .lst l, .lst k => match M[l]?, M[k]? with
    | some (.lst xs), some (.lst ys) => if xs.length + ys.length ≤ sizeLine then some (.lst M.length, M ++ [.lst (xs ++ ys)]) else none
    | _, _ => none
  | _, _ => none
section
variable {X : Cx}
theorem op_addA : OpR X (binaryOp .Add) (r2 (X.am Tb) oAdd) := by
  intro pins s σ H x y v u Q I rx ry h
  obtain ⟨a, b, M, ρ, ia, ib, m, r⟩ := h
  unfold oAdd at r
  split at r
  · cases ia; cases ib
    exact op_add pins s σ H _ _ v u Q I rx ry ⟨_, _, rfl, rfl, r.val m (.int _)⟩
  · cases ia with
    | tup ha qa =>
      cases ib with
      | tup hb qb =>
        split at r
        · rename_i hz
          refine op_catA pins s σ H _ _ v u Q I rx ry ⟨_, _, _, _, rfl, rfl, .inl (.inl ha), .inl (.inl hb), by rw [← qa.length, ← qb.length]; exact hz, ?_, ?_, ?_⟩
          · intro e; subst e; cases qa; exact r.val m (.tup hb qb)
          · intro _ e; subst e; cases qb; rw [List.append_nil] at r; exact r.val m (.tup ha qa)
          · intro _ _ p hp; exact r.newT m (qa.append qb) hp
        · exact r.elim
  · cases ia; cases ib
    split at r
    · rename_i hz
      exact op_add_str pins s σ H _ _ v u Q I rx ry ⟨_, _, rfl, rfl, hz, r.val m (.str _)⟩
    · exact r.elim
  · rename_i l k
    cases ia with
    | lst ha =>
      cases ib with
      | lst hb =>
        split at r
        · rename_i xs ys e1 e2
          split at r
          · rename_i hz
            obtain ⟨vs, h1, i1⟩ := m.lstM ha e1
            obtain ⟨ws, h2, i2⟩ := m.lstM hb e2
            exact op_cat pins s σ H _ _ v u Q I rx ry ⟨_, _, _, _, rfl, rfl, h1, h2, by rw [← i1.length, ← i2.length]; exact hz, fun p hp => r.newL m (i1.append i2) hp⟩
          · exact r.elim
        · exact r.elim
  · exact r.elim
def oSub : O2 := fun a b M => match a, b with
  | .int i, .int j => some (.int (i - j), M)
  | _, _ => none
theorem op_subA : OpR X (binaryOp .Sub) (r2 (X.am Tb) oSub) := by
  intro pins s σ H x y v u Q I rx ry h
  obtain ⟨a, b, M, ρ, ia, ib, m, r⟩ := h
  unfold oSub at r
  split at r
  · cases ia; cases ib
    exact op_sub pins s σ H _ _ v u Q I rx ry ⟨_, _, rfl, rfl, r.val m (.int _)⟩
  · exact r.elim
def oMul : O2 := fun a b M => match a, b with
  | .int i, .int j => if (-(2 ^ 64) < i ∧ i < 2 ^ 64) ∨ (-(2 ^ 64) < j ∧ j < 2 ^ 64) then some (.int (i * j), M) else none
  | .lst l, .int k => match M[l]? with
    | some (.lst xs) => if -(2 ^ 63) ≤ k ∧ k < 2 ^ 63 ∧ xs.length * k.toNat ≤ sizeLine then some (.lst M.length, M ++ [.lst (List.replicate k.toNat xs).flatten]) else none
    | _ => none
  | _, _ => none
theorem IsAll.rep {ρ : List Addr} {H : Hp} {ts : List A} {vs : List V} (r : IsAll ρ H ts vs) : ∀ n : Nat, IsAll ρ H (List.replicate n ts).flatten (List.replicate n vs).flatten
  | 0 => .nil
  | n + 1 => by
    rw [List.replicate_succ, List.replicate_succ, List.flatten_cons, List.flatten_cons]
    exact r.append (IsAll.rep r n)
theorem op_mulA : OpR X (binaryOp .Mult) (r2 (X.am Tb) oMul) := by
  intro pins s σ H x y v u Q I rx ry h
  obtain ⟨a, b, M, ρ, ia, ib, m, r⟩ := h
  unfold oMul at r
  split at r
  · cases ia; cases ib
    split at r
    · rename_i hc
      exact op_mul pins s σ H _ _ v u Q I rx ry ⟨_, _, rfl, rfl, hc, r.val m (.int _)⟩
    · exact r.elim
  · rename_i l k
    cases ib
    cases ia with
    | lst ha =>
      split at r
      · rename_i xs e1
        split at r
        · rename_i hc
          obtain ⟨vs, h1, i1⟩ := m.lstM ha e1
          exact op_rep pins s σ H _ _ v u Q I rx ry ⟨_, _, _, rfl, rfl, h1, hc.1, hc.2.1, by rw [← i1.length]; exact hc.2.2, fun p hp => r.newL m (i1.rep _) hp⟩
        · exact r.elim
      · exact r.elim
  · exact r.elim
def oFdiv : O2 := fun a b M => match a, b with
  | .int i, .int j => if 0 < j ∧ j < 1073741824 then some (.int (i / j), M) else none
  | _, _ => none
theorem op_fdivA : OpR X (binaryOp .FloorDiv) (r2 (X.am Tb) oFdiv) := by
  intro pins s σ H x y v u Q I rx ry h
  obtain ⟨a, b, M, ρ, ia, ib, m, r⟩ := h
  unfold oFdiv at r
  split at r
  · cases ia; cases ib
    split at r
    · rename_i hc
      exact op_fdiv pins s σ H _ _ v u Q I rx ry ⟨_, _, rfl, rfl, hc, r.val m (.int _)⟩
    · exact r.elim
  · exact r.elim
def oMod : O2 := fun a b M => match a, b with
  | .int i, .int j => if 0 < j then some (.int (i % j), M) else none
  | _, _ => none
theorem op_modA : OpR X (binaryOp .Mod) (r2 (X.am Tb) oMod) := by
  intro pins s σ H x y v u Q I rx ry h
  obtain ⟨a, b, M, ρ, ia, ib, m, r⟩ := h
  unfold oMod at r
  split at r
  · cases ia; cases ib
    split at r
    · rename_i hc
      exact op_mod pins s σ H _ _ v u Q I rx ry ⟨_, _, rfl, rfl, hc, r.val m (.int _)⟩
    · exact r.elim
  · exact r.elim
def oPow : O2 := fun a b M => match a, b with
  | .int i, .int j => if 0 ≤ j ∧ j ≤ 1000000 ∧ i.natAbs < 2 ^ 64 then some (.int (i ^ j.toNat), M) else none
  | _, _ => none
theorem op_powA : OpR X (binaryOp .Pow) (r2 (X.am Tb) oPow) := by
  intro pins s σ H x y v u Q I rx ry h
  obtain ⟨a, b, M, ρ, ia, ib, m, r⟩ := h
  unfold oPow at r
  split at r
  · cases ia; cases ib
    split at r
    · rename_i hc
      exact op_pow pins s σ H _ _ v u Q I rx ry ⟨_, _, rfl, rfl, hc, r.val m (.int _)⟩
    · exact r.elim
  · exact r.elim
def oNeg : O1 := fun a M => match a with
  | .int i => some (.int (-i), M)
  | _ => none
theorem un_negA : UnR X (unaryOp .USub) (r1 (X.am Tb) oNeg) := by
  intro pins s σ H x v Q I rx h
  obtain ⟨a, M, ρ, ia, m, r⟩ := h
  unfold oNeg at r
  split at r
  · cases ia
    exact un_neg pins s σ H _ v Q I rx ⟨_, rfl, r.val m (.int _)⟩
  · exact r.elim
/-! ### comparisons -/
def oEq : O2 := fun a b M => match datS M a, datS M b with
  | some d, some e => some (.bl (PyData.eqv d e), M)
  | _, _ => none
def oNe : O2 := fun a b M => match datS M a, datS M b with
  | some d, some e => some (.bl (!PyData.eqv d e), M)
  | _, _ => none
theorem op_eqA (hu : X.A.units + 64 < cLine) : OpR X (compareOp .Eq) (r2 (X.am Tb) oEq) := by
  intro pins s σ H x y v u Q I rx ry h
  obtain ⟨a, b, M, ρ, ia, ib, m, r⟩ := h
  unfold oEq at r
  split at r
  · rename_i d e e1 e2
    obtain ⟨h1, s1⟩ := datS_ok m ia e1
    obtain ⟨h2, s2⟩ := datS_ok m ib e2
    exact op_eqD hu pins s σ H x y v u Q I rx ry ⟨d, e, h1, h2, s1, s2, r.val m (.bl _)⟩
  · exact r.elim
theorem op_neA (hu : X.A.units + 64 < cLine) : OpR X (compareOp .NotEq) (r2 (X.am Tb) oNe) := by
  intro pins s σ H x y v u Q I rx ry h
  obtain ⟨a, b, M, ρ, ia, ib, m, r⟩ := h
  unfold oNe at r
  split at r
  · rename_i d e e1 e2
    obtain ⟨h1, s1⟩ := datS_ok m ia e1
    obtain ⟨h2, s2⟩ := datS_ok m ib e2
    exact op_neD hu pins s σ H x y v u Q I rx ry ⟨d, e, h1, h2, s1, s2, r.val m (.bl _)⟩
  · exact r.elim
def oInt (p : Int → Int → Bool) : O2 := fun a b M => match a, b with
  | .int i, .int j => some (.bl (p i j), M)
  | _, _ => none
def oLt : O2 := oInt fun i j => decide (i < j)
def oLe : O2 := oInt fun i j => decide (i ≤ j)
def oGt : O2 := oInt fun i j => decide (j < i)
def oGe : O2 := oInt fun i j => decide (j ≤ i)
theorem op_intA {op : CmpOp} {p : Int → Int → Bool} (ho : OpR X (compareOp op) (rI0 fun i j => .bl (p i j))) : OpR X (compareOp op) (r2 (X.am Tb) (oInt p)) := by
  intro pins s σ H x y v u Q I rx ry h
  obtain ⟨a, b, M, ρ, ia, ib, m, r⟩ := h
  unfold oInt at r
  split at r
  · cases ia; cases ib
    exact ho pins s σ H _ _ v u Q I rx ry ⟨_, _, rfl, rfl, r.val m (.bl _)⟩
  · exact r.elim
theorem op_ltA : OpR X (compareOp .Lt) (r2 (X.am Tb) oLt) := op_intA op_lt
theorem op_leA : OpR X (compareOp .LtE) (r2 (X.am Tb) oLe) := op_intA op_le
theorem op_gtA : OpR X (compareOp .Gt) (r2 (X.am Tb) oGt) := op_intA op_gt
theorem op_geA : OpR X (compareOp .GtE) (r2 (X.am Tb) oGe) := op_intA op_ge
def isNon : A → Bool
  | .non => true
  | _ => false
def oIs : O2 := fun a b M => match b with
  | .non => some (.bl (isNon a), M)
  | _ => none
def oIsNot : O2 := fun a b M => match b with
  | .non => some (.bl (!isNon a), M)
  | _ => none
theorem isNon_ok {ρ : List Addr} {H : Hp} {a : A} {v : V} (r : Is ρ H a v) : decide (v = .non) = isNon a := by
  cases r <;> simp [isNon]
theorem op_isA : OpR X (compareOp .Is) (r2 (X.am Tb) oIs) := by
  intro pins s σ H x y v u Q I rx ry h
  obtain ⟨a, b, M, ρ, ia, ib, m, r⟩ := h
  unfold oIs at r
  split at r
  · cases ib
    exact op_isN pins s σ H _ _ v u Q I rx ry ⟨rfl, by rw [isNon_ok ia]; exact r.val m (.bl _)⟩
  · exact r.elim
theorem op_isNotA : OpR X (compareOp .IsNot) (r2 (X.am Tb) oIsNot) := by
  intro pins s σ H x y v u Q I rx ry h
  obtain ⟨a, b, M, ρ, ia, ib, m, r⟩ := h
  unfold oIsNot at r
  split at r
  · cases ib
    exact op_notN pins s σ H _ _ v u Q I rx ry ⟨rfl, by rw [isNon_ok ia]; exact r.val m (.bl _)⟩
  · exact r.elim
/-! ### keys of dicts -/
def key? : A → Option Key
  | .int i => some (.inl i)
  | .str x => some (.inr x)
  | _ => none
theorem key_ok {ρ : List Addr} {H : Hp} {a : A} {v : V} {k : Key} (r : Is ρ H a v) (e : key? a = some k) : v = kV k := by
  cases r <;> simp only [key?] at e <;> cases e <;> rfl
theorem keys_ok {ρ : List Addr} {H : Hp} : ∀ {as : List A} {vs : List V} {ks : List Key}, IsAll ρ H as vs → as.mapM key? = some ks → vs = ks.map kV
  | [], _, ks, .nil, e => by rw [List.mapM_nil] at e; cases e; rfl
  | x :: xs, _, ks, .cons r rs, e => by
    obtain ⟨y, ys, e1, e2, rfl⟩ := mapM_cons_some e
    rw [key_ok r e1, keys_ok rs e2]; rfl
section
variable {κ : Type} [DecidableEq κ]
def valA (kvs : List (κ × A)) (k : κ) : Option A := (kvs.find? fun kv => decide (kv.1 = k)).map (·.2)
def putA (kvs : List (κ × A)) (k : κ) (v : A) : List (κ × A) :=
  if (kvs.any fun kv => decide (kv.1 = k)) = true then kvs.map (fun kv => if kv.1 = k then (kv.1, v) else kv) else kvs ++ [(k, v)]
theorem valA_ok {ρ : List Addr} {H : Hp} (k : κ) : ∀ {kvs : List (κ × A)} {vs : List V}, IsAll ρ H (kvs.map (·.2)) vs →
    (valA kvs k = none ∧ valV ((kvs.map (·.1)).zip vs) k = none) ∨ ∃ a v, valA kvs k = some a ∧ valV ((kvs.map (·.1)).zip vs) k = some v ∧ Is ρ H a v
  | [], _, .nil => .inl ⟨rfl, rfl⟩
  | (j, a) :: kvs, _, .cons (v := v) (vs := vs) r rs => by
    by_cases e : j = k
    · subst e
      exact .inr ⟨a, v, by simp [valA], by simp [valV], r⟩
    · have ih := valA_ok (H := H) k rs
      have e1 : valA ((j, a) :: kvs) k = valA kvs k := by simp [valA, List.find?_cons, e]
      have e2 : valV ((((j, a) :: kvs).map (·.1)).zip (v :: vs)) k = valV ((kvs.map (·.1)).zip vs) k := by simp [valV, List.find?_cons, e]
      rw [e1, e2]; exact ih
theorem put_ok {ρ : List Addr} {H : Hp} (k : κ) {x : A} {y : V} (rx : Is ρ H x y) {kvs : List (κ × A)} {vs : List V} (r : IsAll ρ H (kvs.map (·.2)) vs) :
    ∃ ws, putK ((kvs.map (·.1)).zip vs) k y = ((putA kvs k x).map (·.1)).zip ws ∧ IsAll ρ H ((putA kvs k x).map (·.2)) ws := by
  have any_eq : ∀ {kvs : List (κ × A)} {vs : List V}, IsAll ρ H (kvs.map (·.2)) vs → (((kvs.map (·.1)).zip vs).any fun kv => decide (kv.1 = k)) = kvs.any fun kv => decide (kv.1 = k) := by
    intro kvs
    induction kvs with
    | nil => intro vs r; cases r; rfl
    | cons p kvs ih =>
      intro vs r
      cases r with
      | cons r rs => simp only [List.map_cons, List.zip_cons_cons, List.any_cons, ih rs]
  unfold putK putA
  rw [any_eq r]
  split
  · clear any_eq
    rename_i hany; clear hany
    induction kvs generalizing vs with
    | nil => cases r; exact ⟨[], rfl, .nil⟩
    | cons p kvs ih =>
      cases r with
      | @cons _ v0 _ vs0 r rs =>
        obtain ⟨ws, e1, e2⟩ := ih rs
        obtain ⟨j, a⟩ := p
        by_cases e : j = k
        · subst e
          refine ⟨y :: ws, ?_, ?_⟩
          · simp only [List.map_cons, List.zip_cons_cons, if_true]
            rw [e1]
          · simp only [List.map_cons, if_true]
            exact .cons rx e2
        · refine ⟨v0 :: ws, ?_, ?_⟩
          · simp only [List.map_cons, List.zip_cons_cons, if_neg e]
            rw [e1]
          · simp only [List.map_cons, if_neg e]
            exact .cons r e2
  · refine ⟨vs ++ [y], ?_, ?_⟩
    · rw [List.map_append, List.zip_append (by simpa using r.length)]; rfl
    · rw [List.map_append]; exact r.append (.cons rx .nil)
end
/-- what a dict holds at a key -/
def dGet (M : Store) (d : Nat) (k : A) : Option (Option A) := match M[d]? with
  | some (.dK kvs) => (key? k).map fun j => valA kvs j
  | some (.dT kvs) => match k with
    | .tup xs => (xs.mapM key?).map fun j => valA kvs j
    | _ => none
  | some (.fk kvs) => (key? k).map fun j => valA kvs j
  | some (.fT kvs) => match k with
    | .tup xs => (xs.mapM key?).map fun j => valA kvs j
    | _ => none
  | _ => none
def dPut (M : Store) (d : Nat) (k x : A) : Option Store := match M[d]? with
  | some (.dK kvs) => if kvs.length < sizeLine then (key? k).map fun j => M.set d (.dK (putA kvs j x)) else none
  | some (.dT kvs) => if kvs.length < sizeLine then match k with
    | .tup xs => (xs.mapM key?).map fun j => M.set d (.dT (putA kvs j x))
    | _ => none else none
  | _ => none
theorem dGet_ok {ρ : List Addr} {H : Hp} {M : Store} (m : RM w ρ H M) {d : Nat} {b : Addr} {k : A} {y : V} {o : Option A} (hb : ρ[d]? = some b) (ik : Is ρ H k y) (e : dGet M d k = some o) :
    (o = none ∧ DGet H b y none) ∨ ∃ a v, o = some a ∧ DGet H b y (some v) ∧ Is ρ H a v := by
  unfold dGet at e
  split at e
  · rename_i kvs ec
    obtain ⟨vs, h, i⟩ := m.at_ d b _ hb ec
    cases ek : key? k with
    | none => rw [ek] at e; cases e
    | some j =>
      rw [ek] at e; cases e
      rw [key_ok ik ek]
      rcases valA_ok j i with ⟨h1, h2⟩ | ⟨a, v, h1, h2, h3⟩
      · exact .inl ⟨h1, by rw [← h2]; exact DGet.k h⟩
      · exact .inr ⟨a, v, h1, by rw [← h2]; exact DGet.k h, h3⟩
  · rename_i kvs ec
    obtain ⟨vs, h, i⟩ := m.at_ d b _ hb ec
    split at e
    · rename_i xs
      cases ik with
      | tup ht it =>
        cases ek : xs.mapM key? with
        | none => rw [ek] at e; cases e
        | some j =>
          rw [ek] at e; cases e
          rw [keys_ok it ek] at ht
          rcases valA_ok j i with ⟨h1, h2⟩ | ⟨a, v, h1, h2, h3⟩
          · exact .inl ⟨h1, by rw [← h2]; exact DGet.t h ht⟩
          · exact .inr ⟨a, v, h1, by rw [← h2]; exact DGet.t h ht, h3⟩
    · cases e
  · rename_i kvs ec
    obtain ⟨od, vs, h, i⟩ := m.at_ d b _ hb ec
    cases ek : key? k with
    | none => rw [ek] at e; cases e
    | some j =>
      rw [ek] at e; cases e
      rw [key_ok ik ek]
      rcases valA_ok j i with ⟨h1, h2⟩ | ⟨a, v, h1, h2, h3⟩
      · exact .inl ⟨h1, .inl ⟨_, _, .inr ⟨od, h⟩, rfl, h2.symm⟩⟩
      · exact .inr ⟨a, v, h1, .inl ⟨_, _, .inr ⟨od, h⟩, rfl, h2.symm⟩, h3⟩
  · rename_i kvs ec
    obtain ⟨od, vs, h, i⟩ := m.at_ d b _ hb ec
    split at e
    · rename_i xs
      cases ik with
      | tup ht it =>
        cases ek : xs.mapM key? with
        | none => rw [ek] at e; cases e
        | some j =>
          rw [ek] at e; cases e
          rw [keys_ok it ek] at ht
          rcases valA_ok j i with ⟨h1, h2⟩ | ⟨a, v, h1, h2, h3⟩
          · exact .inl ⟨h1, .inr ⟨_, _, _, .inr ⟨od, h⟩, rfl, ht, h2.symm⟩⟩
          · exact .inr ⟨a, v, h1, .inr ⟨_, _, _, .inr ⟨od, h⟩, rfl, ht, h2.symm⟩, h3⟩
    · cases e
  · cases e
theorem dPut_ok {ρ : List Addr} {H : Hp} {M M' : Store} (m : RM w ρ H M) {d : Nat} {b : Addr} {k x : A} {y z : V} (hb : ρ[d]? = some b) (ik : Is ρ H k y) (ix : Is ρ H x z) (e : dPut M d k x = some M') :
    ∃ H', DPut H b y z H' ∧ RM w ρ H' M' ∧ Grow H H' := by
  unfold dPut at e
  split at e
  · rename_i kvs ec
    obtain ⟨vs, h, i⟩ := m.at_ d b _ hb ec
    split at e
    · rename_i hz
      cases ek : key? k with
      | none => rw [ek] at e; cases e
      | some j =>
        rw [ek] at e; cases e
        rw [key_ok ik ek]
        obtain ⟨ws, e1, e2⟩ := put_ok j ix i
        have hl : ((kvs.map (·.1)).zip vs).length < sizeLine := by
          have := i.length
          simp only [List.length_zip, List.length_map] at this ⊢; omega
        have dp := DPut.k (k := j) (v := z) h hl
        rw [e1] at dp
        exact ⟨_, dp, m.set hb ec ⟨ws, upd_same, e2.mono (.refl _) (m.growSet hb ec)⟩, m.growSet hb ec⟩
    · cases e
  · rename_i kvs ec
    obtain ⟨vs, h, i⟩ := m.at_ d b _ hb ec
    split at e
    · rename_i hz
      split at e
      · rename_i xs
        cases ik with
        | tup ht it =>
          cases ek : xs.mapM key? with
          | none => rw [ek] at e; cases e
          | some j =>
            rw [ek] at e; cases e
            rw [keys_ok it ek] at ht
            obtain ⟨ws, e1, e2⟩ := put_ok j ix i
            have hl : ((kvs.map (·.1)).zip vs).length < sizeLine := by
              have := i.length
              simp only [List.length_zip, List.length_map] at this ⊢; omega
            have dp := DPut.t (k := j) (v := z) h ht hl
            rw [e1] at dp
            exact ⟨_, dp, m.set hb ec ⟨ws, upd_same, e2.mono (.refl _) (m.growSet hb ec)⟩, m.growSet hb ec⟩
      · cases e
    · cases e
  · cases e
/-- x in y: a dict's keys; flat items of a list or a tuple; data in a list -/
def oIn : O2 := fun a b M => match b with
  | .dct d => (dGet M d a).map fun o => (.bl o.isSome, M)
  | .tup xs => match flat? a, xs.mapM flat? with
    | some x, some ys => some (.bl (inV x ys), M)
    | _, _ => none
  | .lst l => match listAt M l with
    | some xs => match flat? a, xs.mapM flat? with
      | some x, some ys => some (.bl (inV x ys), M)
      | _, _ => match datS M a, datS M (.lst l) with
        | some d, some (.list ds) => some (.bl (ds.any fun z => PyData.eqv z d), M)
        | _, _ => none
    | none => none
  | _ => none
def notO (o : O2) : O2 := fun a b M => match o a b M with
  | some (.bl c, M) => some (.bl (!c), M)
  | _ => none
def oNotIn : O2 := notO oIn
theorem op_inA (hu : X.A.units + 65 < cLine) : OpR X (compareOp .In) (r2 (X.am Tb) oIn) := by
  intro pins s σ H x y v u Q I rx ry h
  obtain ⟨a, b, M, ρ, ia, ib, m, r⟩ := h
  unfold oIn at r
  split at r
  · rename_i d
    cases ib with
    | dct hb =>
      cases e : dGet M d a with
      | none => rw [e] at r; exact r.elim
      | some o =>
        rw [e] at r
        cases ry
        rcases dGet_ok m hb ia e with ⟨rfl, g⟩ | ⟨c, w, rfl, g, _⟩
        · exact d_in (by omega) I g rx fun s' I' => ⟨.bl _, H, I', rfl, r.val m (.bl _)⟩
        · exact d_in (by omega) I g rx fun s' I' => ⟨.bl _, H, I', rfl, r.val m (.bl _)⟩
  · cases ib with
    | tup hb ibs =>
      split at r
      · rename_i x' ys e1 e2
        obtain ⟨rfl, f1⟩ := flat_ok ia e1
        obtain ⟨rfl, f2⟩ := flats_ok ibs e2
        exact op_in_seq pins s σ H _ _ v u Q I rx ry ⟨_, _, rfl, .inr (.inl (.inl hb)), f1, f2, r.val m (.bl _)⟩
      · exact r.elim
  · rename_i l
    cases ib with
    | lst hb =>
      split at r
      · rename_i xs el
        obtain ⟨vs, hq, is⟩ := m.list hb el
        split at r
        · rename_i x' ys e1 e2
          obtain ⟨rfl, f1⟩ := flat_ok ia e1
          obtain ⟨rfl, f2⟩ := flats_ok is e2
          exact op_in_seq pins s σ H _ _ v u Q I rx ry ⟨_, _, rfl, .inl hq, f1, f2, r.val m (.bl _)⟩
        · split at r
          · rename_i d ds e1 e2
            obtain ⟨h1, s1⟩ := datS_ok m ia e1
            obtain ⟨h2, s2⟩ := datS_ok m (.lst hb) e2
            exact op_inD hu pins s σ H _ _ v u Q I rx ry ⟨d, ds, h1, h2, s1, s2, r.val m (.bl _)⟩
          · exact r.elim
      · exact r.elim
  · exact r.elim
theorem op_notInA (hu : X.A.units + 65 < cLine) : OpR X (compareOp .NotIn) (r2 (X.am Tb) oNotIn) := by
  intro pins s σ H x y v u Q I rx ry h
  obtain ⟨a, b, M, ρ, ia, ib, m, r⟩ := h
  unfold oNotIn notO oIn at r
  cases b with
  | dct d =>
    cases ib with
    | dct hb =>
      simp only at r
      cases e : dGet M d a with
      | none => rw [e] at r; exact r.elim
      | some o =>
        rw [e] at r
        cases ry
        rcases dGet_ok m hb ia e with ⟨rfl, g⟩ | ⟨c, w, rfl, g, _⟩
        · exact d_notIn (by omega) I g rx fun s' I' => ⟨.bl _, H, I', rfl, RO.val (ρ := ρ) (M := M) r m (.bl _)⟩
        · exact d_notIn (by omega) I g rx fun s' I' => ⟨.bl _, H, I', rfl, RO.val (ρ := ρ) (M := M) r m (.bl _)⟩
  | tup xs =>
    cases ib with
    | tup hb ibs =>
      simp only at r
      cases e1 : flat? a with
      | none => rw [e1] at r; exact r.elim
      | some x' =>
        cases e2 : xs.mapM flat? with
        | none => rw [e1, e2] at r; exact r.elim
        | some ys =>
          rw [e1, e2] at r
          obtain ⟨rfl, f1⟩ := flat_ok ia e1
          obtain ⟨rfl, f2⟩ := flats_ok ibs e2
          exact op_notIn_seq pins s σ H _ _ v u Q I rx ry ⟨_, _, rfl, .inr (.inl (.inl hb)), f1, f2, RO.val (ρ := ρ) (M := M) r m (.bl _)⟩
  | lst l =>
    cases ib with
    | lst hb =>
      simp only at r
      cases el : listAt M l with
      | none => rw [el] at r; exact r.elim
      | some xs =>
        rw [el] at r
        obtain ⟨vs, hq, is⟩ := m.list hb el
        simp only at r
        have deep : RO (X.am Tb) ρ H (match (match datS M a, datS M (.lst l) with
            | some d, some (.list ds) => some (A.bl (ds.any fun z => PyData.eqv z d), M)
            | _, _ => none) with
            | some (.bl c, M) => some (A.bl (!c), M)
            | _ => none) Q → wpAny (model X.prog X.w) X.A (compareOp .NotIn v u) (EP X pins σ Q) X.xe s := fun r => by
          cases e3 : datS M a with
          | none => rw [e3] at r; exact r.elim
          | some d =>
            cases e4 : datS M (.lst l) with
            | none => rw [e3, e4] at r; exact r.elim
            | some dl =>
              rw [e3, e4] at r
              cases dl with
              | list ds =>
                obtain ⟨h1, s1⟩ := datS_ok m ia e3
                obtain ⟨h2, s2⟩ := datS_ok m (.lst hb) e4
                exact op_notInD hu pins s σ H _ _ v u Q I rx ry ⟨d, ds, h1, h2, s1, s2, RO.val (ρ := ρ) (M := M) r m (.bl _)⟩
              | _ => exact r.elim
        cases e1 : flat? a with
        | none => rw [e1] at r; exact deep r
        | some x' =>
          cases e2 : xs.mapM flat? with
          | none => rw [e1, e2] at r; exact deep r
          | some ys =>
            rw [e1, e2] at r
            obtain ⟨rfl, f1⟩ := flat_ok ia e1
            obtain ⟨rfl, f2⟩ := flats_ok is e2
            exact op_notIn_seq pins s σ H _ _ v u Q I rx ry ⟨_, _, rfl, .inl hq, f1, f2, RO.val (ρ := ρ) (M := M) r m (.bl _)⟩
  | _ => exact r.elim
end
end AB
/-! AB3: tests, statements, loops, comprehensions, calls -/
namespace AB
open PySem PySem.Spec PyProof.Rows L2
/-! ### comparisons, tests, and | or | not -/
section
variable {X : Cx} {W : WR} {pos : Pos} {a b c : Expr} {f g h : EF} {rest : List Expr}
theorem ae_cmp {op : CmpOp} {o : O2} (ho : OpR X (compareOp op) (r2 (X.am W.Tb) o)) (ha : AE X W a f) (hb : AE X W b g) (hm : behindInMarks op b = false := by with_unfolding_all rfl) : AE X W (.Compare a [op] [b] pos) (eOp o f g) :=
  (pe_cmpR ho ha hb hm).pre fun _ _ _ h => op_tK h
/-- a bool's value as a test -/
def eB (f : EF) : EFb := fun τ M => (f τ M).bind fun a M1 => match a with
  | .bl k => .ok k M1
  | _ => .bad
theorem bool_tK {f : EF} {σ : L2.St} {H : Hp} {Q : Bool → Hp → Prop} {G : Gx} (h : tG G W relB (eB f) σ H Q) : tG G W Is f σ H fun x H' => ∃ k, x = .bl k ∧ Q k H' := by
  refine (seqG Is h).imp fun x H1 h1 => ?_
  obtain ⟨τ, M, ρ, a, rs, rm, i, r⟩ := h1
  cases a with
  | bl k => cases i; exact ⟨k, rfl, r.okv (.refl _) (.refl _) rm rfl⟩
  | _ => exact r.elim
theorem at_cmp {op : CmpOp} {o : O2} (ho : OpR X (compareOp op) (r2 (X.am W.Tb) o)) (ha : AE X W a f) (hb : AE X W b g) (hm : behindInMarks op b = false := by with_unfolding_all rfl) : AT X W (.Compare a [op] [b] pos) (eB (eOp o f g)) :=
  (pt_cmpR ho ha hb hm).pre fun σ H Q h => by
    have h' := bool_tK h
    exact op_tK h'
def chainK (o' : O2) (h : EF) (τ : Sl) (b k : A) (M3 : Store) : EO A := match k with
  | .bl true => (h τ M3).bind fun c M4 => toE (o' b c M4)
  | .bl false => .ok (.bl false) M3
  | _ => .bad
def eChain (o o' : O2) (f g h : EF) : EF := fun τ M => (f τ M).bind fun a M1 => (g τ M1).bind fun b M2 => (toE (o a b M2)).bind (chainK o' h τ b)
theorem chain_tK {o o' : O2} {σ : L2.St} {H : Hp} {Q : VK} {G : Gx} (h' : tG G W Is (eChain o o' f g h) σ H Q) :
    tG G W Is f σ H fun x H1 => tG G W Is g σ H1 fun y H2 => r2 G.w o x y H2 fun z H3 => ∃ k, z = .bl k ∧ (if k = true then tG G W Is h σ H3 fun w' H4 => r2 G.w o' y w' H4 Q else Q (.bl false) H3) := by
  refine (seqG Is h').imp fun x H1 h1 => ?_
  refine (seqK Is Is.ext Is h1).imp fun y H2 h2 => ?_
  obtain ⟨τ, M, ρ, a, b, rs, rm, i, j, r⟩ := h2
  refine ⟨a, b, M, ρ, i, j, rm, ?_⟩
  cases e : o a b M with
  | none => rw [e] at r; exact r
  | some p =>
    obtain ⟨k, M3⟩ := p
    rw [e] at r
    refine fun z H3 ρ3 x3 g3 m3 i3 => ?_
    have r : RE G W σ ρ H2 Is (chainK o' h τ b k M3) Q := r
    cases k with
    | bl k =>
      cases i3
      refine ⟨k, rfl, ?_⟩
      cases k with
      | true =>
        rw [if_pos rfl]
        have r3 := r.mono x3 g3
        refine ⟨τ, M3, ρ3, rs.mono x3 g3, m3, ?_⟩
        have r3 : RE G W σ ρ3 H3 Is ((h τ M3).bind fun c M4 => toE (o' b c M4)) Q := r3
        cases e4 : h τ M3 with
        | ok c M4 =>
          rw [e4] at r3
          exact fun w' H4 ρ4 x4 g4 m4 i4 => ⟨b, c, M4, ρ4, (j.mono x3 g3).mono x4 g4, i4, m4, RO.of (RE.mono r3 x4 g4)⟩
        | ex en M4 => rw [e4] at r3; exact r3
        | bad => rw [e4] at r3; exact r3
      | false =>
        rw [if_neg Bool.false_ne_true]
        exact r.okv x3 g3 m3 (.bl false)
    | _ => exact r.elim
theorem ae_chain {op op' : CmpOp} {o o' : O2} (ho : OpR X (compareOp op) (r2 (X.am W.Tb) o)) (ho' : OpR X (compareOp op') (r2 (X.am W.Tb) o')) (ha : AE X W a f) (hb : AE X W b g) (hc : AE X W c h)
    (hm : lastMarks [op, op'] [b, c] = false := by with_unfolding_all rfl) : AE X W (.Compare a [op, op'] [b, c] pos) (eChain o o' f g h) := (pe_chain ho ho' ha hb hc hm).pre fun _ _ _ h => chain_tK h
theorem at_chain {op op' : CmpOp} {o o' : O2} (ho : OpR X (compareOp op) (r2 (X.am W.Tb) o)) (ho' : OpR X (compareOp op') (r2 (X.am W.Tb) o')) (ha : AE X W a f) (hb : AE X W b g) (hc : AE X W c h)
    (hm : lastMarks [op, op'] [b, c] = false := by with_unfolding_all rfl) : AT X W (.Compare a [op, op'] [b, c] pos) (eB (eChain o o' f g h)) := (pt_chain ho ho' ha hb hc hm).pre fun _ _ _ h => chain_tK (bool_tK h)
/-- truth -/
def truA (M : Store) : A → Option Bool
  | .non => some false
  | .bl b => some b
  | .int i => some (i != 0)
  | .str x => if x.length ≤ sizeLine then some ((x.length : Int) != 0) else none
  | .tup xs => some (!xs.isEmpty)
  | .lst l => (listAt M l).map fun xs => !xs.isEmpty
  | .dct d => match M[d]? with
    | some (.dK kvs) => some (!kvs.isEmpty)
    | _ => none
  | .ty _ => none
  | .obj _ => none
  | .rng _ _ => none
  | .ftp _ => none
theorem isEmpty_all {ρ : List Addr} {H : Hp} {ts : List A} {vs : List V} (r : IsAll ρ H ts vs) : vs.isEmpty = ts.isEmpty := by cases r <;> rfl
theorem truA_ok {ρ : List Addr} {H : Hp} {M : Store} (m : RM w ρ H M) {a : A} {v : V} {k : Bool} (i : Is ρ H a v) (e : truA M a = some k) : TruV w.K v H k := by
  cases i with
  | non => cases e; rfl
  | bl b => cases e; rfl
  | int i => cases e; rfl
  | str x =>
    simp only [truA] at e
    split at e
    · rename_i hz; cases e; exact ⟨hz, rfl⟩
    · cases e
  | tup h r => cases e; exact .inr (.inl ⟨_, .inl (.inl h), by rw [isEmpty_all r]⟩)
  | lst h =>
    simp only [truA] at e
    cases e1 : listAt M _ with
    | none => rw [e1] at e; cases e
    | some xs =>
      rw [e1] at e; cases e
      obtain ⟨vs, q, r⟩ := m.list h e1
      exact .inl ⟨vs, q, by rw [isEmpty_all r]⟩
  | dct h =>
    simp only [truA] at e
    split at e
    · rename_i kvs e1
      cases e
      obtain ⟨vs, q, r⟩ := m.at_ _ _ _ h e1
      refine .inr (.inr ⟨_, q, ?_⟩)
      cases kvs with
      | nil => cases r; rfl
      | cons p kvs => cases r; rfl
    · cases e
  | ty n => simp only [truA] at e; cases e
  | obj h => simp only [truA] at e; cases e
  | rng h => simp only [truA] at e; cases e
  | ftp _ _ _ _ => simp only [truA] at e; cases e
def eT (f : EF) : EFb := fun τ M => (f τ M).bind fun a M1 => match truA M1 a with
  | some k => .ok k M1
  | none => .bad
theorem at_val (ha : AE X W a f) (he : ∀ whole, isTrue a X.env whole = (do let v ← whole; standAt a.pos; holding [v] (truthy v)) := by intro _; rfl) : AT X W a (eT f) :=
  (pt_truth ha he).pre fun σ H Q h => by
    refine (seqG Is h).imp fun x H1 h1 => ?_
    obtain ⟨τ, M, ρ, a, rs, rm, i, r⟩ := h1
    dsimp only at r
    cases e : truA M a with
    | none => rw [e] at r; exact r.elim
    | some k => rw [e] at r; exact ⟨k, truA_ok rm i e, r.okv (.refl _) (.refl _) rm rfl⟩
def bAnd (f g : EFb) : EFb := fun τ M => (f τ M).bind fun k M1 => if k = true then g τ M1 else .ok false M1
def bOr (f g : EFb) : EFb := fun τ M => (f τ M).bind fun k M1 => if k = true then .ok true M1 else g τ M1
def bNot (f : EFb) : EFb := fun τ M => (f τ M).bind fun k M1 => .ok (!k) M1
variable {fb gb : EFb}
def AW (X : Cx) (W : WR) (e : Expr) (f : EFb) : Prop := PW X e (tG (X.gx W.Tb) W relB f)
theorem _root_.L2.PW.pre {X : Cx} {e : Expr} {t t' : TT} (h : PW X e t) (w : ∀ σ H Q, t' σ H Q → t σ H Q) : PW X e t' := ⟨fun wh pins s σ H Q I q => h.run wh pins s σ H Q I (w σ H Q q)⟩
theorem AW.at (h : AW X W a fb) : AT X W a fb := PW.pt h
theorem aw_and1 (ha : AT X W a fb) : AW X W (.BoolOp .And [a] pos) fb := pw_and1 ha
theorem aw_or1 (ha : AT X W a fb) : AW X W (.BoolOp .Or [a] pos) fb := pw_or1 ha
theorem and_tK {σ : L2.St} {H : Hp} {Q : Bool → Hp → Prop} {G : Gx} (h : tG G W relB (bAnd fb gb) σ H Q) : tG G W relB fb σ H fun c H1 => if c = true then tG G W relB gb σ H1 Q else Q false H1 := by
  refine (seqG relB h).imp fun x H1 h1 => ?_
  obtain ⟨τ, M, ρ, k, rs, rm, i, r⟩ := h1
  have i : k = x := i
  subst i
  have r : RE G W σ ρ H1 relB (if k = true then gb τ M else .ok false M) Q := r
  cases k with
  | true => exact ⟨τ, M, ρ, rs, rm, r⟩
  | false => exact r.okv (.refl _) (.refl _) rm rfl
theorem or_tK {σ : L2.St} {H : Hp} {Q : Bool → Hp → Prop} {G : Gx} (h : tG G W relB (bOr fb gb) σ H Q) : tG G W relB fb σ H fun c H1 => if c = true then Q true H1 else tG G W relB gb σ H1 Q := by
  refine (seqG relB h).imp fun x H1 h1 => ?_
  obtain ⟨τ, M, ρ, k, rs, rm, i, r⟩ := h1
  have i : k = x := i
  subst i
  have r : RE G W σ ρ H1 relB (if k = true then .ok true M else gb τ M) Q := r
  cases k with
  | true => exact r.okv (.refl _) (.refl _) rm rfl
  | false => exact ⟨τ, M, ρ, rs, rm, r⟩
theorem aw_and (ha : AT X W a fb) (hb : AW X W (.BoolOp .And (b :: rest) pos) gb) : AW X W (.BoolOp .And (a :: b :: rest) pos) (bAnd fb gb) := (pw_and ha hb).pre fun _ _ _ h => and_tK h
theorem aw_or (ha : AT X W a fb) (hb : AW X W (.BoolOp .Or (b :: rest) pos) gb) : AW X W (.BoolOp .Or (a :: b :: rest) pos) (bOr fb gb) := (pw_or ha hb).pre fun _ _ _ h => or_tK h
theorem at_not (ha : AT X W a fb) : AT X W (.UnaryOp .Not a pos) (bNot fb) := (pt_not ha).pre fun σ H Q h => by
  refine (seqG relB h).imp fun x H1 h1 => ?_
  obtain ⟨τ, M, ρ, k, rs, rm, i, r⟩ := h1
  have i : k = x := i
  subst i
  exact r.okv (.refl _) (.refl _) rm rfl
/-- .. as values; bools alone ahead -/
def eAnd (f g : EF) : EF := fun τ M => (f τ M).bind fun a M1 => match a with
  | .bl true => g τ M1
  | .bl false => .ok (.bl false) M1
  | _ => .bad
def eOr (f g : EF) : EF := fun τ M => (f τ M).bind fun a M1 => match a with
  | .bl true => .ok (.bl true) M1
  | .bl false => g τ M1
  | _ => .bad
def eNot (f : EF) : EF := fun τ M => (f τ M).bind fun a M1 => match a with
  | .bl k => .ok (.bl (!k)) M1
  | _ => .bad
theorem ae_one {op} (h : AE X W a f) : AE X W (.BoolOp op [a] pos) f := pe_one h
theorem ae_and (ha : AE X W a f) (hb : AE X W (.BoolOp .And (b :: rest) pos) g) : AE X W (.BoolOp .And (a :: b :: rest) pos) (eAnd f g) := (pe_and ha hb).pre fun σ H Q h => by
  refine (seqG Is h).imp fun x H1 h1 => ?_
  obtain ⟨τ, M, ρ, a, rs, rm, i, r⟩ := h1
  cases a with
  | bl k =>
    cases i
    cases k with
    | true => exact ⟨true, rfl, ⟨τ, M, ρ, rs, rm, r⟩⟩
    | false => exact ⟨false, rfl, r.okv (.refl _) (.refl _) rm (.bl false)⟩
  | _ => exact r.elim
theorem ae_or (ha : AE X W a f) (hb : AE X W (.BoolOp .Or (b :: rest) pos) g) : AE X W (.BoolOp .Or (a :: b :: rest) pos) (eOr f g) := (pe_or ha hb).pre fun σ H Q h => by
  refine (seqG Is h).imp fun x H1 h1 => ?_
  obtain ⟨τ, M, ρ, a, rs, rm, i, r⟩ := h1
  cases a with
  | bl k =>
    cases i
    cases k with
    | true => exact ⟨true, rfl, r.okv (.refl _) (.refl _) rm (.bl true)⟩
    | false => exact ⟨false, rfl, ⟨τ, M, ρ, rs, rm, r⟩⟩
  | _ => exact r.elim
theorem ae_not (ha : AE X W a f) : AE X W (.UnaryOp .Not a pos) (eNot f) := (pe_not ha).pre fun σ H Q h => by
  refine (seqG Is h).imp fun x H1 h1 => ?_
  obtain ⟨τ, M, ρ, a, rs, rm, i, r⟩ := h1
  cases a with
  | bl k => cases i; exact ⟨k, rfl, r.okv (.refl _) (.refl _) rm (.bl _)⟩
  | _ => exact r.elim
def eIf (t : EFb) (f g : EF) : EF := fun τ M => (t τ M).bind fun k M1 => if k = true then f τ M1 else g τ M1
theorem ae_if (hc : AT X W c fb) (ha : AE X W a f) (hb : AE X W b g) : AE X W (.IfExp c a b pos) (eIf fb f g) := (pe_ifExp hc ha hb).pre fun σ H Q h => by
  refine (seqG relB h).imp fun x H1 h1 => ?_
  obtain ⟨τ, M, ρ, k, rs, rm, i, r⟩ := h1
  have i : k = x := i
  subst i
  have r : RE (X.gx W.Tb) W σ ρ H1 Is (if k = true then f τ M else g τ M) Q := r
  cases k with
  | true => exact ⟨τ, M, ρ, rs, rm, r⟩
  | false => exact ⟨τ, M, ρ, rs, rm, r⟩
/-! ### displays -/
def eTup (f : EFs) : EF := fun τ M => (f τ M).bind fun as M1 => if as.length ≤ sizeLine then .ok (.tup as) M1 else .bad
def eLst (f : EFs) : EF := fun τ M => (f τ M).bind fun as M1 => if as.length ≤ sizeLine then .ok (.lst M1.length) (M1 ++ [.lst as]) else .bad
variable {es : List Expr} {fs : EFs}
theorem ae_tup {x1} (h : AA X W es fs) : AE X W (.Tuple es x1 pos) (eTup fs) := (pe_tup h).pre fun σ H Q h => by
  refine (seqG IsAll h).imp fun x H1 h1 => ?_
  obtain ⟨τ, M, ρ, as, rs, rm, i, r⟩ := h1
  have r : RE (X.gx W.Tb) W σ ρ H1 Is (if as.length ≤ sizeLine then .ok (.tup as) M else .bad) Q := r
  split at r
  · rename_i hz
    refine ⟨by rw [← i.length]; exact hz, fun p hp => ?_⟩
    exact r.okv (.refl _) (.new hp) (rm.new hp) (.tup upd_same (i.mono (.refl _) (.new hp)))
  · exact r.elim
theorem ae_lst (h : AA X W es fs) : AE X W (.List es pos) (eLst fs) := (pe_lst h).pre fun σ H Q h => by
  refine (seqG IsAll h).imp fun x H1 h1 => ?_
  obtain ⟨τ, M, ρ, as, rs, rm, i, r⟩ := h1
  have r : RE (X.gx W.Tb) W σ ρ H1 Is (if as.length ≤ sizeLine then .ok (.lst M.length) (M ++ [.lst as]) else .bad) Q := r
  split at r
  · rename_i hz
    refine ⟨by rw [← i.length]; exact hz, fun p hp => ?_⟩
    exact r.okv (.snoc _ p) (.new hp) (rm.push hp ⟨x, upd_same, i.mono (.snoc _ _) (.new hp)⟩) (.lst (by rw [← rm.len]; simp))
  · exact r.elim
def eNewK : EF := fun _ M => .ok (.dct M.length) (M ++ [.dK []])
def eNewT : EF := fun _ M => .ok (.dct M.length) (M ++ [.dT []])
theorem ae_newK : AE X W (.Dict [] [] pos) eNewK := pe_dnewK.pre fun σ H Q h => by
  obtain ⟨τ, M, ρ, rs, rm, r⟩ := h
  exact fun p hp => r.okv (.snoc _ p) (.new hp) (rm.push hp ⟨[], upd_same, .nil⟩) (.dct (by rw [← rm.len]; simp))
theorem ae_newT : AE X W (.Dict [] [] pos) eNewT := pe_dnewT.pre fun σ H Q h => by
  obtain ⟨τ, M, ρ, rs, rm, r⟩ := h
  exact fun p hp => r.okv (.snoc _ p) (.new hp) (rm.push hp ⟨[], upd_same, .nil⟩) (.dct (by rw [← rm.len]; simp))
end
/-! ### items, slices -/
section
variable {X : Cx} {W : WR} {pos : Pos} {a b : Expr} {f g : EF}
def oIx : O2 := fun x i M => match x, i with
  | .tup xs, .int i => (atI xs i).map (·, M)
  | .lst l, .int i => (listAt M l).bind fun xs => (atI xs i).map (·, M)
  | _, _ => none
theorem IsAll.atI {ρ : List Addr} {H : Hp} {ts : List A} {vs : List V} (r : IsAll ρ H ts vs) {i : Int} {a : A} (e : L2.atI ts i = some a) : ∃ v, L2.atI vs i = some v ∧ Is ρ H a v := by
  unfold L2.atI at e ⊢
  rw [← r.length]
  cases e1 : ixN ts.length i with
  | none => rw [e1] at e; cases e
  | some j =>
    rw [e1] at e
    obtain ⟨v, h1, h2⟩ := r.get e
    exact ⟨v, h1, h2⟩
theorem ix_A : IxR X (r2 (X.am W.Tb) oIx) := by
  intro value slice pins s σ H x y v u Q I rx ry h hs
  obtain ⟨a, b, M, ρ, ia, ib, m, r⟩ := h
  unfold oIx at r
  split at r
  · rename_i xs i
    cases ib
    cases ia with
    | tup ha qa =>
      cases e : atI xs i with
      | none => rw [e] at r; exact r.elim
      | some t =>
        rw [e] at r
        obtain ⟨w, h1, h2⟩ := qa.atI e
        exact ix_tup value slice pins s σ H _ _ v u Q I rx ry ⟨_, _, _, _, rfl, rfl, .inl (.inl ha), h1, RO.val (ρ := ρ) (M := M) r m h2⟩ hs
  · rename_i l i
    cases ib
    cases ia with
    | lst ha =>
      cases e1 : listAt M l with
      | none => rw [e1] at r; exact r.elim
      | some xs =>
        rw [e1] at r
        obtain ⟨vs, hq, is⟩ := m.list ha e1
        rw [Option.bind_some] at r
        cases e : atI xs i with
        | none => rw [e] at r; exact r.elim
        | some t =>
          rw [e] at r
          obtain ⟨w, h1, h2⟩ := is.atI e
          exact ix_list value slice pins s σ H _ _ v u Q I rx ry ⟨_, _, _, _, rfl, rfl, hq, h1, RO.val (ρ := ρ) (M := M) r m h2⟩ hs
  · exact r.elim
theorem ae_ix (ha : AE X W a f) (hb : AE X W b g) (hs : PlainIx b := by intro _ _; rfl) : AE X W (.Subscript a b pos) (eOp oIx f g) := (pe_ix ix_A ha hb hs).pre fun _ _ _ h => op_tK h
def oDget : O2 := fun x k M => match x with
  | .dct d => match dGet M d k with
    | some (some a) => some (a, M)
    | _ => none
  | _ => none
theorem ae_dget (hu : X.A.units + 1 < cLine) (ha : AE X W a f) (hb : AE X W b g) (hs : NoSl b := by intro _ _; rfl) : AE X W (.Subscript a b pos) (eOp oDget f g) := (pe_dget hu ha hb hs).pre fun σ H Q h => by
  refine (op_tK h).imp fun x H1 h1 => h1.imp fun y H2 h2 => ?_
  obtain ⟨a, b, M, ρ, ia, ib, m, r⟩ := h2
  unfold oDget at r
  split at r
  · rename_i d
    cases ia with
    | dct hd =>
      split at r
      · rename_i c e
        rcases dGet_ok m hd ib e with ⟨z, _⟩ | ⟨c', v, ec, gg, iv⟩
        · cases z
        · cases ec
          exact ⟨_, _, rfl, gg, r.val m iv⟩
      · exact r.elim
  · exact r.elim
/-- a part of a slice -/
def ePart (f : EF) : Sl → Store → EO (Option Int) := fun τ M => (f τ M).bind fun a M1 => match a with
  | .int i => .ok (some i) M1
  | _ => .bad
def eNoPart : Sl → Store → EO (Option Int) := fun _ M => .ok none M
abbrev relP : Rel (Option Int) (Option Int) := fun _ _ a b => a = b
def AP (X : Cx) (W : WR) (e : Option Expr) (f : Sl → Store → EO (Option Int)) : Prop := PO X e (fun σ H Q => tG (X.gx W.Tb) W relP f σ H Q)
theorem ap_none : AP X W none eNoPart := ⟨fun pins s σ H Q I h => by
  obtain ⟨τ, M, ρ, rs, rm, r⟩ := h
  exact po_none.run pins s σ H Q I (r.okv (.refl _) (.refl _) rm rfl)⟩
theorem ap_some (h : AE X W a f) : AP X W (some a) (ePart f) := ⟨fun pins s σ H Q I h' => (po_some h).run pins s σ H Q I (by
  refine (seqG Is h').imp fun x H1 h1 => ?_
  obtain ⟨τ, M, ρ, a, rs, rm, i, r⟩ := h1
  cases a with
  | int k => cases i; exact ⟨k, rfl, r.okv (.refl _) (.refl _) rm rfl⟩
  | _ => exact r.elim)⟩
theorem IsAll.cut {ρ : List Addr} {H : Hp} {ts : List A} {vs : List V} (r : IsAll ρ H ts vs) (lo hi : Option Int) : IsAll ρ H ((ts.drop (HT.sIx ts.length 0 lo)).take (HT.sIx ts.length ts.length hi - HT.sIx ts.length 0 lo)) (cutV vs lo hi) := by
  unfold cutV
  rw [← r.length]
  exact (r.drop _).take _
def cutA (xs : List A) (lo hi : Option Int) : List A := (xs.drop (HT.sIx xs.length 0 lo)).take (HT.sIx xs.length xs.length hi - HT.sIx xs.length 0 lo)
def oSl (x : A) (lo hi : Option Int) (M : Store) : Option (A × Store) := match x with
  | .tup xs => some (.tup (cutA xs lo hi), M)
  | .lst l => (listAt M l).map fun xs => (.lst M.length, M ++ [.lst (cutA xs lo hi)])
  | .str z => if z.length ≤ sizeLine then some (.str (cutS z lo hi), M) else none
  | _ => none
def eSl (f : EF) (p q : Sl → Store → EO (Option Int)) : EF := fun τ M => (f τ M).bind fun a M1 => (p τ M1).bind fun lo M2 => (q τ M2).bind fun hi M3 => toE (oSl a lo hi M3)
def rSl (w : Amb) (x : V) (lo hi : Option Int) (H : Hp) (Q : VK) : Prop := ∃ a M ρ, Is ρ H a x ∧ RM w ρ H M ∧ RO w ρ H (oSl a lo hi M) Q
theorem cutA_all {xs : List A} {lo hi : Option Int} (h : HT.sIx xs.length 0 lo = 0 ∧ HT.sIx xs.length xs.length hi = xs.length) : cutA xs lo hi = xs := by
  unfold cutA
  rw [h.1, h.2]
  simp
theorem sl_A : SlR X (rSl (X.am W.Tb)) := by
  intro pins s σ H x v vl vu lo hi sl Q I rx hs pl pu h
  obtain ⟨a, M, ρ, ia, m, r⟩ := h
  unfold oSl at r
  cases a with
  | tup xs =>
    cases ia with
    | tup ha qa =>
      refine sl_tupA pins s σ H _ v vl vu lo hi sl Q I rx hs pl pu ⟨_, _, rfl, .inl (.inl ha), fun hw => ?_, fun hw p hp => ?_⟩
      · rw [← qa.length] at hw
        have r : RO (X.am W.Tb) ρ H (some (.tup (cutA xs lo hi), M)) Q := r
        rw [cutA_all hw] at r
        exact r.val m (.tup ha qa)
      · exact RO.newT (M := M) r m (qa.cut lo hi) hp
  | lst l =>
    cases ia with
    | lst ha =>
      simp only at r
      cases e1 : listAt M l with
      | none => rw [e1] at r; exact r.elim
      | some xs =>
        rw [e1] at r
        obtain ⟨vs, hq, is⟩ := m.list ha e1
        exact sl_list pins s σ H _ v vl vu lo hi sl Q I rx hs pl pu ⟨_, _, rfl, hq, fun p hp => RO.newL (M := M) r m (is.cut lo hi) hp⟩
  | str z =>
    cases ia
    simp only at r
    split at r
    · rename_i hz
      exact sl_str pins s σ H _ v vl vu lo hi sl Q I rx hs pl pu ⟨z, rfl, hz, r.val m (.str _)⟩
    · exact r.elim
  | _ => exact r.elim
theorem ae_sl {p2 : Pos} {lo hi : Option Expr} {p q : Sl → Store → EO (Option Int)} (ha : AE X W a f) (hl : AP X W lo p) (hh : AP X W hi q) : AE X W (.Subscript a (.Slice lo hi none p2) pos) (eSl f p q) := (pe_slice sl_A ha hl hh).pre fun σ H Q h => by
  refine (seqG Is h).imp fun x H1 h1 => ?_
  refine (seqK Is Is.ext relP h1).imp fun y H2 h2 => ?_
  obtain ⟨τ, M, ρ, a, lo', rs, rm, i, j, r⟩ := h2
  subst j
  refine ⟨τ, M, ρ, rs, rm, ?_⟩
  cases e : q τ M with
  | ok hi' M3 =>
    rw [e] at r
    exact fun u H3 ρ3 x3 g3 m3 i3 => by
      have i3 : hi' = u := i3
      subst i3
      exact ⟨a, M3, ρ3, i.mono x3 g3, m3, RO.of (RE.mono (o := toE (oSl a lo' hi' M3)) r x3 g3)⟩
  | ex en M3 => rw [e] at r; exact r
  | bad => rw [e] at r; exact r
end
end AB
/-! AB4: statements, loops, comprehensions, calls -/
namespace AB
open PySem PySem.Spec PyProof.Rows L2
inductive SO where
  | nx (τ : Sl) (M : Store) | rt (a : A) (M : Store) | bk (τ : Sl) (M : Store) | ct (τ : Sl) (M : Store) | ex (e : Exn) (τ : Sl) (M : Store) | bad
abbrev SF := Sl → Store → SO
def EO.bindS {α : Type} (x : EO α) (τ : Sl) (k : α → Store → SO) : SO := match x with
  | .ok a M => k a M
  | .ex e M => .ex e τ M
  | .bad => .bad
def RSO (G : Gx) (W : WR) (D : Ends) (ρ : List Addr) (H : Hp) : SO → Prop
  | .nx τ M => ∀ σ' H' ρ', Ext ρ ρ' → Grow H H' → RM G.w ρ' H' M → RS W ρ' H' τ σ' → D.nx σ' H'
  | .rt a M => ∀ v H' ρ', Ext ρ ρ' → Grow H H' → RM G.w ρ' H' M → Is ρ' H' a v → D.rt v H'
  | .bk τ M => ∀ σ' H' ρ', Ext ρ ρ' → Grow H H' → RM G.w ρ' H' M → RS W ρ' H' τ σ' → D.bk σ' H'
  | .ct τ M => ∀ σ' H' ρ', Ext ρ ρ' → Grow H H' → RM G.w ρ' H' M → RS W ρ' H' τ σ' → D.ct σ' H'
  | .ex e τ M => ∀ cls d σ' H' ρ', Ext ρ ρ' → Grow H H' → RM G.w ρ' H' M → RS W ρ' H' τ σ' → RX G.mg ρ' H' e cls d → W cls d σ' H'
  | .bad => False
section
variable {G : Gx} {W : WR} {D D' : Ends} {ρ ρ' : List Addr} {H H' : Hp} {o : SO}
theorem RSO.mono (r : RSO G W D ρ H o) (x : Ext ρ ρ') (g : Grow H H') : RSO G W D ρ' H' o := by
  cases o with
  | nx τ M => exact fun s h p x2 g2 => r s h p (x.trans x2) (g.trans g2)
  | rt a M => exact fun s h p x2 g2 => r s h p (x.trans x2) (g.trans g2)
  | bk τ M => exact fun s h p x2 g2 => r s h p (x.trans x2) (g.trans g2)
  | ct τ M => exact fun s h p x2 g2 => r s h p (x.trans x2) (g.trans g2)
  | ex e τ M => exact fun c d s h p x2 g2 => r c d s h p (x.trans x2) (g.trans g2)
  | bad => exact r
end
def tS (G : Gx) (W : WR) (f : SF) : TS := fun D σ H => ∃ τ M ρ, RS W ρ H τ σ ∧ RM G.w ρ H M ∧ RSO G W D ρ H (f τ M)
def AS (X : Cx) (W : WR) (st : Stmt) (f : SF) : Prop := PS X st (tS (X.gx W.Tb) W f)
def ASs (X : Cx) (W : WR) (st : List Stmt) (f : SF) : Prop := PSs X st (tS (X.gx W.Tb) W f)
/-- from an expression's reading -/
theorem bindS_tK {α β : Type} {G : Gx} {W : WR} {D : Ends} {σ : L2.St} {H : Hp} (rel : Rel α β) {f : Sl → Store → EO α} {k : Sl → α → Store → SO} (h : tS G W (fun τ M => (f τ M).bindS τ (k τ)) D σ H) :
    tG G W rel f σ H (fun b H1 => ∃ τ M ρ a, RS W ρ H1 τ σ ∧ RM G.w ρ H1 M ∧ rel ρ H1 a b ∧ RSO G W D ρ H1 (k τ a M)) := by
  obtain ⟨τ, M, ρ, rs, rm, r⟩ := h
  refine ⟨τ, M, ρ, rs, rm, ?_⟩
  dsimp only at r
  cases e : f τ M with
  | ok a M1 => rw [e] at r; exact fun b H1 ρ1 x g m i => ⟨τ, M1, ρ1, a, rs.mono x g, m, i, RSO.mono r x g⟩
  | ex en M1 => rw [e] at r; exact fun c d H1 ρ1 x g m i => r c d σ H1 ρ1 x g m (rs.mono x g) i
  | bad => rw [e] at r; exact r
section
variable {X : Cx} {W : WR} {pos : Pos} {st : Stmt} {rest : List Stmt} {e : Expr} {f : EF} {s t : SF}
def sNil : SF := fun τ M => .nx τ M
def sSeq (s t : SF) : SF := fun τ M => match s τ M with
  | .nx τ1 M1 => t τ1 M1
  | o => o
theorem ass_nil : ASs X W [] sNil := pss_nil.pre fun D σ H h => by
  obtain ⟨τ, M, ρ, rs, rm, r⟩ := h
  exact r _ _ ρ (.refl _) (.refl _) rm rs
theorem ass_cons (h1 : AS X W st s) (h2 : ASs X W rest t) : ASs X W (st :: rest) (sSeq s t) := (pss_cons h1 h2).pre fun D σ H h => by
  obtain ⟨τ, M, ρ, rs, rm, r⟩ := h
  refine ⟨τ, M, ρ, rs, rm, ?_⟩
  unfold sSeq at r
  cases e : s τ M with
  | nx τ1 M1 => rw [e] at r; exact fun σ1 H1 ρ1 x g m i => ⟨τ1, M1, ρ1, i, m, RSO.mono r x g⟩
  | rt a M1 => rw [e] at r; exact r
  | bk a M1 => rw [e] at r; exact r
  | ct a M1 => rw [e] at r; exact r
  | ex e a M1 => rw [e] at r; exact r
  | bad => rw [e] at r; exact r
def sExpr (f : EF) : SF := fun τ M => (f τ M).bindS τ fun _ M1 => .nx τ M1
theorem as_expr (he : AE X W e f) (hs : swapsWith e none pos.line X.env = pure false := by rfl) : AS X W (.Expr e pos) (sExpr f) := (ps_expr he hs).pre fun D σ H h => (bindS_tK Is h).imp fun b H1 h1 => by
  obtain ⟨τ, M, ρ, a, rs, rm, i, r⟩ := h1
  exact r _ _ ρ (.refl _) (.refl _) rm rs
def sRet (f : EF) : SF := fun τ M => (f τ M).bindS τ fun a M1 => .rt a M1
theorem as_ret (he : AE X W e f) : AS X W (.Return (some e) pos) (sRet f) := (ps_ret he).pre fun D σ H h => (bindS_tK Is h).imp fun b H1 h1 => by
  obtain ⟨τ, M, ρ, a, rs, rm, i, r⟩ := h1
  exact r _ _ ρ (.refl _) (.refl _) rm i
def sRetN : SF := fun _ M => .rt .non M
theorem as_retN : AS X W (.Return none pos) sRetN := ps_retN.pre fun D σ H h => by
  obtain ⟨τ, M, ρ, rs, rm, r⟩ := h
  exact r _ _ ρ (.refl _) (.refl _) rm .non
def sIf (c : EFb) (s t : SF) : SF := fun τ M => (c τ M).bindS τ fun k M1 => if k = true then s τ M1 else t τ M1
theorem as_if {c : Expr} {fc : EFb} {a b : List Stmt} (hc : AT X W c fc) (ha : ASs X W a s) (hb : ASs X W b t) : AS X W (.If c a b pos) (sIf fc s t) := (ps_if hc ha hb).pre fun D σ H h => (bindS_tK relB h).imp fun b H1 h1 => by
  obtain ⟨τ, M, ρ, k, rs, rm, i, r⟩ := h1
  have i : k = b := i
  subst i
  have r : RSO (X.gx W.Tb) W D ρ H1 (if k = true then s τ M else t τ M) := r
  cases k with
  | true => exact ⟨τ, M, ρ, rs, rm, r⟩
  | false => exact ⟨τ, M, ρ, rs, rm, r⟩
/-- code that the proof never comes to -/
def sBad : SF := fun _ _ => .bad
theorem as_never : AS X W st sBad := ps_never.pre fun D σ H h => by
  obtain ⟨τ, M, ρ, rs, rm, r⟩ := h
  exact r
theorem ass_never {sts : List Stmt} : ASs X W sts sBad := pss_never.pre fun D σ H h => by
  obtain ⟨τ, M, ρ, rs, rm, r⟩ := h
  exact r
/-! ### targets -/
/-- a target of names: one, or a tuple of targets -/
inductive Tgt where
  | nm (i : Nat) | tp (ts : List Tgt)
mutual
def Tgt.set : Tgt → A → Sl → Option Sl
  | .nm i, a, τ => some (τ.set i (some a))
  | .tp ts, .tup as, τ => Tgt.sets ts as τ
  | .tp _, _, _ => none
def Tgt.sets : List Tgt → List A → Sl → Option Sl
  | [], [], τ => some τ
  | t :: ts, a :: as, τ => (Tgt.set t a τ).bind fun τ1 => Tgt.sets ts as τ1
  | [], _ :: _, _ => none
  | _ :: _, [], _ => none
def Tgt.own : Tgt → List Nat
  | .nm i => [i]
  | .tp ts => Tgt.owns ts
def Tgt.owns : List Tgt → List Nat
  | [] => []
  | t :: ts => Tgt.own t ++ Tgt.owns ts
end
/-- the slots other than these are the same -/
def SameBut (vs : List Nat) (σ σ' : L2.St) : Prop := σ'.length = σ.length ∧ ∀ i, i ∉ vs → σ'[i]? = σ[i]?
theorem wipe_get (i : Nat) : ∀ (ws : List Nat) (s : L2.St), (L2.wipe s ws)[i]? = if i ∈ ws then (if i < s.length then some none else none) else s[i]?
  | [], s => by simp [L2.wipe]
  | w :: ws, s => by
    unfold L2.wipe
    by_cases e : w = i
    · subst e
      by_cases hl : w < s.length
      · rw [List.getElem?_set_self (by rw [wipe_length]; exact hl)]; simp [hl]
      · rw [List.getElem?_eq_none (by rw [List.length_set, wipe_length]; omega)]; simp [hl]
    · rw [List.getElem?_set_ne e, wipe_get i ws s]
      have : (i ∈ w :: ws) = (i ∈ ws) := by simp [Ne.symm e]
      simp only [this]
theorem wipe_wipe (s : L2.St) (ws : List Nat) : L2.wipe (L2.wipe s ws) ws = L2.wipe s ws := by
  apply List.ext_getElem?
  intro i
  rw [wipe_get, wipe_get, wipe_length]
  by_cases hi : i ∈ ws <;> simp [hi]
theorem SameBut.wipe {vs : List Nat} {σ σ' : L2.St} (h : SameBut vs σ σ') {ws : List Nat} (hs : ∀ i ∈ vs, i ∈ ws) : L2.wipe σ' ws = L2.wipe σ ws := by
  apply List.ext_getElem?
  intro i
  rw [wipe_get, wipe_get, h.1]
  by_cases hi : i ∈ ws
  · simp [hi]
  · simp [hi]; exact h.2 i fun z => hi (hs i z)
/-- what a target of names asks -/
def tTgt (t : Tgt) : TG := fun v σ H Q => ∃ a τ ρ τ', Is ρ H a v ∧ RS0 ρ H τ σ ∧ t.set a τ = some τ' ∧ ∀ σ', RS0 ρ H τ' σ' → SameBut t.own σ σ' → Q σ' H
def tTgts (ts : List Tgt) : TGs := fun vs σ H Q => ∃ as τ ρ τ', IsAll ρ H as vs ∧ RS0 ρ H τ σ ∧ Tgt.sets ts as τ = some τ' ∧ ∀ σ', RS0 ρ H τ' σ' → SameBut (Tgt.owns ts) σ σ' → Q σ' H
def AG (X : Cx) (e : Expr) (t : Tgt) : Prop := PG X e (tTgt t)
def AGs (X : Cx) (es : List Expr) (ts : List Tgt) : Prop := PGs X es (tTgts ts)
theorem _root_.L2.PG.pre {X : Cx} {e : Expr} {t t' : TG} (h : PG X e t) (w : ∀ v σ H Q, t' v σ H Q → t v σ H Q) : PG X e t' := ⟨fun pins s σ H v u Q I r q => h.run pins s σ H v u Q I r (w v σ H Q q)⟩
theorem _root_.L2.PGs.pre {X : Cx} {e : List Expr} {t t' : TGs} (h : PGs X e t) (w : ∀ v σ H Q, t' v σ H Q → t v σ H Q) : PGs X e t' := ⟨fun pins s σ H v u Q I r q => h.run pins s σ H v u Q I r (w v σ H Q q)⟩
theorem ag_nm (i : Nat) {x : Str} (hN : X.N.Nodup) (hi : X.N[i]? = some x := by rfl) (hx : Loc X.env.scope x := by first | exact Or.inl rfl | exact Or.inr rfl) (hf : X.fn x = true ∨ X.env.scope.names.lookup x = some .local := by first | exact .inl rfl | exact .inr rfl | assumption) : AG X (.Name x pos) (.nm i) :=
  (pg_name hN hi hx hf).pre fun v σ H Q h => by
    obtain ⟨a, τ, ρ, τ', ia, rs, e, q⟩ := h
    simp only [Tgt.set] at e
    cases e
    refine q _ (rs.set ia i) ⟨by simp, fun j hj => ?_⟩
    rw [List.getElem?_set_ne (by intro z; exact hj (by simp [Tgt.own, z]))]
theorem ags_nil : AGs X [] [] := pgs_nil.pre fun vs σ H Q h => by
  obtain ⟨as, τ, ρ, τ', ia, rs, e, q⟩ := h
  cases ia with
  | nil => cases e; exact ⟨rfl, q _ rs ⟨rfl, fun _ _ => rfl⟩⟩
  | cons _ _ => simp only [Tgt.sets] at e; cases e
theorem ags_cons {e : Expr} {es : List Expr} {t : Tgt} {ts : List Tgt} (h1 : AG X e t) (h2 : AGs X es ts) (hs : (assignEach (e :: es) X.env).map (·.2) = assign e X.env :: (assignEach es X.env).map (·.2) := by rfl) : AGs X (e :: es) (t :: ts) :=
  (pgs_cons h1 h2 hs).pre fun vs σ H Q h => by
    obtain ⟨as, τ, ρ, τ', ia, rs, e, q⟩ := h
    cases ia with
    | nil => simp only [Tgt.sets] at e; cases e
    | @cons a v as vs i is =>
      simp only [Tgt.sets] at e
      cases e1 : t.set a τ with
      | none => rw [e1] at e; cases e
      | some τ1 =>
        rw [e1] at e
        refine ⟨v, vs, rfl, a, τ, ρ, τ1, i, rs, e1, fun σ1 rs1 s1 => ⟨as, τ1, ρ, τ', is, rs1, e, fun σ2 rs2 s2 => q σ2 rs2 ⟨s2.1.trans s1.1, fun j hj => ?_⟩⟩⟩
        simp only [Tgt.owns, List.mem_append, not_or] at hj
        exact (s2.2 j hj.2).trans (s1.2 j hj.1)
theorem IsAll.sets_len : ∀ {ts : List Tgt} {as : List A} {τ τ' : Sl}, Tgt.sets ts as τ = some τ' → as.length = ts.length
  | [], [], _, _, _ => rfl
  | t :: ts, a :: as, τ, τ', e => by
    simp only [Tgt.sets] at e
    cases e1 : t.set a τ with
    | none => rw [e1] at e; cases e
    | some τ1 => rw [e1] at e; simp [IsAll.sets_len (τ := τ1) e]
  | [], _ :: _, _, _, e => by simp only [Tgt.sets] at e; cases e
  | _ :: _, [], _, _, e => by simp only [Tgt.sets] at e; cases e
theorem ag_tp {es : List Expr} {k : Nat} {ts : List Tgt} (hc : X.calm = true) (h : AGs X es ts) (hn : (assignEach es X.env).length = ts.length := by rfl) (hst : (assignEach es X.env).findIdx? (·.1) = none := by rfl) : AG X (.Tuple es k pos) (.tp ts) :=
  (pg_tup (n := ts.length) hc h hn hst).pre fun v σ H Q h => by
    obtain ⟨a, τ, ρ, τ', ia, rs, e, q⟩ := h
    cases a with
    | tup as =>
      cases ia with
      | tup hp is =>
        simp only [Tgt.set] at e
        exact ⟨_, _, rfl, .inl (.inl hp), by rw [← is.length]; exact IsAll.sets_len e, as, τ, ρ, τ', is, rs, e, q⟩
    | _ => simp only [Tgt.set] at e; cases e
/-! ### assignments -/
def sAsg (t : Tgt) (f : EF) : SF := fun τ M => (f τ M).bindS τ fun a M1 => match t.set a τ with
  | some τ1 => .nx τ1 M1
  | none => .bad
theorem asg_tK {t : Tgt} {D : Ends} {σ : L2.St} {H : Hp} {G : Gx} (h : tS G W (sAsg t f) D σ H) : tG G W Is f σ H fun x H1 => tTgt t x σ H1 D.nx := (bindS_tK Is h).imp fun b H1 h1 => by
  obtain ⟨τ, M, ρ, a, rs, rm, i, r⟩ := h1
  cases e : t.set a τ with
  | none => rw [e] at r; exact r.elim
  | some τ1 => rw [e] at r; exact ⟨a, τ, ρ, τ1, i, rs.s, e, fun σ' rs' _ => r _ _ ρ (.refl _) (.refl _) rm (rs.of rs')⟩
theorem as_asg {tg : Expr} {t : Tgt} (he : AE X W e f) (hg : AG X tg t) (hs : swapsWithSole [tg] e pos.line X.env = pure false := by rfl) (hw : swappedStores [tg] e X.env = pure none := by rfl)
    (h1 : (assignEach [tg] X.env).map (·.2) = [assign tg X.env] := by rfl) : AS X W (.Assign [tg] e pos) (sAsg t f) := (ps_asg he hg hs hw h1).pre fun D σ H h => asg_tK h
theorem as_set (i : Nat) {x : Str} {pos' : Pos} (hN : X.N.Nodup) (he : AE X W e f) (hi : X.N[i]? = some x := by rfl) (hx : Loc X.env.scope x := by first | exact Or.inl rfl | exact Or.inr rfl) (hs : swapsWith e (some (.Name x pos')) pos.line X.env = pure false := by rfl)
    (hf : X.fn x = true ∨ X.env.scope.names.lookup x = some .local := by first | exact .inl rfl | exact .inr rfl | assumption) : AS X W (.Assign [.Name x pos'] e pos) (sAsg (.nm i) f) := (ps_set hN hi hx he hs hf).pre fun D σ H h => (bindS_tK Is h).imp fun b H1 h1 => by
  obtain ⟨τ, M, ρ, a, rs, rm, i, r⟩ := h1
  exact r _ _ ρ (.refl _) (.refl _) rm (rs.set i _)
/-- d[k] = v -/
def sDput (fd fk fv : EF) : SF := fun τ M => (fv τ M).bindS τ fun v M1 => (fd τ M1).bindS τ fun d M2 => (fk τ M2).bindS τ fun k M3 => match d with
  | .dct l => match dPut M3 l k v with
    | some M4 => .nx τ M4
    | none => .bad
  | _ => .bad
/-- xs[i] = v -/
def oSetL (M : Store) (x i v : A) : Option Store := match x, i with
  | .lst l, .int k => match M[l]? with
    | some (.lst xs) => (ixN xs.length k).map fun j => M.set l (.lst (xs.set j v))
    | _ => none
  | _, _ => none
def sSetL (fo fi fv : EF) : SF := fun τ M => (fv τ M).bindS τ fun v M1 => (fo τ M1).bindS τ fun x M2 => (fi τ M2).bindS τ fun i M3 => match oSetL M3 x i v with
  | some M4 => .nx τ M4
  | none => .bad
theorem bindS_tKs {α β α' β' : Type} {G : Gx} {D : Ends} {σ : L2.St} {H : Hp} (rel₁ : Rel α β) (hrel : ∀ {ρ ρ' H H' a b}, Ext ρ ρ' → Grow H H' → rel₁ ρ H a b → rel₁ ρ' H' a b) (rel : Rel α' β') {f : Sl → Store → EO α'} {k : Sl → α → α' → Store → SO} {b : β}
    (h : ∃ τ M ρ a, RS W ρ H τ σ ∧ RM G.w ρ H M ∧ rel₁ ρ H a b ∧ RSO G W D ρ H ((f τ M).bindS τ (k τ a))) :
    tG G W rel f σ H (fun b' H1 => ∃ τ M ρ a a', RS W ρ H1 τ σ ∧ RM G.w ρ H1 M ∧ rel₁ ρ H1 a b ∧ rel ρ H1 a' b' ∧ RSO G W D ρ H1 (k τ a a' M)) := by
  obtain ⟨τ, M, ρ, a, rs, rm, i1, r⟩ := h
  refine ⟨τ, M, ρ, rs, rm, ?_⟩
  cases e : f τ M with
  | ok a' M1 => rw [e] at r; exact fun b H1 ρ1 x g m i => ⟨τ, M1, ρ1, a, a', rs.mono x g, m, hrel x g i1, i, RSO.mono r x g⟩
  | ex en M1 => rw [e] at r; exact fun c d H1 ρ1 x g m i => r c d σ H1 ρ1 x g m (rs.mono x g) i
  | bad => rw [e] at r; exact r
theorem as_dput {o i v : Expr} {fd fk fv : EF} {pos' : Pos} (hu : X.A.units + 1 < cLine) (ho : AE X W o fd) (hi : AE X W i fk) (hv : AE X W v fv) (hs : swapsWith v (some (.Subscript o i pos')) pos.line X.env = pure false := by rfl) :
    AS X W (.Assign [.Subscript o i pos'] v pos) (sDput fd fk fv) := (ps_dput hu ho hi hv hs).pre fun D σ H h => (bindS_tK Is h).imp fun b H1 h1 => (bindS_tKs Is Is.ext Is h1).imp fun c H2 h2 => by
  obtain ⟨τ, M, ρ, a, a', rs, rm, ia, ia', r⟩ := h2
  refine ⟨τ, M, ρ, rs, rm, ?_⟩
  cases e : fk τ M with
  | ok k M3 =>
    rw [e] at r
    intro y H3 ρ3 x3 g3 m3 i3
    have r := RSO.mono r x3 g3
    cases a' with
    | dct l =>
      cases ia'.mono x3 g3 with
      | dct hb =>
        have r : RSO (X.gx W.Tb) W D ρ3 H3 (match dPut M3 l k a with
          | some M4 => .nx τ M4
          | none => .bad) := r
        cases e2 : dPut M3 l k a with
        | none => rw [e2] at r; exact r.elim
        | some M4 =>
          rw [e2] at r
          obtain ⟨H4, dp, m4, g4⟩ := dPut_ok m3 hb i3 (ia.mono x3 g3) e2
          exact ⟨_, H4, rfl, dp, r _ _ ρ3 (.refl _) g4 m4 ((rs.mono x3 g3).mono (.refl _) g4)⟩
    | _ => exact r.elim
  | ex en M3 => rw [e] at r; exact fun c d H3 ρ3 x g m i => r c d σ H3 ρ3 x g m (rs.mono x g) i
  | bad => rw [e] at r; exact r
theorem as_setL {o i v : Expr} {fo fi fv : EF} {pos' : Pos} (ho : AE X W o fo) (hi : AE X W i fi) (hv : AE X W v fv) (hs : swapsWithSole [.Subscript o i pos'] v pos.line X.env = pure false := by rfl) (hw : swappedStores [.Subscript o i pos'] v X.env = pure none := by rfl)
    (h1 : (assignEach [.Subscript o i pos'] X.env).map (·.2) = [assign (.Subscript o i pos') X.env] := by rfl)
    (ha : ∀ v, assign (.Subscript o i pos') X.env v = (do
      let ov ← holding [v] (eval o X.env)
      let iv ← holding [v, ov] (eval i X.env)
      standAt pos'
      holding [v, ov, iv] (setItem ov iv v)
      release [v, ov, iv] []) := by intro _; rfl) :
    AS X W (.Assign [.Subscript o i pos'] v pos) (sSetL fo fi fv) := (ps_asg hv (pg_sub ho hi set_list ha) hs hw h1).pre fun D σ H h => (bindS_tK Is h).imp fun b H1 h1 => (bindS_tKs Is Is.ext Is h1).imp fun c H2 h2 => by
  obtain ⟨τ, M, ρ, a, a', rs, rm, ia, ia', r⟩ := h2
  refine ⟨τ, M, ρ, rs, rm, ?_⟩
  cases e : fi τ M with
  | ok k M3 =>
    rw [e] at r
    intro y H3 ρ3 x3 g3 m3 i3
    have r : RSO (X.gx W.Tb) W D ρ3 H3 (match oSetL M3 a' k a with
      | some M4 => .nx τ M4
      | none => .bad) := RSO.mono r x3 g3
    unfold oSetL at r
    cases a' with
    | lst l =>
      cases k with
      | int j =>
        cases i3
        cases ia'.mono x3 g3 with
        | lst hb =>
          dsimp only at r
          cases e2 : M3[l]? with
          | none => rw [e2] at r; exact r.elim
          | some cc =>
            rw [e2] at r
            cases cc with
            | lst xs =>
              dsimp only at r
              obtain ⟨vs, hh, is⟩ := m3.lstM hb e2
              cases e3 : ixN xs.length j with
              | none => rw [e3] at r; exact r.elim
              | some jj =>
                rw [e3] at r
                have g4 := m3.growSet (o := .lst (vs.set jj b)) hb e2
                have i4 := (ia.mono x3 g3).mono (.refl ρ3) g4
                refine ⟨_, vs, j, jj, rfl, rfl, hh, by rw [← is.length]; exact e3, ?_⟩
                exact r _ _ ρ3 (.refl _) g4 (m3.set hb e2 ⟨_, upd_same, IsAll.set i4 jj (is.mono (.refl _) g4)⟩) ((rs.mono x3 g3).mono (.refl _) g4)
            | _ => exact r.elim
      | _ => exact r.elim
    | _ => exact r.elim
  | ex en M3 => rw [e] at r; exact fun c d H3 ρ3 x g m i => r c d σ H3 ρ3 x g m (rs.mono x g) i
  | bad => rw [e] at r; exact r
end
end AB
/-! AB5: loops, comprehensions, calls, defs -/
namespace AB
open PySem PySem.Spec PyProof.Rows L2
inductive Src where
  | snap (xs : List A) | dyn (l : Nat) | rng (lo : Int) (n : Nat) | enl (l : Nat)
def Src.at (s : Src) (M : Store) (i : Nat) : Option (Option A) := match s with
  | .snap xs => some xs[i]?
  | .dyn l => (listAt M l).map (·[i]?)
  | .rng lo n => some (if i < n then some (.int (lo + i)) else none)
  | .enl l => (listAt M l).map fun xs => xs[i]?.map fun x => .tup [.int (i : Nat), x]
def lenAt (M : Store) (l : Nat) : Nat := match listAt M l with
  | some xs => xs.length + 1
  | none => 0
def Src.size (s : Src) (M : Store) : Nat := match s with
  | .snap xs => xs.length + 1
  | .dyn l => lenAt M l
  | .rng _ n => n + 1
  | .enl l => lenAt M l
def SrcJ (w : Amb) (ρ : List Addr) (H : Hp) (src : Src) (J : It) : Prop := ∀ (ρ2 : List Addr) (H2 : Hp) (M2 : Store) (i : Nat), Ext ρ ρ2 → Grow H H2 → RM w ρ2 H2 M2 →
  match src.at M2 i with
  | some (some x) => J.go i H2 ∧ ∀ v H3, J.yld i H2 v H3 → Grow H2 H3 ∧ RM w ρ2 H3 M2 ∧ Is ρ2 H3 x v
  | some none => J.stop i H2
  | none => True
abbrev relJ (w : Amb) : Rel Src It := fun ρ H s J => SrcJ w ρ H s J
abbrev EI := Sl → Store → EO Src
def AI (X : Cx) (W : WR) (tg iter : Expr) (f : EI) : Prop := PI X tg iter (tG (X.gx W.Tb) W (relJ (X.am W.Tb)) f)
theorem _root_.L2.PI.pre {X : Cx} {tg e : Expr} {t t' : TI} (h : PI X tg e t) (w : ∀ σ H R, t' σ H R → t σ H R) : PI X tg e t' := ⟨fun pins s σ H R I q => h.run pins s σ H R I (w σ H R q)⟩
abbrev On' := List A → Store → EO A
/-! ### while -/
def whileA (c : EFb) (b : SF) : Nat → Sl → Store → SO
  | 0, _, _ => .bad
  | n + 1, τ, M => (c τ M).bindS τ fun k M1 => if k = true then
      match b τ M1 with
      | .nx τ2 M2 => whileA c b n τ2 M2
      | .ct τ2 M2 => whileA c b n τ2 M2
      | .bk τ2 M2 => .nx τ2 M2
      | o => o
    else .nx τ M1
section
variable {X : Cx} {W : WR} {pos : Pos} {e : Expr} {f : EF} {s t : SF}
theorem as_while (n : Sl → Store → Nat) {c : Expr} {body : List Stmt} {fc : EFb} {fb : SF} (hp : PassesOwn (model X.prog X.w) X.A X.env X.xe) (hc : AT X W c fc) (hb : ASs X W body fb) :
    AS X W (.While c body [] pos) (fun τ M => whileA fc fb (n τ M) τ M) := (ps_while hp hc hb).pre fun D σ H h => by
  obtain ⟨τ, M, ρ, rs, rm, r⟩ := h
  refine ⟨fun m σ H => ∃ τ M ρ, RS W ρ H τ σ ∧ RM (X.am W.Tb) ρ H M ∧ RSO (X.gx W.Tb) W D ρ H (whileA fc fb m τ M), ⟨n τ M, τ, M, ρ, rs, rm, r⟩, ?_⟩
  clear r rs rm
  rintro m σ H ⟨τ, M, ρ, rs, rm, r⟩
  cases m with
  | zero => exact r.elim
  | succ m =>
    unfold whileA at r
    refine ⟨τ, M, ρ, rs, rm, ?_⟩
    cases ec : fc τ M with
    | ok k M1 =>
      rw [ec] at r
      intro k' H1 ρ1 x1 g1 m1 ik
      have ik : k = k' := ik
      subst ik
      have r := RSO.mono r x1 g1
      have rs1 := rs.mono x1 g1
      cases k with
      | true =>
        rw [if_pos rfl]
        refine ⟨fun σ' H' => ∃ τ M ρ, RS W ρ H' τ σ' ∧ RM (X.am W.Tb) ρ H' M ∧ RSO (X.gx W.Tb) W D ρ H' (whileA fc fb m τ M), fun σ' H' q => ⟨m, Nat.lt_succ_self m, q⟩, τ, M1, ρ1, rs1, m1, ?_⟩
        have r : RSO (X.gx W.Tb) W D ρ1 H1 (match fb τ M1 with
          | .nx τ2 M2 => whileA fc fb m τ2 M2
          | .ct τ2 M2 => whileA fc fb m τ2 M2
          | .bk τ2 M2 => .nx τ2 M2
          | o => o) := r
        cases eb : fb τ M1 with
        | nx τ2 M2 => rw [eb] at r; exact fun σ2 H2 ρ2 x g m i => ⟨τ2, M2, ρ2, i, m, RSO.mono r x g⟩
        | ct τ2 M2 => rw [eb] at r; exact fun σ2 H2 ρ2 x g m i => ⟨τ2, M2, ρ2, i, m, RSO.mono r x g⟩
        | bk τ2 M2 => rw [eb] at r; exact r
        | rt a M2 => rw [eb] at r; exact r
        | ex en τ2 M2 => rw [eb] at r; exact r
        | bad => rw [eb] at r; exact r
      | false =>
        rw [if_neg Bool.false_ne_true]
        exact r _ _ ρ1 (.refl _) (.refl _) m1 rs1
    | ex en M1 => rw [ec] at r; exact fun c d H1 ρ1 x g m i => r c d σ H1 ρ1 x g m (rs.mono x g) i
    | bad => rw [ec] at r; exact r
/-! ### for -/
def forA (src : Src) (t : Tgt) (b : SF) : Nat → Nat → Sl → Store → SO
  | 0, _, _, _ => .bad
  | n + 1, i, τ, M => match src.at M i with
    | none => .bad
    | some none => .nx τ M
    | some (some x) => match t.set x τ with
      | none => .bad
      | some τ1 => match b τ1 M with
        | .nx τ2 M2 => forA src t b n (i + 1) τ2 M2
        | .ct τ2 M2 => forA src t b n (i + 1) τ2 M2
        | .bk τ2 M2 => .nx τ2 M2
        | o => o
def sFor (f : EI) (t : Tgt) (b : SF) : SF := fun τ M => (f τ M).bindS τ fun src M1 => forA src t b (src.size M1) 0 τ M1
theorem as_for {tg iter : Expr} {body : List Stmt} {fi : EI} {t : Tgt} {fb : SF} (hp : PassesOwn (model X.prog X.w) X.A X.env X.xe) (hc : X.calm = true) (hi : AI X W tg iter fi) (hg : AG X tg t) (hb : ASs X W body fb)
    (hs : ∀ x, foldedSetIterable iter X.env x = pure x := by intro _; rfl) : AS X W (.For tg iter body [] pos) (sFor fi t fb) := (ps_for hp hc hi hg hb hs).pre fun D σ H h => (bindS_tK (relJ (X.am W.Tb)) h).imp fun J H1 h1 => by
  obtain ⟨τ, M, ρ, src, rs, rm, ij, r⟩ := h1
  refine ⟨fun i m σ H => ∃ τ M ρ', Ext ρ ρ' ∧ Grow H1 H ∧ RS W ρ' H τ σ ∧ RM (X.am W.Tb) ρ' H M ∧ RSO (X.gx W.Tb) W D ρ' H (forA src t fb m i τ M), ⟨src.size M, τ, M, ρ, .refl _, .refl _, rs, rm, r⟩, ?_⟩
  clear r rs rm
  rintro i m σ H ⟨τ, M, ρ', x', g', rs, rm, r⟩
  cases m with
  | zero => exact r.elim
  | succ m =>
    unfold forA at r
    have jj := ij ρ' H M i x' g' rm
    cases ea : src.at M i with
    | none => rw [ea] at r; exact r.elim
    | some o =>
      cases o with
      | none =>
        rw [ea] at r jj
        exact .inl ⟨jj, r _ _ ρ' (.refl _) (.refl _) rm rs⟩
      | some a =>
        rw [ea] at r jj
        obtain ⟨go, yy⟩ := jj
        refine .inr ⟨go, fun σ' H' => ∃ τ M ρ', Ext ρ ρ' ∧ Grow H1 H' ∧ RS W ρ' H' τ σ' ∧ RM (X.am W.Tb) ρ' H' M ∧ RSO (X.gx W.Tb) W D ρ' H' (forA src t fb m (i + 1) τ M), fun σ' H' q => ⟨m, Nat.lt_succ_self m, q⟩, fun v H2 y => ?_⟩
        obtain ⟨g2, m2, ia⟩ := yy v H2 y
        have r : RSO (X.gx W.Tb) W D ρ' H (match t.set a τ with
          | none => .bad
          | some τ1 => match fb τ1 M with
            | .nx τ2 M2 => forA src t fb m (i + 1) τ2 M2
            | .ct τ2 M2 => forA src t fb m (i + 1) τ2 M2
            | .bk τ2 M2 => .nx τ2 M2
            | o => o) := r
        cases et : t.set a τ with
        | none => rw [et] at r; exact r.elim
        | some τ1 =>
          rw [et] at r
          refine ⟨a, τ, ρ', τ1, ia, (rs.mono (.refl _) g2).s, et, fun σ1 rs1 _ => ⟨τ1, M, ρ', (rs.mono (.refl _) g2).of rs1, m2, ?_⟩⟩
          have r := RSO.mono r (.refl _) g2
          have r : RSO (X.gx W.Tb) W D ρ' H2 (match fb τ1 M with
            | .nx τ2 M2 => forA src t fb m (i + 1) τ2 M2
            | .ct τ2 M2 => forA src t fb m (i + 1) τ2 M2
            | .bk τ2 M2 => .nx τ2 M2
            | o => o) := r
          cases eb : fb τ1 M with
          | nx τ2 M2 => rw [eb] at r; exact fun σ2 H3 ρ3 x g m i => ⟨τ2, M2, ρ3, x'.trans x, (g'.trans g2).trans g, i, m, RSO.mono r x g⟩
          | ct τ2 M2 => rw [eb] at r; exact fun σ2 H3 ρ3 x g m i => ⟨τ2, M2, ρ3, x'.trans x, (g'.trans g2).trans g, i, m, RSO.mono r x g⟩
          | bk τ2 M2 => rw [eb] at r; exact r
          | rt a M2 => rw [eb] at r; exact r
          | ex en τ2 M2 => rw [eb] at r; exact r
          | bad => rw [eb] at r; exact r
/-! ### what is walked -/
theorem _root_.L2.PI.or {tg e : Expr} {t t' : TI} (h : PI X tg e t) (h' : PI X tg e t') : PI X tg e (fun σ H R => t σ H R ∨ t' σ H R) := ⟨fun pins s σ H R I q => q.elim (fun q => h.run pins s σ H R I q) fun q => h'.run pins s σ H R I q⟩
def srcOf (a : A) (M : Store) : EO Src := match a with
  | .tup xs => .ok (.snap xs) M
  | .lst l => match listAt M l with
    | some _ => .ok (.dyn l) M
    | none => .bad
  | _ => .bad
def iSeq (f : EF) : EI := fun τ M => (f τ M).bind srcOf
theorem srcJ_list {w : Amb} {ρ : List Addr} {H : Hp} {l : Nat} {a : Addr} (ha : ρ[l]? = some a) : SrcJ w ρ H (.dyn l) (Itl w.K a) := by
  intro ρ2 H2 M2 i x g m
  cases e : Src.at (.dyn l) M2 i with
  | none => trivial
  | some o =>
    simp only [Src.at] at e
    cases el : listAt M2 l with
    | none => rw [el] at e; cases e
    | some xs =>
      rw [el] at e
      obtain ⟨vs, q, is⟩ := m.list (x.get ha) el
      cases o with
      | none =>
        have e : xs[i]? = none := Option.some.inj e
        exact ⟨vs, q, by rw [← is.length]; exact List.getElem?_eq_none_iff.mp e⟩
      | some t =>
        have e : xs[i]? = some t := Option.some.inj e
        obtain ⟨v, hv, iv⟩ := is.get e
        refine ⟨⟨vs, v, q, hv⟩, fun w H3 ⟨eH, hw⟩ => ?_⟩
        subst eH
        have := hw vs q
        rw [hv] at this
        obtain rfl := Option.some.inj this
        exact ⟨.refl _, m, iv⟩
theorem srcJ_tup {K : PySem.W.Frag} {ρ : List Addr} {H : Hp} {xs : List A} {vs : List V} {a : Addr} (ha : H a = some (.tup vs)) (is : IsAll ρ H xs vs) : SrcJ w ρ H (.snap xs) (Itt K a) := by
  intro ρ2 H2 M2 i x g m
  have h2 : SqT K H2 a vs := .inl (.inl (g _ _ (.tup _) ha))
  cases e : xs[i]? with
  | none =>
    simp only [Src.at, e]
    exact ⟨vs, h2, by rw [← is.length]; exact List.getElem?_eq_none_iff.mp e⟩
  | some t =>
    simp only [Src.at, e]
    obtain ⟨v, hv, iv⟩ := is.get e
    refine ⟨⟨vs, v, h2, hv⟩, fun w H3 ⟨eH, hw⟩ => ?_⟩
    subst eH
    have := hw vs h2
    rw [hv] at this
    obtain rfl := Option.some.inj this
    exact ⟨.refl _, m, iv.mono x g⟩
theorem ai_seq {tg l : Expr} (h : AE X W l f) : AI X W tg l (iSeq f) := ((pi_list h).or (pi_tup h)).pre fun σ H R h => by
  obtain ⟨τ, M, ρ, rs, rm, r⟩ := h
  unfold iSeq at r
  cases e : f τ M with
  | ok a M1 =>
    rw [e] at r
    cases a with
    | lst l =>
      refine .inl ⟨τ, M, ρ, rs, rm, ?_⟩
      rw [e]
      intro v H1 ρ1 x g m i
      cases i with
      | lst ha =>
        have r : RE (X.gx W.Tb) W σ ρ H (relJ (X.am W.Tb)) (match listAt M1 l with
          | some _ => .ok (.dyn l) M1
          | none => .bad) R := r
        cases el : listAt M1 l with
        | none => rw [el] at r; exact r.elim
        | some xs =>
          rw [el] at r
          obtain ⟨vs, q, is⟩ := m.list ha el
          exact ⟨_, rfl, ⟨vs, q⟩, RE.okv r x g m (srcJ_list ha)⟩
    | tup xs =>
      refine .inr ⟨τ, M, ρ, rs, rm, ?_⟩
      rw [e]
      intro v H1 ρ1 x g m i
      cases i with
      | tup ha is =>
        exact ⟨_, rfl, ⟨_, .inl (.inl ha)⟩, RE.okv (a := Src.snap xs) (M := M1) r x g m (srcJ_tup ha is)⟩
    | _ => exact r.elim
  | ex en M1 =>
    rw [e] at r
    exact .inl ⟨τ, M, ρ, rs, rm, by rw [e]; exact r⟩
  | bad => rw [e] at r; exact r.elim
def rngOf1 (as : List A) (M : Store) : EO Src := match as with
  | [.int j] => if -(2 ^ 62) ≤ j ∧ j < 2 ^ 62 then .ok (.rng 0 j.toNat) M else .bad
  | _ => .bad
def rngOf2 (as : List A) (M : Store) : EO Src := match as with
  | [.int i, .int j] => if -(2 ^ 62) ≤ i ∧ i < 2 ^ 62 ∧ -(2 ^ 62) ≤ j ∧ j < 2 ^ 62 then .ok (.rng i (j - i).toNat) M else .bad
  | _ => .bad
def iRng1 (f : EFs) : EI := fun τ M => (f τ M).bind rngOf1
def iRng2 (f : EFs) : EI := fun τ M => (f τ M).bind rngOf2
theorem srcJ_rng {ρ : List Addr} {H : Hp} {lo : Int} {n : Nat} : SrcJ w ρ H (.rng lo n) (Itr lo n) := by
  intro ρ2 H2 M2 i x g m
  by_cases h : i < n
  · simp only [Src.at, if_pos h]
    exact ⟨h, fun v H3 ⟨e1, e2⟩ => by subst e1 e2; exact ⟨.refl _, m, .int _⟩⟩
  · simp only [Src.at, if_neg h]
    exact Nat.le_of_not_lt h
theorem ai_rng1 {tg a : Expr} {fs : EFs} {p : Pos} (hm : X.mg "range" = none) (ha : AA X W [a] fs) (hg : Gl X "range" := by rfl) (hs : starEach [a] X.env = [(false, eval a X.env)] := by rfl) : AI X W tg (.Call (.Name "range" p) [a] [] pos) (iRng1 fs) :=
  (pi_range1 hg hm ha hs).pre fun σ H R h => by
    refine (seqG IsAll h).imp fun vs H1 h1 => ?_
    obtain ⟨τ, M, ρ, as, rs, rm, i, r⟩ := h1
    dsimp only [rngOf1] at r
    split at r
    · split at r
      · rename_i hz
        cases i with
        | cons i1 i =>
          cases i; cases i1
          exact ⟨_, rfl, hz.1, hz.2, r.okv (.refl _) (.refl _) rm srcJ_rng⟩
      · exact r.elim
    · exact r.elim
theorem ai_rng2 {tg a b : Expr} {fs : EFs} {p : Pos} (hm : X.mg "range" = none) (ha : AA X W [a, b] fs) (hg : Gl X "range" := by rfl) (hs : starEach [a, b] X.env = [(false, eval a X.env), (false, eval b X.env)] := by rfl) (hs2 : starEach [b] X.env = [(false, eval b X.env)] := by rfl) : AI X W tg (.Call (.Name "range" p) [a, b] [] pos) (iRng2 fs) :=
  (pi_range2 hg hm ha hs hs2).pre fun σ H R h => by
    refine (seqG IsAll h).imp fun vs H1 h1 => ?_
    obtain ⟨τ, M, ρ, as, rs, rm, i, r⟩ := h1
    dsimp only [rngOf2] at r
    split at r
    · split at r
      · rename_i hz
        cases i with
        | cons i1 i =>
          cases i with
          | cons i2 i =>
            cases i; cases i1; cases i2
            exact ⟨_, _, rfl, hz, r.okv (.refl _) (.refl _) rm srcJ_rng⟩
      · exact r.elim
    · exact r.elim
/-! ### comprehensions -/
def wipeA (τ : Sl) : List Nat → Sl
  | [] => τ
  | v :: vs => (wipeA τ vs).set v none
theorem RS.wipe {ρ : List Addr} {H : Hp} {τ : Sl} {σ : L2.St} (r : RS W ρ H τ σ) : ∀ vs : List Nat, RS W ρ H (wipeA τ vs) (L2.wipe σ vs)
  | [] => r
  | v :: vs => by
    unfold wipeA L2.wipe
    exact (RS.wipe r vs).unset v none
def lcA (src : Src) (t : Tgt) (ft : EFb) (fe : EF) (l : Nat) (τ : Sl) : Nat → Nat → Store → EO A
  | 0, _, _ => .bad
  | n + 1, i, M => match src.at M i with
    | none => .bad
    | some none => .ok (.lst l) M
    | some (some x) => match t.set x τ with
      | none => .bad
      | some τ1 => match ft τ1 M with
        | .ok true M1 => match fe τ1 M1 with
          | .ok y M2 => match M2[l]? with
            | some (.lst acc) => if acc.length < sizeLine then lcA src t ft fe l τ n (i + 1) (M2.set l (.lst (acc ++ [y]))) else .bad
            | _ => .bad
          | _ => .bad
        | .ok false M1 => lcA src t ft fe l τ n (i + 1) M1
        | _ => .bad
def eLc (fi : EI) (t : Tgt) (ft : EFb) (fe : EF) (own : List Nat) : EF := fun τ M => (fi τ M).bind fun src M1 => lcA src t ft fe M1.length (wipeA τ own) (src.size M1) 0 (M1 ++ [.lst []])
def ATs (X : Cx) (W : WR) (ifs : List Expr) (f : EFb) : Prop := PTs X ifs (tG (X.gx W.Tb) W relB f)
def bYes : EFb := fun _ M => .ok true M
theorem ats_nil : ATs X W [] bYes := ⟨fun pins s σ H Q I h => by
  obtain ⟨τ, M, ρ, rs, rm, r⟩ := h
  exact pts_nil.run pins s σ H Q I (r.okv (.refl _) (.refl _) rm rfl)⟩
theorem ats_one {c : Expr} {fb : EFb} (h : AT X W c fb) : ATs X W [c] fb := pts_one h
theorem lc_tK {G : Gx} {fi : EI} {t : Tgt} {ft : EFb} {fe : EF} {own : List Nat} {σ : L2.St} {H : Hp} {Q : VK} (ho : ∀ i ∈ t.own, i ∈ own) (h : tG G W Is (eLc fi t ft fe own) σ H Q) :
    tLc (tG G W (relJ G.w) fi) (tTgt t) (tG G W.nx relB ft) (tG G W.nx Is fe) own σ H Q := by
  refine (seqG (relJ G.w) h).imp fun J H1 h1 => ?_
  obtain ⟨τ, M, ρ, src, rs, rm, ij, r⟩ := h1
  intro D hD
  have r : RE G W σ ρ H1 Is (lcA src t ft fe M.length (wipeA τ own) (src.size M) 0 (M ++ [.lst []])) Q := r
  have g0 : Grow H1 (upd H1 D (.lst [])) := .new hD
  have m0 : RM G.w (ρ ++ [D]) (upd H1 D (.lst [])) (M ++ [.lst []]) := rm.push hD ⟨[], upd_same, .nil⟩
  have hl0 : (ρ ++ [D])[M.length]? = some D := by rw [← rm.len]; simp
  generalize hl : M.length = l at r hl0
  generalize hM : (M ++ [Cell.lst []]) = M0 at r m0
  refine ⟨fun i m H => ∃ M ρ', Ext (ρ ++ [D]) ρ' ∧ Grow H1 H ∧ RM G.w ρ' H M ∧ RE G W σ ρ' H Is (lcA src t ft fe l (wipeA τ own) m i M) Q,
    ⟨_, M0, ρ ++ [D], .refl _, g0, m0, RE.mono r (.snoc _ _) g0⟩, ?_⟩
  clear r m0 hM
  rintro i m H ⟨M, ρ', x', g', rm', r⟩
  have xx : Ext ρ ρ' := (Ext.snoc ρ D).trans x'
  cases m with
  | zero => exact r.elim
  | succ m =>
    unfold lcA at r
    have jj := ij ρ' H M i xx g' rm'
    cases ea : src.at M i with
    | none => rw [ea] at r; exact r.elim
    | some o =>
      cases o with
      | none =>
        rw [ea] at r jj
        exact .inl ⟨jj, r.okv (.refl _) (.refl _) rm' (.lst (x'.get hl0))⟩
      | some a =>
        rw [ea] at r jj
        obtain ⟨go, yy⟩ := jj
        refine .inr ⟨go, fun H => ∃ M ρ', Ext (ρ ++ [D]) ρ' ∧ Grow H1 H ∧ RM G.w ρ' H M ∧ RE G W σ ρ' H Is (lcA src t ft fe l (wipeA τ own) m (i + 1) M) Q, fun H' q => ⟨m, Nat.lt_succ_self m, q⟩, fun v H2 y => ?_⟩
        obtain ⟨g2, m2, ia⟩ := yy v H2 y
        dsimp only at r
        cases et : t.set a (wipeA τ own) with
        | none => rw [et] at r; exact r.elim
        | some τ1 =>
          rw [et] at r
          dsimp only at r
          have g12 := g'.trans g2
          refine ⟨a, wipeA τ own, ρ', τ1, ia, ((rs.mono xx g12).wipe own).s, et, fun σ1 rs1 sb => ⟨?_, ?_⟩⟩
          · rw [sb.wipe ho]
            exact wipe_wipe σ own
          · have r := RE.mono r (.refl _) g2
            have rs1 : RS W.nx ρ' H2 τ1 σ1 := ⟨(rs.mono xx g12).ext, (rs.mono xx g12).grow, rs1⟩
            refine ⟨τ1, M, ρ', rs1, m2, ?_⟩
            cases e1 : ft τ1 M with
            | ok k M1 =>
              rw [e1] at r
              intro k' H3 ρ3 x3 g3 m3 ik
              have ik : k = k' := ik
              subst ik
              have r := RE.mono r x3 g3
              cases k with
              | true =>
                rw [if_pos rfl]
                dsimp only at r
                refine ⟨τ1, M1, ρ3, rs1.mono x3 g3, m3, ?_⟩
                cases e2 : fe τ1 M1 with
                | ok y M2 =>
                  rw [e2] at r
                  intro w H4 ρ4 x4 g4 m4 iy
                  have r := RE.mono r x4 g4
                  dsimp only at r
                  have hb : ρ4[l]? = some D := x4.get (x3.get (x'.get hl0))
                  cases e3 : M2[l]? with
                  | none => rw [e3] at r; exact r.elim
                  | some cc =>
                    rw [e3] at r
                    cases cc with
                    | lst acc =>
                      dsimp only at r
                      obtain ⟨vs, hh, is⟩ := m4.lstM hb e3
                      split at r
                      · rename_i hz
                        have g5 := m4.growSet (o := .lst (vs ++ [w])) hb e3
                        refine ⟨vs, hh, by rw [← is.length]; exact hz, _, ρ4, x'.trans (x3.trans x4), ((g12.trans g3).trans g4).trans g5, m4.set (c' := .lst (acc ++ [y])) hb e3 ⟨_, upd_same, (is.append (.cons iy .nil)).mono (.refl _) g5⟩, RE.mono r (.refl _) g5⟩
                      · exact r.elim
                    | _ => exact r.elim
                | ex en M2 => rw [e2] at r; exact r.elim
                | bad => rw [e2] at r; exact r.elim
              | false =>
                rw [if_neg Bool.false_ne_true]
                exact ⟨M1, ρ3, x'.trans x3, g12.trans g3, m3, r⟩
            | ex en M1 => rw [e1] at r; exact r.elim
            | bad => rw [e1] at r; exact r.elim
theorem ae_lc (own : List (Str × Nat)) {elt tg iter : Expr} {ifs : List Expr} {scope : Scope} {fi : EI} {t : Tgt} {ft : EFb} {fe : EF} (hc : X.calm = true) (hN : X.N.Nodup) (ok : BlkOk X.N X.env.scope scope own) (ho : ∀ i ∈ t.own, i ∈ own.map (·.2)) (hi : AI X W tg iter fi)
    (hg : ∀ (s : Shared) (H : Hp) (C : Addr) (cl : List (Str × Addr)) (fp : List Addr), AG (X.blk s H scope (compEnvC scope cl C X.env) fp) tg t) (ht : ∀ (s : Shared) (H : Hp) (C : Addr) (cl : List (Str × Addr)) (fp : List Addr), ATs (X.blk s H scope (compEnvC scope cl C X.env) fp) W.nx ifs ft)
    (he : ∀ (s : Shared) (H : Hp) (C : Addr) (cl : List (Str × Addr)) (fp : List Addr), AE (X.blk s H scope (compEnvC scope cl C X.env) fp) W.nx elt fe) (hs : ∀ x, foldedSetIterable iter X.env x = pure x := by intro _; rfl) :
    AE X W (.ListComp elt [⟨tg, iter, ifs, 0⟩] scope pos) (eLc fi t ft fe (own.map (·.2))) := (pe_lc (tt := tG (X.gx W.Tb) W.nx relB ft) (te := tG (X.gx W.Tb) W.nx Is fe) hc hN hi ok hg ht he hs).pre fun _ _ _ h => lc_tK ho h
theorem as_setLc (i : Nat) (own : List (Str × Nat)) {y : Str} {py spos : Pos} {elt tg iter : Expr} {ifs : List Expr} {scope : Scope} {fi : EI} {t : Tgt} {ft : EFb} {fe : EF} (hc : X.calm = true) (hN : X.N.Nodup) (hsw : swapsWith (.ListComp elt [⟨tg, iter, ifs, 0⟩] scope pos) (some (.Name y py)) spos.line X.env = pure true) (ok : BlkOk X.N X.env.scope scope own) (ho : ∀ i ∈ t.own, i ∈ own.map (·.2)) (hi : AI X W tg iter fi)
    (hg : ∀ (s : Shared) (H : Hp) (C : Addr) (cl : List (Str × Addr)) (fp : List Addr), AG (X.blk s H scope (compEnvC scope cl C X.env) fp) tg t) (ht : ∀ (s : Shared) (H : Hp) (C : Addr) (cl : List (Str × Addr)) (fp : List Addr), ATs (X.blk s H scope (compEnvC scope cl C X.env) fp) W.nx ifs ft)
    (he : ∀ (s : Shared) (H : Hp) (C : Addr) (cl : List (Str × Addr)) (fp : List Addr), AE (X.blk s H scope (compEnvC scope cl C X.env) fp) W.nx elt fe) (hy : X.N[i]? = some y := by rfl) (hyl : X.env.scope.names.lookup y = some .local := by rfl) (hs : ∀ x, foldedSetIterable iter X.env x = pure x := by intro _; rfl) :
    AS X W (.Assign [.Name y py] (.ListComp elt [⟨tg, iter, ifs, 0⟩] scope pos) spos) (sAsg (.nm i) (eLc fi t ft fe (own.map (·.2)))) := (ps_setLc (tt := tG (X.gx W.Tb) W.nx relB ft) (te := tG (X.gx W.Tb) W.nx Is fe) hc hN hy hyl hsw hi ok hg ht he hs).pre fun D σ H h => by
  have h1 := asg_tK h
  refine lc_tK ho (h1.imp fun x H1 q => ?_)
  obtain ⟨a, τ, ρ, τ', ia, rs, e, q⟩ := q
  simp only [Tgt.set] at e
  cases e
  refine q _ (rs.set ia i) ⟨by simp, fun j hj => ?_⟩
  rw [List.getElem?_set_ne (by intro z; exact hj (by simp [Tgt.own, z]))]
/-! ### calls of defs -/
/-- what a def promises that does F -/
def spA (G : Gx) (n : Nat) (F : On') : Sp := fun vs H Q E => ∃ as M ρ, IsAll ρ H as vs ∧ RM G.w ρ H M ∧ as.length = n ∧ RE G ⟨fun cls d _ H' => E cls d H', G.w.Tb, [], fun _ => none⟩ [] ρ H Is (F as M) Q
def eCall (n : Nat) (F : On') (fs : EFs) : EF := fun τ M => (fs τ M).bind fun as M1 => if as.length = n then F as M1 else .bad
theorem ae_call {k n : Nat} {fa : Addr} {fd : FuncData} {ps : List Str} {F : On'} {x : Str} {p : Pos} {e : Expr} {es : List Expr} {fs : EFs} (G : FnOk X.prog X.w X.K X.mg X.base (L2.CX X.prog X.w) k fa fd ps (spA (X.gx W.Tb) n F)) (hr : Room k X.A) (hm : X.mg x = some (.ref fa)) (hk : PySem.W.keepIn X.K (.ref fa) = true) (hb : Binds X.K fd ps []) (tk : Takes X W.w)
    (ha : AA X W (e :: es) fs) (hg : Gl X x := by rfl) (hdb : (x == ("__debug__" : Str)) = false := by decide) (he : starEach (e :: es) X.env = (false, eval e X.env) :: starEach es X.env := by rfl) (hpl : (backTo pos (starEach es X.env)).any (·.1) = false := by rfl) :
    AE X W (.Call (.Name x p) (e :: es) [] pos) (eCall n F fs) := (pe_callS (E := WE W) G hr hg hm hk hb (fun σ => passAt tk σ) ha hdb he hpl).pre fun σ H Q h => by
  refine (seqG IsAll h).imp fun vs H1 h1 => ?_
  obtain ⟨τ, M, ρ, as, rs, rm, i, r⟩ := h1
  have r : RE (X.gx W.Tb) W σ ρ H1 Is (if as.length = n then F as M else .bad) Q := r
  split at r
  · rename_i hn
    refine ⟨as, M, ρ, i, rm, hn, ?_⟩
    cases e : F as M with
    | ok a M1 => rw [e] at r; exact r
    | ex en M1 => rw [e] at r; exact r
    | bad => rw [e] at r; exact r
  · exact r.elim
/-- what a body's end is to the caller -/
def retOf (o : SO) : EO A := match o with
  | .nx _ M => .ok .non M
  | .rt a M => .ok a M
  | .ex e _ M => .ex e M
  | _ => .bad
def startA (n : Nat) (as : List A) : Sl := as.map some ++ List.replicate (n - as.length) none
def defA (n : Nat) (s : SF) : On' := fun as M => retOf (s (startA n as) M)
theorem start_ok {ρ : List Addr} {H : Hp} {as : List A} {vs : List V} (r : IsAll ρ H as vs) (N : List Str) : RS0 ρ H (startA N.length as) (L2.start N vs) := by
  unfold startA L2.start
  rw [r.length]
  have rep : ∀ n, RS0 ρ H (List.replicate n none) (List.replicate n none) := by
    intro n
    induction n with
    | zero => exact .nil
    | succ n ih => rw [List.replicate_succ, List.replicate_succ]; exact .no ih
  generalize N.length - vs.length = n
  induction as generalizing vs with
  | nil => cases r; exact rep n
  | cons a as ih =>
    cases r with
    | cons i is => exact .yes i (ih is)
section
variable {P : Program} {w : World} {K : PySem.W.Frag} {mg : Str → Option Value} {base : Heap}
/-- a def's body, its errors let out -/
theorem fn_A {x qual : Str} {st : Stmt} {fa : Addr} {fd : FuncData} {N ps : List Str} {k : Nat} {s : SF} (F : Fun K x qual st fa fd) (S : FnScope N ps (defScope st))
    (hbody : ∀ (cdv : Value) (A : Around) (outer : List Env) (s₀ : Shared) (H : Hp) (E : XK), Room k (A.deeper (envOfC qual (defScope st) s₀.heap.objs.size fa cdv)) →
      ASs (cxOf (L2.CX P w) P w K mg base N qual (defScope st) fa cdv A outer s₀ H E) ⟨fun cls d _ H => E cls d H, Tb, [], fun _ => none⟩ (defBody st) s) :
    FnOk P w K mg base (L2.CX P w) (k + 1) fa fd ps (spA ⟨mg, ⟨w, K, mg, Tb⟩⟩ ps.length (defA N.length s)) := by
  refine F.okX S (fun vs H Q E h => ?_) (fun cdv A outer s₀ H vs Q E hr h => ⟨_, hbody cdv A outer s₀ H E hr, ?_⟩)
  · obtain ⟨as, M, ρ, i, rm, hn, _⟩ := h
    rw [← i.length]; exact hn
  · obtain ⟨as, M, ρ, i, rm, hn, r⟩ := h
    refine ⟨startA N.length as, M, ρ, ⟨⟨ρ, rfl⟩, fun _ _ _ z => (nomatch z), start_ok i N⟩, rm, ?_⟩
    unfold defA at r
    cases e : s (startA N.length as) M with
    | nx τ M1 => rw [e] at r; exact fun σ' H' ρ' x g m _ => r .non H' ρ' x g m .non
    | rt a M1 => rw [e] at r; exact r
    | ex en τ M1 => rw [e] at r; exact fun c d σ' H' ρ' x g m _ ix => r c d H' ρ' x g m ix
    | bk τ M1 => rw [e] at r; exact r.elim
    | ct τ M1 => rw [e] at r; exact r.elim
    | bad => rw [e] at r; exact r.elim
end
end
end AB
/-! AB6: built-ins -/
namespace AB
open PySem PySem.Spec PyProof.Rows L2
section
variable {X : Cx} {W : WR} {pos : Pos} {a b e : Expr} {es : List Expr} {f g : EF} {fs : EFs}
/-! ### isinstance -/
def tyOf? (M : Store) : A → Option String
  | .non => some "NoneType"
  | .bl _ => some "bool"
  | .int _ => some "int"
  | .str _ => some "str"
  | .tup _ => some "tuple"
  | .lst l => (listAt M l).map fun _ => "list"
  | .dct d => match M[d]? with
    | some (.dK _) => some "dict"
    | some (.dT _) => some "dict"
    | _ => none
  | .ty _ => none
  | .obj _ => none
  | .rng _ _ => none
  | .ftp _ => none
theorem tyOf_ok {ρ : List Addr} {H : Hp} {M : Store} (m : RM w ρ H M) {a : A} {v : V} {n : String} (i : Is ρ H a v) (e : tyOf? M a = some n) : TyX w.K H v (.type n) := by
  cases i with
  | non => cases e; exact .base .non
  | bl b => cases e; exact .base (.bl b)
  | int b => cases e; exact .base (.int b)
  | str b => cases e; exact .base (.str b)
  | tup h _ => cases e; exact .base (.tup h)
  | lst h =>
    simp only [tyOf?] at e
    cases el : listAt M _ with
    | none => rw [el] at e; cases e
    | some xs =>
      rw [el] at e; cases e
      unfold listAt at el
      split at el
      · rename_i c ec
        have r := m.at_ _ _ c h ec
        cases c with
        | lst ys => obtain ⟨vs, q, _⟩ := r; exact .base (.lst q)
        | frz ys =>
          obtain ⟨vs, q, _⟩ := r
          rcases q with (⟨o, q⟩ | q) | ⟨o, its, n, q1, q2, _⟩
          · exact .base (.frz q)
          · exact .base (.lst q)
          · exact .kList q1 q2
        | _ => cases el
      · cases el
  | dct h =>
    simp only [tyOf?] at e
    split at e
    · rename_i kvs ec; cases e; obtain ⟨vs, q, _⟩ := m.at_ _ _ _ h ec; exact .base (.dK q)
    · rename_i kvs ec; cases e; obtain ⟨vs, q, _⟩ := m.at_ _ _ _ h ec; exact .base (.dT q)
    · cases e
  | ty n => cases e
  | obj h => cases e
  | rng h => cases e
  | ftp _ _ _ _ => cases e
/-- the answer by the types' names (kitB's own, tabled) -/
def isiT (t c : String) : Option Bool :=
  if t = c then some true else
  if ["NoneType", "bool", "int", "str", "tuple", "list", "dict"].contains t = true ∧ ["bool", "int", "str", "tuple", "list", "dict"].contains c = true then some (t == "bool" && c == "int") else none
theorem isiT_ok {t c : String} {b : Bool} (h : isiT t c = some b) : kitB t c = some b := by
  unfold isiT at h
  split at h
  · rename_i e; subst e; cases h
    unfold kitB
    rw [if_pos (beq_self_eq_true _)]
  · split at h
    · rename_i ne hh
      obtain ⟨h1, h2⟩ := hh
      simp only [List.contains_eq_mem, List.mem_cons, List.not_mem_nil, or_false, decide_eq_true_eq] at h1 h2
      cases h
      rcases h1 with rfl | rfl | rfl | rfl | rfl | rfl | rfl <;> rcases h2 with rfl | rfl | rfl | rfl | rfl | rfl <;> first | exact absurd rfl ne | decide +kernel
    · cases h
def isiAny (t : String) : List A → Option Bool
  | [] => some false
  | .ty c :: cs => match isiT t c, isiAny t cs with
    | some a, some b => some (a || b)
    | _, _ => none
  | _ :: _ => none
def oIsi : On := fun as M => match as with
  | [x, .ty c] => match tyOf? M x with
    | some t => (isiT t c).map fun b => (.bl b, M)
    | none => none
  | [x, .tup cs] => match tyOf? M x with
    | some t => (isiAny t cs).map fun b => (.bl b, M)
    | none => none
  | _ => none
theorem isiAny_ok {ρ : List Addr} {H : Hp} {K : PySem.W.Frag} {t : String} : ∀ {cs : List A} {vs : List V} {b : Bool}, IsAll ρ H cs vs → isiAny t cs = some b → ∃ us, Paired ClsV vs us ∧ PySem.W.kitAny K (.type t) us = some b
  | [], _, b, .nil, e => by cases e; exact ⟨[], .nil, kitAny_nil⟩
  | c :: cs, _, b, .cons r rs, e => by
    cases r with
    | ty n =>
      simp only [isiAny] at e
      split at e
      · rename_i a b2 e1 e2; cases e
        obtain ⟨us, p, q⟩ := isiAny_ok rs e2
        exact ⟨_, .cons (.ty n) p, kitAny_cons (kit_ty (isiT_ok e1)) (fun z => by subst z; simpa using q) fun z => by subst z; rfl⟩
      · cases e
    | _ => simp only [isiAny] at e; cases e
theorem cr_isi : CallR X (.builtin "isinstance") (rn (X.am W.Tb) oIsi) := by
  intro pins s σ H xs us Q I r h
  obtain ⟨as, M, ρ, is, m, ro⟩ := h
  unfold oIsi at ro
  split at ro
  · rename_i x c
    cases is with
    | cons i1 is =>
      cases is with
      | cons i2 is =>
        cases is; cases i2
        split at ro
        · rename_i t et
          cases e1 : isiT t c with
          | none => rw [e1] at ro; exact ro.elim
          | some b =>
            rw [e1] at ro
            exact call_isi pins s σ H _ us Q I r ⟨_, _, _, _, b, rfl, .ty c, tyOf_ok m i1 et, kit_ty (isiT_ok e1), RO.val (ρ := ρ) (M := M) ro m (.bl _)⟩
        · exact ro.elim
  · rename_i x cs
    cases is with
    | cons i1 is =>
      cases is with
      | cons i2 is =>
        cases is
        cases i2 with
        | tup ht it =>
          split at ro
          · rename_i t et
            cases e1 : isiAny t cs with
            | none => rw [e1] at ro; exact ro.elim
            | some b =>
              rw [e1] at ro
              obtain ⟨ws, p, q⟩ := isiAny_ok (K := X.K) it e1
              exact call_isiT pins s σ H _ us Q I r ⟨_, _, _, _, ws, b, rfl, ht, p, tyOf_ok m i1 et, q, RO.val (ρ := ρ) (M := M) ro m (.bl _)⟩
          · exact ro.elim
  · exact ro.elim
/-- a built-in class as a value -/
theorem ae_type {x : Str} {n : String} (hm : X.mg x = none) (hg : Gl X x := by rfl) (hv : bootBuiltins x = some (.type n) := by decide +kernel) (hn : x ≠ "__name__" := by decide) (hd : (x == ("__debug__" : Str)) = false := by decide) : AE X W (.Name x pos) (eC (.ty n)) :=
  const_ok (fun _ _ => .ty n) (pe_bltn hg hm hv rfl hn hd)
/-! ### len -/
def oLen : On := fun as M => match as with
  | [.tup xs] => some (.int (xs.length : Nat), M)
  | [.lst l] => (listAt M l).map fun xs => (.int (xs.length : Nat), M)
  | [.str x] => if x.length ≤ sizeLine then some (.int (x.length : Nat), M) else none
  | [.dct d] => match M[d]? with
    | some (.dK kvs) => some (.int (kvs.length : Nat), M)
    | some (.dT kvs) => some (.int (kvs.length : Nat), M)
    | _ => none
  | _ => none
theorem cr_len : CallR X (.builtin "len") (rn (X.am W.Tb) oLen) := by
  intro pins s σ H xs us Q I r h
  obtain ⟨as, M, ρ, is, m, ro⟩ := h
  unfold oLen at ro
  split at ro
  · cases is with
    | cons i1 is =>
      cases is
      cases i1 with
      | tup ht it => exact call_len pins s σ H _ us Q I r ⟨_, _, rfl, .inr ⟨_, .inl (.inl ht), it.length⟩, ro.val m (.int _)⟩
  · rename_i l
    cases is with
    | cons i1 is =>
      cases is
      cases i1 with
      | lst hl =>
        cases el : listAt M l with
        | none => rw [el] at ro; exact ro.elim
        | some ys =>
          rw [el] at ro
          obtain ⟨vs, hq, iv⟩ := m.list hl el
          exact call_len pins s σ H _ us Q I r ⟨_, _, rfl, .inl ⟨_, hq, iv.length⟩, RO.val (ρ := ρ) (M := M) ro m (.int _)⟩
  · cases is with
    | cons i1 is =>
      cases is
      cases i1
      split at ro
      · rename_i hz
        exact call_len pins s σ H _ us Q I r ⟨_, _, rfl, ⟨hz, rfl⟩, ro.val m (.int _)⟩
      · exact ro.elim
  · rename_i d
    cases is with
    | cons i1 is =>
      cases is
      cases i1 with
      | dct hd =>
        split at ro
        · rename_i kvs ec
          obtain ⟨vs, q, iv⟩ := m.at_ _ _ _ hd ec
          refine call_lenD pins s σ H _ us Q I r ⟨_, _, rfl, q, ?_⟩
          have : ((kvs.map (·.1)).zip vs).length = kvs.length := by have := iv.length; simp only [List.length_zip, List.length_map] at this ⊢; omega
          rw [this]
          exact ro.val m (.int _)
        · rename_i kvs ec
          obtain ⟨vs, q, iv⟩ := m.at_ _ _ _ hd ec
          refine call_len_dT pins s σ H _ us Q I r ⟨_, _, rfl, q, ?_⟩
          have : ((kvs.map (·.1)).zip vs).length = kvs.length := by have := iv.length; simp only [List.length_zip, List.length_map] at this ⊢; omega
          rw [this]
          exact ro.val m (.int _)
        · exact ro.elim
  · exact ro.elim
/-! ### int, min, max, abs, tuple, list, all, any -/
def oInt1 : On := fun as M => match as with
  | [.int i] => some (.int i, M)
  | [.bl k] => some (.int (if k then 1 else 0), M)
  | _ => none
theorem cr_int : CallR X (.type "int") (rn (X.am W.Tb) oInt1) := by
  intro pins s σ H xs us Q I r h
  obtain ⟨as, M, ρ, is, m, ro⟩ := h
  unfold oInt1 at ro
  split at ro
  · cases is with
    | cons i1 is => cases is; cases i1; exact call_int1 pins s σ H _ us Q I r (.inl ⟨_, rfl, ro.val m (.int _)⟩)
  · cases is with
    | cons i1 is => cases is; cases i1; exact call_int1 pins s σ H _ us Q I r (.inr ⟨_, rfl, ro.val m (.int _)⟩)
  · exact ro.elim
def oTuple : On := fun as M => match as with
  | [.tup xs] => some (.tup xs, M)
  | [.lst l] => (listAt M l).map fun xs => (.tup xs, M)
  | _ => none
theorem cr_tuple : CallR X (.type "tuple") (rn (X.am W.Tb) oTuple) := by
  intro pins s σ H xs us Q I r h
  obtain ⟨as, M, ρ, is, m, ro⟩ := h
  unfold oTuple at ro
  split at ro
  · cases is with
    | cons i1 is =>
      cases is
      cases i1 with
      | tup ht it => exact call_tuple_of pins s σ H _ us Q I r ⟨_, _, rfl, .inr ⟨.inl (.inl ht), ro.val m (.tup ht it)⟩⟩
  · rename_i l
    cases is with
    | cons i1 is =>
      cases is
      cases i1 with
      | lst hl =>
        cases el : listAt M l with
        | none => rw [el] at ro; exact ro.elim
        | some ys =>
          rw [el] at ro
          obtain ⟨vs, hq, iv⟩ := m.list hl el
          exact call_tuple_of pins s σ H _ us Q I r ⟨_, _, rfl, .inl ⟨hq, fun p hp => RO.newT (M := M) ro m iv hp⟩⟩
  · exact ro.elim
/-- the keys of a dict of tuples -/
def keyA : Key → A
  | .inl i => .int i
  | .inr x => .str x
def oList : On := fun as M => match as with
  | [.tup xs] => some (.lst M.length, M ++ [.lst xs])
  | [.lst l] => (listAt M l).map fun xs => (.lst M.length, M ++ [.lst xs])
  | [.dct d] => match M[d]? with
    | some (.dK kvs) => some (.lst M.length, M ++ [.lst (kvs.map fun kv => keyA kv.1)])
    | some (.dT kvs) => some (.lst M.length, M ++ [.lst (kvs.map fun kv => .tup (kv.1.map keyA))])
    | _ => none
  | _ => none
theorem keyA_is {ρ : List Addr} {H : Hp} (k : Key) : Is ρ H (keyA k) (kV k) := by
  cases k with
  | inl i => exact .int i
  | inr x => exact .str x
theorem keysA_is {ρ : List Addr} {H : Hp} : ∀ ks : List Key, IsAll ρ H (ks.map keyA) (ks.map kV)
  | [] => .nil
  | k :: ks => .cons (keyA_is k) (keysA_is ks)
theorem map_zip_fst {κ β : Type} {ks : List κ} {vs : List β} (h : ks.length = vs.length) : (ks.zip vs).map (·.1) = ks := by
  induction ks generalizing vs with
  | nil => rfl
  | cons k ks ih =>
    cases vs with
    | nil => cases h
    | cons v vs => simp only [List.zip_cons_cons, List.map_cons]; rw [ih (by simpa using h)]
theorem isKeys_all {ρ : List Addr} {H : Hp} : ∀ {ks : List (List Key)} {vs : List V} {bs : List Addr}, ks.length = vs.length → IsKeys H (ks.zip vs) bs → IsAll ρ H (ks.map fun k => .tup (k.map keyA)) (bs.map V.ref)
  | [], _, bs, _, h => by
    cases h
    exact .nil
  | k :: ks, [], _, hl, _ => by cases hl
  | k :: ks, v :: vs, _, hl, h => by
    cases h with
    | cons h1 h2 => exact .cons (.tup h1 (keysA_is k)) (isKeys_all (by simpa using hl) h2)
theorem cr_list (hc : X.calm = true) : CallR X (.type "list") (rn (X.am W.Tb) oList) := by
  intro pins s σ H xs us Q I r h
  obtain ⟨as, M, ρ, is, m, ro⟩ := h
  unfold oList at ro
  split at ro
  · cases is with
    | cons i1 is =>
      cases is
      cases i1 with
      | tup ht it => exact call_list_of pins s σ H _ us Q I r ⟨_, _, rfl, .inr (.inl (.inl ht)), fun p hp => ro.newL m it hp⟩
  · rename_i l
    cases is with
    | cons i1 is =>
      cases is
      cases i1 with
      | lst hl =>
        cases el : listAt M l with
        | none => rw [el] at ro; exact ro.elim
        | some ys =>
          rw [el] at ro
          obtain ⟨vs, hq, iv⟩ := m.list hl el
          exact call_list_of pins s σ H _ us Q I r ⟨_, _, rfl, .inl hq, fun p hp => RO.newL (M := M) ro m iv hp⟩
  · rename_i d
    cases is with
    | cons i1 is =>
      cases is
      cases i1 with
      | dct hd =>
        split at ro
        · rename_i kvs ec
          obtain ⟨vs, q, iv⟩ := m.at_ _ _ _ hd ec
          have hl : (kvs.map (·.1)).length = vs.length := by have := iv.length; simpa using this
          refine call_list_dK hc pins s σ H _ us Q I r ⟨_, _, rfl, q, fun p hp => ?_⟩
          have e : ((kvs.map (·.1)).zip vs).map (fun kv => kV kv.1) = (kvs.map (·.1)).map kV := by
            rw [show (fun kv : Key × V => kV kv.1) = kV ∘ (·.1) from rfl, ← List.map_map, map_zip_fst hl]
          rw [e]
          have e2 : (kvs.map fun kv => keyA kv.1) = (kvs.map (·.1)).map keyA := by rw [List.map_map]; rfl
          rw [e2] at ro
          exact ro.newL m (keysA_is _) hp
        · rename_i kvs ec
          obtain ⟨vs, q, iv⟩ := m.at_ _ _ _ hd ec
          have hl : (kvs.map (·.1)).length = vs.length := by have := iv.length; simpa using this
          refine call_list_dT hc pins s σ H _ us Q I r ⟨_, _, rfl, .inl q, fun p bs hp hk => ?_⟩
          have e2 : (kvs.map fun kv => A.tup (kv.1.map keyA)) = (kvs.map (·.1)).map fun k => .tup (k.map keyA) := by rw [List.map_map]; rfl
          rw [e2] at ro
          exact ro.newL m (isKeys_all hl hk) hp
        · exact ro.elim
  · exact ro.elim
def bls? : List A → Option (List Bool)
  | [] => some []
  | .bl b :: r => (bls? r).map (b :: ·)
  | _ :: _ => none
theorem bls_ok {ρ : List Addr} {H : Hp} : ∀ {as : List A} {vs : List V} {bs : List Bool}, IsAll ρ H as vs → bls? as = some bs → vs = bs.map V.bl
  | [], _, bs, .nil, e => by cases e; rfl
  | a :: as, _, bs, .cons r rs, e => by
    cases r with
    | bl b =>
      simp only [bls?] at e
      cases e1 : bls? as with
      | none => rw [e1] at e; cases e
      | some bs' => rw [e1] at e; cases e; rw [bls_ok rs e1]; rfl
    | _ => simp only [bls?] at e; cases e
def oAll : On := fun as M => match as with
  | [.lst l] => ((listAt M l).bind bls?).map fun bs => (.bl (bs.all id), M)
  | _ => none
def oAny : On := fun as M => match as with
  | [.lst l] => ((listAt M l).bind bls?).map fun bs => (.bl (bs.any id), M)
  | _ => none
theorem cr_allA (hc : X.calm = true) : CallR X (.builtin "all") (rn (X.am W.Tb) oAll) := by
  intro pins s σ H xs us Q I r h
  obtain ⟨as, M, ρ, is, m, ro⟩ := h
  unfold oAll at ro
  split at ro
  · rename_i l
    cases is with
    | cons i1 is =>
      cases is
      cases i1 with
      | lst hl =>
        cases el : listAt M l with
        | none => rw [el] at ro; exact ro.elim
        | some ys =>
          obtain ⟨vs, hq, iv⟩ := m.list hl el
          cases eb : bls? ys with
          | none => rw [el, Option.bind_some, eb] at ro; exact ro.elim
          | some bs =>
            rw [el, Option.bind_some, eb] at ro
            rw [bls_ok iv eb] at hq
            exact cr_all hc pins s σ H _ us Q I r ⟨_, _, rfl, hq, RO.val (ρ := ρ) (M := M) ro m (.bl _)⟩
  · exact ro.elim
theorem cr_anyA (hc : X.calm = true) : CallR X (.builtin "any") (rn (X.am W.Tb) oAny) := by
  intro pins s σ H xs us Q I r h
  obtain ⟨as, M, ρ, is, m, ro⟩ := h
  unfold oAny at ro
  split at ro
  · rename_i l
    cases is with
    | cons i1 is =>
      cases is
      cases i1 with
      | lst hl =>
        cases el : listAt M l with
        | none => rw [el] at ro; exact ro.elim
        | some ys =>
          obtain ⟨vs, hq, iv⟩ := m.list hl el
          cases eb : bls? ys with
          | none => rw [el, Option.bind_some, eb] at ro; exact ro.elim
          | some bs =>
            rw [el, Option.bind_some, eb] at ro
            rw [bls_ok iv eb] at hq
            exact cr_any hc pins s σ H _ us Q I r ⟨_, _, rfl, hq, RO.val (ρ := ρ) (M := M) ro m (.bl _)⟩
  · exact ro.elim
end
end AB
/-! AB7: methods of lists, ranges as values -/
namespace AB
open PySem PySem.Spec PyProof.Rows L2
section
variable {X : Cx} {W : WR} {pos : Pos} {a b e : Expr} {es : List Expr} {f g : EF} {fs : EFs}
/-! ### list methods -/
abbrev OM := A → List A → Store → Option (A × Store)
def rm (w : Amb) (o : OM) : V → List V → Hp → VK → Prop := fun x xs H Q => ∃ a as M ρ, Is ρ H a x ∧ IsAll ρ H as xs ∧ RM w ρ H M ∧ RO w ρ H (o a as M) Q
def isL (M : Store) : A → Bool
  | .lst l => (listAt M l).isSome
  | _ => false
def eMeth (o : OM) (f : EF) (fs : EFs) : EF := fun τ M => (f τ M).bind fun a M1 => if isL M1 a = true then (fs τ M1).bind fun as M2 => toE (o a as M2) else .bad
theorem isL_ok {ρ : List Addr} {H : Hp} {M : Store} (m : RM w ρ H M) {a : A} {v : V} (i : Is ρ H a v) (h : isL M a = true) : tyV w.K "list" v H := by
  cases i with
  | lst hl =>
    simp only [isL] at h
    cases el : listAt M _ with
    | none => rw [el] at h; cases h
    | some xs =>
      obtain ⟨vs, q, _⟩ := m.list hl el
      exact .inl ⟨rfl, vs, q⟩
  | _ => simp only [isL] at h; cases h
theorem ae_meth {o : OM} {name : Str} {id : String} {apos cpos : Pos} (slot : Slot "list" name id) (hty : typeOf (.builtin id) = pure (.type "method_descriptor")) (hm : MtR X id (rm (X.am W.Tb) o)) (ho : AE X W a f) (ha : AA X W (e :: es) fs)
    (hbase : attributeBase a name X.env (eval a X.env) = eval a X.env := by rfl)
    (hfew : ((backTo cpos (starEach (e :: es) X.env)).all (fun x => !x.1) && (backToKw cpos (keywordEach [] X.env)).all (fun x => x.1.isSome)
      && decide ((e :: es).length + ([] : List Keyword).length + (if ([] : List Keyword).isEmpty then 0 else 1) < 30)) = true := by rfl)
    (hline : (apos.endLine == cpos.line) = true := by rfl) (hs : starEach (e :: es) X.env = (false, eval e X.env) :: starEach es X.env := by rfl) (hplain : (backTo cpos (starEach es X.env)).any (·.1) = false := by rfl) :
    AE X W (.Call (.Attribute a name apos) (e :: es) [] cpos) (eMeth o f fs) := (pe_bm PySem.F.plainAttrs_list slot hty hm ho ha hbase hfew hline hs hplain).pre fun σ H Q h => by
  refine (seqG Is h).imp fun x H1 h1 => ?_
  obtain ⟨τ, M, ρ, c, rs, rm', i, r⟩ := h1
  have r : RE (X.gx W.Tb) W σ ρ H1 Is (if isL M c = true then (fs τ M).bind fun as M2 => toE (o c as M2) else .bad) Q := r
  split at r
  · rename_i hl
    refine ⟨isL_ok rm' i hl, τ, M, ρ, rs, rm', ?_⟩
    cases e2 : fs τ M with
    | ok as M2 =>
      rw [e2] at r
      intro vs H2 ρ2 x g m is
      have r := RE.mono r x g
      exact ⟨c, as, M2, ρ2, i.mono x g, is, m, RO.of r⟩
    | ex en M2 => rw [e2] at r; exact r
    | bad => rw [e2] at r; exact r
  · exact r.elim
def oAppend : OM := fun x as M => match x, as with
  | .lst l, [y] => match M[l]? with
    | some (.lst xs) => if xs.length < sizeLine then some (.non, M.set l (.lst (xs ++ [y]))) else none
    | _ => none
  | _, _ => none
theorem mt_appendA : MtR X "list.append" (rm (X.am W.Tb) oAppend) := by
  intro pins s σ H x xs v us Q I rx rxs h
  obtain ⟨a, as, M, ρ, ia, is, m, ro⟩ := h
  unfold oAppend at ro
  split at ro
  · rename_i l y
    cases is with
    | cons i1 is =>
      cases is
      cases ia with
      | lst hl =>
        split at ro
        · rename_i ys ec
          split at ro
          · rename_i hz
            obtain ⟨vs, hh, iv⟩ := m.lstM hl ec
            exact mt_append pins s σ H _ _ v us Q I rx rxs ⟨_, _, _, rfl, rfl, hh, by rw [← iv.length]; exact hz, ro.setL m hl ec (iv.append (.cons i1 .nil)) .non⟩
          · exact ro.elim
        · exact ro.elim
  · exact ro.elim
def oPop : OM := fun x as M => match x, as with
  | .lst l, [] => match M[l]? with
    | some (.lst xs) => match xs[xs.length - 1]? with
      | some y => some (y, M.set l (.lst xs.dropLast))
      | none => none
    | _ => none
  | .lst l, [.int i] => match M[l]? with
    | some (.lst xs) => if -(2 ^ 63) ≤ i ∧ i < 2 ^ 63 then match seqIndex? i xs.length with
        | some k => match xs[k]? with
          | some y => some (y, M.set l (.lst (xs.eraseIdx k)))
          | none => none
        | none => none
      else none
    | _ => none
  | _, _ => none
def oExtend : OM := fun x as M => match x, as with
  | .lst l, [.lst k] => match M[l]?, M[k]? with
    | some (.lst xs), some (.lst ys) => if xs.length + ys.length ≤ sizeLine then some (.non, M.set l (.lst (xs ++ ys))) else none
    | _, _ => none
  | _, _ => none
theorem mt_extendA : MtR X "list.extend" (rm (X.am W.Tb) oExtend) := by
  intro pins s σ H x xs v us Q I rx rxs h
  obtain ⟨a, as, M, ρ, ia, is, m, ro⟩ := h
  unfold oExtend at ro
  split at ro
  · rename_i l k
    cases is with
    | cons i1 is =>
      cases is
      cases ia with
      | lst hl =>
        cases i1 with
        | lst hk =>
          split at ro
          · rename_i ys zs e1 e2
            split at ro
            · rename_i hz
              obtain ⟨vs, hh, iv⟩ := m.lstM hl e1
              obtain ⟨ws, hh2, iw⟩ := m.lstM hk e2
              exact mt_extend pins s σ H _ _ v us Q I rx rxs ⟨_, _, _, _, rfl, rfl, hh, hh2, by rw [← iv.length, ← iw.length]; exact hz, ro.setL m hl e1 (iv.append iw) .non⟩
            · exact ro.elim
          · exact ro.elim
  · exact ro.elim
theorem ae_append {apos cpos : Pos} (ho : AE X W a f) (ha : AA X W [e] fs) (hbase : attributeBase a "append" X.env (eval a X.env) = eval a X.env := by rfl)
    (hfew : ((backTo cpos (starEach [e] X.env)).all (fun x => !x.1) && (backToKw cpos (keywordEach [] X.env)).all (fun x => x.1.isSome)
      && decide ([e].length + ([] : List Keyword).length + (if ([] : List Keyword).isEmpty then 0 else 1) < 30)) = true := by rfl)
    (hline : (apos.endLine == cpos.line) = true := by rfl) (hs : starEach [e] X.env = (false, eval e X.env) :: starEach [] X.env := by rfl) (hplain : (backTo cpos (starEach [] X.env)).any (·.1) = false := by rfl) :
    AE X W (.Call (.Attribute a "append" apos) [e] [] cpos) (eMeth oAppend f fs) := ae_meth PySem.F.slot_list_append PySem.F.type_list_append mt_appendA ho ha hbase hfew hline hs hplain
theorem ae_extend {apos cpos : Pos} (ho : AE X W a f) (ha : AA X W [e] fs) (hbase : attributeBase a "extend" X.env (eval a X.env) = eval a X.env := by rfl)
    (hfew : ((backTo cpos (starEach [e] X.env)).all (fun x => !x.1) && (backToKw cpos (keywordEach [] X.env)).all (fun x => x.1.isSome)
      && decide ([e].length + ([] : List Keyword).length + (if ([] : List Keyword).isEmpty then 0 else 1) < 30)) = true := by rfl)
    (hline : (apos.endLine == cpos.line) = true := by rfl) (hs : starEach [e] X.env = (false, eval e X.env) :: starEach [] X.env := by rfl) (hplain : (backTo cpos (starEach [] X.env)).any (·.1) = false := by rfl) :
    AE X W (.Call (.Attribute a "extend" apos) [e] [] cpos) (eMeth oExtend f fs) := ae_meth PySem.F.slot_list_extend PySem.F.type_list_extend mt_extendA ho ha hbase hfew hline hs hplain
/-! ### list(range(..)), tuple(range(..)) -/
def rgA (a b : Int) : List A := (List.range (b - a).toNat).map fun i => A.int (a + (i : Nat))
theorem rgA_is {ρ : List Addr} {H : Hp} (a b : Int) : IsAll ρ H (rgA a b) (rgV a b) := by
  unfold rgA rgV
  generalize List.range (b - a).toNat = l
  induction l with
  | nil => exact .nil
  | cons i l ih => exact .cons (.int _) ih
def rgOk (a b : Int) : Bool := decide (-(2 ^ 62) ≤ a ∧ a < 2 ^ 62 ∧ -(2 ^ 62) ≤ b ∧ b < 2 ^ 62 ∧ (b - a).toNat ≤ 2 ^ 24)
abbrev ER := Sl → Store → EO (Int × Int)
def g1 (f : EF) : ER := fun τ M => (f τ M).bind fun a M1 => match a with
  | .int n => .ok (0, n) M1
  | _ => .bad
abbrev relR : Rel (Int × Int) (Int × Int) := fun _ _ a b => a = b
def AR (X : Cx) (W : WR) (e : Expr) (f : ER) : Prop := PRg X e (fun σ H R => tG (X.gx W.Tb) W relR f σ H fun p H1 => R p.1 p.2 H1)
theorem ar_1 {p pos : Pos} (hm : X.mg "range" = none) (ha : AE X W a f) (hg : Gl X "range" := by rfl) (na : starEach [a] X.env = (false, eval a X.env) :: starEach [] X.env := by rfl) : AR X W (.Call (.Name "range" p) [a] [] pos) (g1 f) := by
  intro pins s σ H Q I h
  refine prg_1 hg hm ha na pins s σ H Q I ((seqG Is h).imp fun x H1 h1 => ?_)
  obtain ⟨τ, M, ρ, c, rs, rm', i, r⟩ := h1
  cases c with
  | int n => cases i; exact ⟨n, rfl, RE.okv (a := (0, n)) (M := M) (rel := relR) (b := (0, n)) r (.refl _) (.refl _) rm' rfl⟩
  | _ => exact r.elim
def eTrg (f : ER) : EF := fun τ M => (f τ M).bind fun p M1 => if rgOk p.1 p.2 = true then .ok (.tup (rgA p.1 p.2)) M1 else .bad
theorem ae_trg {p pos : Pos} {fr : ER} (hc : X.calm = true) (hm : X.mg "tuple" = none) (he : AR X W e fr) (hg : Gl X "tuple" := by rfl) (na : starEach [e] X.env = (false, eval e X.env) :: starEach [] X.env := by rfl) : AE X W (.Call (.Name "tuple" p) [e] [] pos) (eTrg fr) := (pe_tupRg hc hg hm he na).pre fun σ H Q h => by
  refine (seqG relR h).imp fun x H1 h1 => ?_
  obtain ⟨τ, M, ρ, c, rs, rm', i, r⟩ := h1
  have i : c = x := i
  subst i
  have r : RE (X.gx W.Tb) W σ ρ H1 Is (if rgOk c.1 c.2 = true then .ok (.tup (rgA c.1 c.2)) M else .bad) Q := r
  split at r
  · rename_i hz
    refine ⟨by unfold rgOk at hz; unfold RgOk; exact of_decide_eq_true hz, fun q hq => ?_⟩
    exact r.okv (.refl _) (.new hq) (rm'.new hq) (.tup upd_same (rgA_is _ _))
  · exact r.elim
end
end AB
/-! AB8: enumerate of a tuple -/
namespace ET
open PySem PySem.Spec PyProof.Rows L2
open AutoSeq1 (wpAny_loadPart')
theorem meets_enumerate_newT (l : Addr) (items : Array Value) (n : Nat) (dct : Option Addr) (sl : Array (Option Value)) :
    Meets (Builtin.«enumerate.__new__» ⟨[.type "enumerate", .ref l], []⟩) (fun _ R s => s.heap.get? l = some { cls := .type "tuple", dict := dct, data := .seq items n, slots := sl } ∧
      R (.ok (.ret (.ref (s.heap.push { cls := .type "tuple_iterator", data := .fields #[.ref l, .int 0 0] }).objs.size)))
        { s with heap := (s.heap.push { cls := .type "tuple_iterator", data := .fields #[.ref l, .int 0 0] }).push { cls := .type "enumerate", data := .fields #[.none, .bool false, .ref s.heap.objs.size, rawInt 0, .none, .none] } }) :=
  .of_wp fun prog w A R s h => by
    obtain ⟨hp, g, d, tk, os⟩ := s; obtain ⟨hl, h⟩ := h
    have hsub := sub_enumerate
    have hL : Heap.IsTuple (Shared.heap ⟨hp, g, d, tk, os⟩) l items := ⟨_, hl, rfl, n, rfl⟩
    wp_walk using wpAny_loadPart' hl
    refine wpAny_stack_any fun st => wpAny_pure ?_
    split
    · rename_i c _ _ _ _ _
      cases (c == Value.type "enumerate")
      · wp_walk using wpAny_loadPart' hl, wpAny_pyIter_tuple hL
        exact ⟨_, rfl, h⟩
      · wp_walk using wpAny_loadPart' hl, wpAny_pyIter_tuple hL
        exact ⟨_, rfl, h⟩
    · wp_walk using wpAny_loadPart' hl, wpAny_pyIter_tuple hL
      exact ⟨_, rfl, h⟩
section
variable {prog : Program} {w : World} {A : Around} {E : Value → Shared → Prop} {s : Shared}
theorem call_enumerate_tup {l : Addr} {items : Array Value} {Q : Value → Shared → Prop} (hL : s.heap.IsTuple l items)
    (h : ∀ h', IsEnum h' (s.heap.objs.size + 1) s.heap.objs.size 0 .none → h'.IsTupleIter s.heap.objs.size l 0 → h'.objs.size = s.heap.objs.size + 2 →
      (∀ b o, s.heap.get? b = some o → h'.get? b = some o) → Q (.ref (s.heap.objs.size + 1)) { s with heap := h' }) :
    wpAny (model prog w) A (call (.type "enumerate") [.ref l]) Q E s := by
  obtain ⟨⟨c, dct, dt, sl⟩, hl, hc, n, hd⟩ := hL
  replace hc : c = .type "tuple" := hc
  replace hd : dt = .seq items n := hd
  subst hc hd
  refine callType_new F.called_enumerate (by decide) (F.typeCall_enumerate_1 _) (F.newCall_enumerate_1 _) (fun obj => F.args_object_init_2 obj _) F.entry_enumerate_new
    (meets_enumerate_newT l items n dct sl) ⟨hl, ?_⟩
  have hz : (s.heap.push { cls := .type "tuple_iterator", data := .fields #[.ref l, .int 0 0] }).objs.size = s.heap.objs.size + 1 := Heap.size_push ..
  show _ ∧ _
  rw [hz]
  have he : IsEnum ((s.heap.push { cls := .type "tuple_iterator", data := .fields #[.ref l, .int 0 0] }).push
      { cls := .type "enumerate", data := .fields #[.none, .bool false, .ref s.heap.objs.size, rawInt 0, .none, .none] }) (s.heap.objs.size + 1) s.heap.objs.size 0 .none := by
    have := Heap.get?_push_size (s.heap.push { cls := .type "tuple_iterator", data := .fields #[.ref l, .int 0 0] })
      (o := { cls := .type "enumerate", data := .fields #[.none, .bool false, .ref s.heap.objs.size, rawInt 0, .none, .none] }) rfl
    rw [hz] at this; exact this
  refine ⟨⟨_, he, rfl⟩, h _ he ⟨_, Heap.get?_push_of_some _ (Heap.get?_push_size _ rfl), rfl, rfl⟩ (by rw [Heap.size_push, hz]) fun b o x => Heap.get?_push_of_some _ (Heap.get?_push_of_some _ x)⟩
end
theorem enum_end_tup {prog : Program} {w : World} {A : Around} {E : Value → Shared → Prop} {s : Shared} {e it l : Addr} {i : Nat} {items : Array Value} {old : Value} {Q : Option Value → Shared → Prop} (hh : A.handled = none)
    (he : IsEnum s.heap e it i old) (hit : s.heap.IsTupleIter it l i) (hl : s.heap.IsTuple l items) (hx : items[i]? = none)
    (hQ : ∀ h', Heap.ExtBut it s.heap h' → Q none { s with heap := h' }) : wpAny (model prog w) A (pyNext (.ref e)) Q E s := by
  have hT : s.TypeIs (.ref e) "enumerate" := ⟨_, he, rfl⟩
  unfold pyNext
  refine wpAny_bind (wpAny_attempt (wpAny_callSpecial?_slot (name := Str.ofString "__next__") hT F.slot_enumerate_next
    (wpAny_call_entry F.slot_enumerate_next hT F.entry_enumerate_next ?_ (F.args_enumerate_next_1 _))))
  show wpAny _ _ (field (.ref e) 2 >>= _) _ _ _
  refine wpAny_bind (wpAny_field he rfl (x := .ref it) rfl ?_)
  refine wpAny_bind (wpAny_nextOf_tuple_end (by first | exact hh | (show A.in1.handled = none; exact hh)) hit hl hx fun h' x he' hx' => ?_)
  obtain ⟨o, ho, hc⟩ := hx'
  refine wpAny_bind (wpAny_isInstance (T := "StopIteration") (b := true) ⟨o, ho, hc⟩ isSubtype_stop ?_)
  exact wpAny_pure (hQ _ he')
/-- each item of the tuple at a in a new pair -/
def ItE (K : PySem.W.Frag) (a : Addr) : It :=
  ⟨fun i H => ∃ (xs : List V) (x : V), SqT K H a xs ∧ xs[i]? = some x, fun i H v H' => ∃ T x, v = .ref T ∧ H T = none ∧ H' = upd H T (.tup [.int (i : Nat), x]) ∧ ∀ xs, SqT K H a xs → xs[i]? = some x, fun i H => ∃ xs : List V, SqT K H a xs ∧ xs.length ≤ i⟩
theorem turn_enumT {P : Program} {w : World} {K : PySem.W.Frag} {elts : List Expr} {kk : Nat} {tpos : Pos} (a e it : Addr) :
    Turn P w K (.Tuple elts kk tpos) (ItE K a) [e, it] e (fun i h => (∃ old, IsEnum h e it ((i : Nat) : Int) old) ∧ h.IsTupleIter it a i ∧ e ≠ it) where
  mem := by simp
  obj := fun i h st b hb => by
    obtain ⟨⟨old, he⟩, ⟨o, ho, hc, hd⟩, _⟩ := st
    have e' : b = e ∨ b = it := by simpa using hb
    rcases e' with z | z
    · rw [z]; exact ⟨_, he, fun v q => nomatch q⟩
    · rw [z]; exact ⟨o, ho, fun v q => by rw [hd] at q; cases q⟩
  keep := fun i h h' st k => let ⟨⟨old, he⟩, hi, hne⟩ := st; ⟨⟨old, k e (by simp) _ he⟩, hi.at fun o q => k it (by simp) o q, hne⟩
  item := by
    intro X hP hw hK hc i pins s σ H E I hf st hg
    subst hP hw hK
    obtain ⟨⟨old, he⟩, hit, hne⟩ := st
    obtain ⟨xs, x, hq, hx⟩ := hg
    obtain ⟨its, rv, p, hz⟩ := I.tuple hq
    obtain ⟨u, hu, ru⟩ := rv.get hx
    have hel : e < s.heap.objs.size := Heap.lt_size he
    have hil : it < s.heap.objs.size := by obtain ⟨_, q, _⟩ := hit; exact Heap.lt_size q
    obtain ⟨ob, hob, hcb, nb, hdb⟩ := id (show s.heap.IsTuple a its.toArray from p)
    have hae : a ≠ e := fun z => by
      subst z
      rw [he] at hob; cases hob; exact absurd (Value.type.inj hcb) (by decide)
    have hai : a ≠ it := fun z => by
      subst z
      obtain ⟨o2, q1, q2, _⟩ := hit
      rw [q1] at hob; cases hob; rw [q2] at hcb; exact absurd (Value.type.inj hcb) (by decide)
    have D := Draws.tuple (prog := X.prog) (w := X.w) (A := X.A.in1) (I.ok.hd hc) it a hai its.toArray
    have hlt : i < its.toArray.size := by
      have := (List.getElem?_eq_some_iff.mp hu).1
      simpa using this
    refine wpAny_pyNext_enum_itemD (i := i) D he ⟨hit, show s.heap.IsTuple a its.toArray from p⟩ hlt hne (by simp [hne, Ne.symm hae]) fun u' h' tk hu' ho hit' hT hsz hk => ?_
    have hu' : its.toArray[i]? = some u' := hu'
    have eu : u' = u := by
      have q : its.toArray[i]? = some u := by simpa using hu
      rw [q] at hu'; exact (Option.some.inj hu').symm
    subst eu
    refine ⟨_, rfl, wpAny_letOwnedTupleGo_enum (s := { s with heap := h', toks := tk + 1 }) ho fun h'' he' sb => ?_⟩
    have hT2 : h''.get? s.heap.objs.size = some { cls := .type "tuple", data := .seq #[.int i tk, u'] } := (sb.2 _ (Nat.ne_of_gt hel)).trans hT
    have new : ObjOk X.prog X.w (upd H s.heap.objs.size (.tup [.int (i : Nat), x])) h'' s.heap.objs.size (.tup [.int (i : Nat), x]) :=
      ⟨by show 2 ≤ sizeLine; decide, [.int i tk, u'], .cons ⟨_, rfl⟩ (.cons ru .nil), ⟨_, hT2, rfl, _, rfl⟩⟩
    have I1 : Inv X pins σ (upd H s.heap.objs.size (.tup [.int (i : Nat), x])) { s with heap := h'', toks := tk + 1 } :=
      I.turnedNew (ch := [e, it]) (fun b ob hb q => (sb.2 b (fun z => hb (by simp [z]))).trans (hk b ob (fun z => hb (by simp [z])) (fun z => hb (by simp [z])) q)) hf (Nat.le_refl _) new
    refine ⟨.ref s.heap.objs.size, _, I1, rfl, ⟨_, x, rfl, I.hok.fresh (Nat.le_refl _), rfl, fun ys hy => by rw [I.tuple_inj hy hq]; exact hx⟩, ⟨⟨u', ?_⟩, hit'.1.at fun o q => (sb.2 it (Ne.symm hne)).trans q, hne⟩, fun b hb => ?_⟩
    · have e1 : ((i + 1 : Nat) : Int) = (i : Int) + 1 := by omega
      rw [e1]; exact he'
    · have hb' : b < s.heap.objs.size := by
        have e' : b = e ∨ b = it := by simpa using hb
        rcases e' with z | z
        · rw [z]; exact hel
        · rw [z]; exact hil
      rw [upd_ne (Nat.ne_of_lt hb')]
      exact (hf b hb).1
  done := by
    intro X hP hw hK hc i pins s σ H E I hf st hg
    subst hP hw hK
    obtain ⟨⟨old, he⟩, hit, hne⟩ := st
    obtain ⟨xs, hq, hx⟩ := hg
    obtain ⟨its, rv, p, hz⟩ := I.tuple hq
    obtain ⟨f0, f1, f2, f3, f4, f5⟩ := hf it (by simp)
    obtain ⟨ob, hob, hcb, nb, hdb⟩ := id (show s.heap.IsTuple a its.toArray from p)
    have hai : a ≠ it := fun z => by
      subst z
      obtain ⟨o2, q1, q2, _⟩ := hit
      rw [q1] at hob; cases hob; rw [q2] at hcb; exact absurd (Value.type.inj hcb) (by decide)
    have D := Draws.tuple (prog := X.prog) (w := X.w) (A := X.A.in1) (I.ok.hd hc) it a hai its.toArray
    have hl := rv.length
    -- the iterator's own place lies at the end or beyond: both read as its end
    exact enum_end_tup (I.ok.hd hc) he hit (show s.heap.IsTuple a its.toArray from p) (by simp; omega) fun h' eb => ⟨rfl, I.turned (t' := s.toks) (fun b o hb q => eb b o hb q) f0 f1 f3 f4 f5⟩
  self := fun A i s Q E st h => let ⟨⟨_, he⟩, _⟩ := st; wpAny_pyIter_enum he h
end ET
namespace ET
open PySem PySem.Spec PyProof.Rows L2
def iEnumT (K : PySem.W.Frag) (ta : TA) : TI := fun σ H R => ta σ H fun vs H1 => ∃ a xs, vs = [.ref a] ∧ SqT K H1 a xs ∧ R (ItE K a) H1
theorem pi_enumT {X : Cx} {e : Expr} {ta : TA} {p pos tpos : Pos} {elts : List Expr} {kk : Nat} (hg : Gl X "enumerate") (hm : X.mg "enumerate" = none) (ha : PA X [e] ta) (hs : starEach [e] X.env = [(false, eval e X.env)] := by rfl) :
    PI X (.Tuple elts kk tpos) (.Call (.Name "enumerate" p) [e] [] pos) (iEnumT X.K ta) := by
  refine ⟨fun pins s σ H R I h => ?_⟩
  refine Call_ (ld_blt I hg hm boot_enumerate (PyProof.Rows.callWith_type1 (thn (ha.run pos pins s σ H _ I h) fun us s1 ⟨vs, H1, I1, r1, q1⟩ => ?_) hs rfl))
  obtain ⟨a, xs, ex, hq, q⟩ := q1
  subst ex
  cases r1 with
  | cons r rr =>
    cases rr
    cases r
    obtain ⟨its, rv, p', hz⟩ := I1.tuple hq
    refine call_enumerate_tup (show s1.heap.IsTuple a its.toArray from p') fun h' he hit hsz hk => wpAny_pyIter_enum he ?_
    have I2 : Inv X pins σ H1 { s1 with heap := h' } := I1.kept (t' := s1.toks) hk
    refine ⟨s1.heap.objs.size + 1, [s1.heap.objs.size + 1, s1.heap.objs.size], _, _, H1, rfl, I2, turn_enumT a (s1.heap.objs.size + 1) s1.heap.objs.size, ⟨⟨.none, he⟩, hit, Nat.succ_ne_self _⟩, fun b hb => ?_, q⟩
    have e' : b = s1.heap.objs.size + 1 ∨ b = s1.heap.objs.size := by simpa using hb
    have hle : s1.heap.objs.size ≤ b := by
      rcases e' with z | z
      · rw [z]; exact Nat.le_add_right _ _
      · rw [z]; exact Nat.le_refl _
    exact I1.fpOk hle (I1.hok.fresh hle)
end ET
namespace AB
open PySem PySem.Spec PyProof.Rows L2
def pairsFrom : Nat → List A → List A
  | _, [] => []
  | n, x :: xs => .tup [.int (n : Nat), x] :: pairsFrom (n + 1) xs
theorem pairsFrom_get : ∀ (xs : List A) (n i : Nat), (pairsFrom n xs)[i]? = xs[i]?.map fun x => .tup [.int ((n + i : Nat) : Int), x]
  | [], _, _ => by simp [pairsFrom]
  | x :: xs, n, 0 => by simp [pairsFrom]
  | x :: xs, n, i + 1 => by
    simp only [pairsFrom, List.getElem?_cons_succ]
    rw [pairsFrom_get xs (n + 1) i]
    have : n + 1 + i = n + (i + 1) := by omega
    rw [this]
def enumOf (as : List A) (M : Store) : EO Src := match as with
  | [.tup xs] => .ok (.snap (pairsFrom 0 xs)) M
  | [.lst l] => match listAt M l with
    | some _ => .ok (.enl l) M
    | none => .bad
  | _ => .bad
def iEnumA (f : EFs) : EI := fun τ M => (f τ M).bind enumOf
section
variable {X : Cx} {W : WR} {pos : Pos}
theorem srcJ_enl {w : Amb} {ρ : List Addr} {H : Hp} {l : Nat} {a : Addr} (ha : ρ[l]? = some a) : SrcJ w ρ H (.enl l) (Ite w.K a) := by
  intro ρ2 H2 M2 i x g m
  cases el : listAt M2 l with
  | none => simp only [Src.at, el]; trivial
  | some xs =>
    obtain ⟨vs, q, is⟩ := m.list (x.get ha) el
    cases e : xs[i]? with
    | none =>
      simp only [Src.at, el, Option.map_some, e, Option.map_none]
      exact ⟨vs, q, by rw [← is.length]; exact List.getElem?_eq_none_iff.mp e⟩
    | some t =>
      simp only [Src.at, el, Option.map_some, e]
      obtain ⟨v, hv, iv⟩ := is.get e
      refine ⟨⟨vs, v, q, hv⟩, fun w H3 ⟨T, y, e1, hT, e2, hy⟩ => ?_⟩
      have := hy vs q
      rw [hv] at this
      obtain rfl := Option.some.inj this
      subst e1 e2
      exact ⟨.new hT, m.new hT, .tup upd_same (.cons (.int _) (.cons (iv.mono (.refl _) (.new hT)) .nil))⟩
theorem srcJ_ent {K : PySem.W.Frag} {ρ : List Addr} {H : Hp} {xs : List A} {vs : List V} {a : Addr} (ha : H a = some (.tup vs)) (is : IsAll ρ H xs vs) : SrcJ w ρ H (.snap (pairsFrom 0 xs)) (ET.ItE K a) := by
  intro ρ2 H2 M2 i x g m
  have h2 : SqT K H2 a vs := .inl (.inl (g _ _ (.tup _) ha))
  cases e : xs[i]? with
  | none =>
    simp only [Src.at, pairsFrom_get, e, Option.map_none]
    exact ⟨vs, h2, by rw [← is.length]; exact List.getElem?_eq_none_iff.mp e⟩
  | some t =>
    simp only [Src.at, pairsFrom_get, e, Option.map_some]
    obtain ⟨v, hv, iv⟩ := is.get e
    refine ⟨⟨vs, v, h2, hv⟩, fun w H3 ⟨T, y, e1, hT, e2, hy⟩ => ?_⟩
    have := hy vs h2
    rw [hv] at this
    obtain rfl := Option.some.inj this
    subst e1 e2
    refine ⟨.new hT, m.new hT, .tup upd_same (.cons ?_ (.cons ((iv.mono x g).mono (.refl _) (.new hT)) .nil))⟩
    have : (0 + i : Nat) = i := by omega
    rw [this]
    exact .int _
theorem ai_enum {e : Expr} {fs : EFs} {p tpos : Pos} {elts : List Expr} {kk : Nat} (hm : X.mg "enumerate" = none) (ha : AA X W [e] fs) (hg : Gl X "enumerate" := by rfl) (hs : starEach [e] X.env = [(false, eval e X.env)] := by rfl) :
    AI X W (.Tuple elts kk tpos) (.Call (.Name "enumerate" p) [e] [] pos) (iEnumA fs) := ((pi_enum hg hm ha hs).or (ET.pi_enumT hg hm ha hs)).pre fun σ H R h => by
  obtain ⟨τ, M, ρ, rs, rm, r⟩ := h
  unfold iEnumA at r
  cases ef : fs τ M with
  | ok as M1 =>
    rw [ef] at r
    have r : RE (X.gx W.Tb) W σ ρ H (relJ (X.am W.Tb)) (enumOf as M1) R := r
    unfold enumOf at r
    split at r
    · refine .inr ⟨τ, M, ρ, rs, rm, ?_⟩
      rw [ef]
      intro vs H1 ρ1 x g m i
      cases i with
      | cons i1 i =>
        cases i
        cases i1 with
        | tup ht it => exact ⟨_, _, rfl, .inl (.inl ht), r.okv x g m (srcJ_ent ht it)⟩
    · rename_i l
      refine .inl ⟨τ, M, ρ, rs, rm, ?_⟩
      rw [ef]
      intro vs H1 ρ1 x g m i
      cases i with
      | cons i1 i =>
        cases i
        cases i1 with
        | lst hl =>
          split at r
          · rename_i xs el
            obtain ⟨ws, q, _⟩ := m.list hl el
            exact ⟨_, _, rfl, q, r.okv x g m (srcJ_enl hl)⟩
          · exact r.elim
    · exact r.elim
  | ex en M1 => rw [ef] at r; exact .inl ⟨τ, M, ρ, rs, rm, by rw [ef]; exact r⟩
  | bad => rw [ef] at r; exact r.elim
end
end AB
/-! AB9: dicts of nested keys; lengths of sets; three names at once -/
namespace AB
open PySem PySem.Spec PyProof.Rows L2
mutual
def nkey? : A → Option NestedKey
  | .non => some .none
  | .int i => some (.num i)
  | .str x => some (.text x)
  | .tup xs => (nkeys? xs).map .tup
  | _ => none
def nkeys? : List A → Option (List NestedKey)
  | [] => some []
  | x :: xs => match nkey? x, nkeys? xs with
    | some k, some ks => some (k :: ks)
    | _, _ => none
end
mutual
theorem nkey_of : ∀ (a : A) (k : NestedKey), nkey? a = some k → ofN k = a
  | .non, k, e => by simp only [nkey?] at e; cases e; rfl
  | .int i, k, e => by simp only [nkey?] at e; cases e; rfl
  | .str i, k, e => by simp only [nkey?] at e; cases e; rfl
  | .tup xs, k, e => by
    simp only [nkey?] at e
    cases e1 : nkeys? xs with
    | none => rw [e1] at e; cases e
    | some ks =>
      rw [e1] at e; cases e
      simp only [ofN]
      rw [nkeys_of xs ks e1]
  | .bl _, k, e => by simp only [nkey?] at e; cases e
  | .lst _, k, e => by simp only [nkey?] at e; cases e
  | .dct _, k, e => by simp only [nkey?] at e; cases e
  | .ty _, k, e => by simp only [nkey?] at e; cases e
theorem nkeys_of : ∀ (as : List A) (ks : List NestedKey), nkeys? as = some ks → ofN.ofNs ks = as
  | [], ks, e => by simp only [nkeys?] at e; cases e; rfl
  | x :: xs, ks, e => by
    simp only [nkeys?] at e
    cases e1 : nkey? x with
    | none => rw [e1] at e; cases e
    | some k =>
      cases e2 : nkeys? xs with
      | none => rw [e1, e2] at e; cases e
      | some ks' =>
        rw [e1, e2] at e; cases e
        simp only [ofN.ofNs]
        rw [nkey_of x k e1, nkeys_of xs ks' e2]
end
section
variable {P : Program} {w : World} {ρ : List Addr} {H : Hp} {h : Heap}
mutual
theorem nested_of (ok : HOk P w H h) : ∀ (k : NestedKey) (v : V) (u : Value), Is ρ H (ofN k) v → RelV v u → NestedIs h k u
  | .none, _, _, i, r => by simp only [ofN] at i; cases i; cases r; exact .none
  | .num j, _, _, i, r => by simp only [ofN] at i; cases i; obtain ⟨t, rfl⟩ := r; exact .int _ _
  | .text j, _, _, i, r => by simp only [ofN] at i; cases i; obtain ⟨t, rfl⟩ := r; exact .text _ _
  | .tup ks, _, _, i, r => by
    simp only [ofN] at i
    cases i with
    | tup hp is =>
      cases r
      obtain ⟨_, its, rv, o, h1, h2, n, h3⟩ := ok _ _ hp
      exact .tup h1 h2 h3 (nesteds_of ok ks _ _ is (by simpa using rv))
theorem nesteds_of (ok : HOk P w H h) : ∀ (ks : List NestedKey) (vs : List V) (us : List Value), IsAll ρ H (ofN.ofNs ks) vs → Vals vs us → NestedAll h ks us
  | [], _, _, i, r => by simp only [ofN.ofNs] at i; cases i; cases r; exact .nil
  | k :: ks, _, _, i, r => by
    simp only [ofN.ofNs] at i
    cases i with
    | cons i1 i2 =>
      cases r with
      | cons r1 r2 => exact .cons (nested_of ok k _ _ i1 r1) (nesteds_of ok ks _ _ i2 r2)
end
/-- the rows of such a dict -/
def rowsN : List NestedKey → List Addr → List Value → List (NestedKey × Addr × Value)
  | k :: ks, b :: bs, u :: us => (k, b, u) :: rowsN ks bs us
  | _, _, _ => []
theorem rowsN_keys : ∀ {ks : List NestedKey} {bs : List Addr} {us : List Value}, ks.length = bs.length → ks.length = us.length → (rowsN ks bs us).map (·.1) = ks
  | [], _, _, _, _ => by simp [rowsN]
  | k :: ks, [], _, h, _ => by simp at h
  | k :: ks, b :: bs, [], _, h => by simp at h
  | k :: ks, b :: bs, u :: us, h1, h2 => by simp only [rowsN, List.map_cons]; rw [rowsN_keys (by simpa using h1) (by simpa using h2)]
theorem rowsN_len {ks : List NestedKey} {bs : List Addr} {us : List Value} (h1 : ks.length = bs.length) (h2 : ks.length = us.length) : (rowsN ks bs us).length = ks.length := by
  have := congrArg List.length (rowsN_keys h1 h2)
  simpa using this
theorem rowsN_entries {prog : Program} : ∀ {ks : List NestedKey} {bs : List Addr} {us : List Value}, (((ks.zip bs).zip us).map fun p => ({ hash := p.1.1.hash w, key := .ref p.1.2, val := p.2 } : DictEntry)) = (rowsN ks bs us).map (entryOfKey (nestedKind prog w))
  | [], _, _ => by simp [rowsN]
  | k :: ks, [], _ => by simp [rowsN]
  | k :: ks, b :: bs, [] => by simp [rowsN]
  | k :: ks, b :: bs, u :: us => by
    simp only [rowsN, List.zip_cons_cons, List.map_cons]
    rw [rowsN_entries (prog := prog) (ks := ks) (bs := bs) (us := us)]
    rfl
theorem rowsN_append : ∀ {ks : List NestedKey} {bs : List Addr} {us : List Value} {k : NestedKey} {b : Addr} {u : Value}, ks.length = bs.length → ks.length = us.length → rowsN (ks ++ [k]) (bs ++ [b]) (us ++ [u]) = rowsN ks bs us ++ [(k, b, u)]
  | [], [], [], _, _, _, _, _ => by simp [rowsN]
  | [], _ :: _, _, _, _, _, h, _ => by simp at h
  | [], [], _ :: _, _, _, _, _, h => by simp at h
  | k :: ks, [], _, _, _, _, h, _ => by simp at h
  | k :: ks, b :: bs, [], _, _, _, _, h => by simp at h
  | k :: ks, b :: bs, u :: us, _, _, _, h1, h2 => by simp only [List.cons_append, rowsN]; rw [rowsN_append (by simpa using h1) (by simpa using h2)]
theorem rowsN_is (ok : HOk P w H h) : ∀ {ks : List NestedKey} {bs : List Addr} {us : List Value}, IsAll ρ H (ks.map ofN) (bs.map V.ref) → (∀ k ∈ ks, k.depth ≤ 8) → ∀ x ∈ rowsN ks bs us, (nestedKind P w).is h x.1 x.2.1
  | [], _, _, _, _, x, hx => by simp [rowsN] at hx
  | k :: ks, [], _, _, _, x, hx => by simp [rowsN] at hx
  | k :: ks, b :: bs, [], _, _, x, hx => by simp [rowsN] at hx
  | k :: ks, b :: bs, u :: us, i, d, x, hx => by
    simp only [rowsN, List.mem_cons] at hx
    cases i with
    | cons i1 i2 =>
      rcases hx with rfl | hx
      · exact ⟨nested_of ok k _ _ i1 rfl, d k List.mem_cons_self⟩
      · exact rowsN_is ok i2 (fun k' hk => d k' (List.mem_cons_of_mem _ hk)) x hx
theorem rowsN_at {k : NestedKey} : ∀ {kvs : List (NestedKey × A)} {bs : List Addr} {vs : List V} {us : List Value}, kvs.length = bs.length → IsAll ρ H (kvs.map (·.2)) vs → Vals vs us →
    (valA kvs k = none ∧ atKey (rowsN (kvs.map (·.1)) bs us) k = none) ∨ ∃ a v b u, valA kvs k = some a ∧ atKey (rowsN (kvs.map (·.1)) bs us) k = some (b, u) ∧ Is ρ H a v ∧ RelV v u
  | [], _, _, _, _, _, _ => .inl ⟨rfl, by simp [rowsN, atKey]⟩
  | (j, a) :: kvs, [], _, _, h, _, _ => by simp at h
  | (j, a) :: kvs, b :: bs, v :: vs, us0, h, .cons i is, rv => by
    obtain ⟨u, us, rfl, r, rs⟩ : ∃ u us, us0 = u :: us ∧ RelV v u ∧ Vals vs us := by
      cases rv with
      | cons r rs => exact ⟨_, _, rfl, r, rs⟩
    by_cases e : j = k
    · subst e
      exact .inr ⟨a, v, b, u, by simp [valA], by simp [rowsN, atKey], i, r⟩
    · have ih := rowsN_at (k := k) (by simpa using h) is rs
      have e1 : valA ((j, a) :: kvs) k = valA kvs k := by simp [valA, List.find?_cons, e]
      rw [e1]
      rcases ih with ⟨h1, h2⟩ | ⟨a', v', b', u', h1, h2, h3⟩
      · exact .inl ⟨h1, by simpa [rowsN, atKey, List.find?_cons, e] using h2⟩
      · exact .inr ⟨a', v', b', u', h1, by simpa [rowsN, atKey, List.find?_cons, e] using h2, h3⟩
end
section
variable {X : Cx} {W : WR} {pos : Pos} {a b e : Expr} {es : List Expr} {f g : EF} {fs : EFs}
/-- such a dict in the state -/
theorem nest_dict {pins : List (Addr × Obj)} {σ : L2.St} {H : Hp} {s : Shared} {ρ : List Addr} {M : Store} (I : L2.Inv X pins σ H s) (m : RM (X.am W.Tb) ρ H M) {d : Nat} {p : Addr} {kvs : List (NestedKey × A)} (hp : ρ[d]? = some p) (hc : M[d]? = some (.dN kvs)) :
    ∃ bs vs us, H p = some (nestO X.w p ((kvs.map (·.1)).zip bs) vs) ∧ IsAll ρ H (kvs.map fun kv => ofN kv.1) (bs.map V.ref) ∧ IsAll ρ H (kvs.map (·.2)) vs ∧ (∀ kv ∈ kvs, kv.1.depth ≤ 8) ∧ Vals vs us ∧
      kvs.length = bs.length ∧ kvs.length = us.length ∧ kvs.length ≤ sizeLine ∧ (p == sysModules) = false ∧ (kvs.map (·.1)).Nodup ∧ s.heap.DictOfH (nestedKind X.prog X.w) p (rowsN (kvs.map (·.1)) bs us) := by
  obtain ⟨bs, vs, h, ik, iv, dp⟩ := m.at_ _ _ _ hp hc
  obtain ⟨⟨hz, hd, hl, hn, us, rv, o, es, ep, ho, hx, hdt, he⟩, _, _⟩ := I.hok _ _ h
  have l1 : kvs.length = bs.length := by have := ik.length; simpa using this
  have l2 : kvs.length = vs.length := by have := iv.length; simpa using this
  have l3 : kvs.length = us.length := l2.trans rv.length
  have hk : ((kvs.map (·.1)).zip bs).map (·.1) = kvs.map (·.1) := map_zip_fst (by simpa using l1)
  refine ⟨bs, vs, us, h, ik, iv, dp, rv, l1, l3, ?_, hd, by rw [← hk]; exact hn, ?_⟩
  · have := hz; simp only [List.length_zip, List.length_map] at this; omega
  · refine ⟨o, es, ep, ho, hx, hdt, he.trans rowsN_entries, ?_, ?_⟩
    · refine rowsN_is (ρ := ρ) (H := H) I.hok (by rw [List.map_map]; exact ik) fun k hk => ?_
      obtain ⟨kv, h1, rfl⟩ := List.mem_map.mp hk
      exact dp kv h1
    · rw [rowsN_keys (by simpa using l1) (by simpa using l3), ← hk]; exact hn
def eNewN : EF := fun _ M => .ok (.dct M.length) (M ++ [.dN []])
theorem ae_newN : AE X W (.Dict [] [] pos) eNewN := ⟨fun pins s σ H Q I h => by
  obtain ⟨τ, M, ρ, rs, rm', r⟩ := h
  have hn := I.hok.fresh (Nat.le_refl s.heap.objs.size)
  have new : ObjOk X.prog X.w (upd H s.heap.objs.size (nestO X.w s.heap.objs.size [] [])) (s.heap.push { cls := .type "dict", data := .dict #[] }) s.heap.objs.size (nestO X.w s.heap.objs.size [] []) := by
    refine ⟨⟨Nat.zero_le _, beq_eq_false_iff_ne.mpr (Ne.symm (Nat.ne_of_lt I.big)), rfl, List.nodup_nil, [], .nil, _, #[], 0, Heap.get?_push_size _ rfl, ⟨rfl, rfl, rfl⟩, rfl, rfl⟩, ⟨_, Heap.get?_push_size _ rfl⟩, ?_⟩
    rintro h1 h2 ⟨q1, q2, q3, q4, us, q5, o, es, ep, q6, q7⟩ k
    exact ⟨q1, q2, q3, q4, us, q5, o, es, ep, k o q6, q7⟩
  exact wpAny_Dict_empty ⟨.ref s.heap.objs.size, _, I.laid (a := s.heap.objs.size) (t' := s.toks) (fun _ _ q => Heap.get?_push_of_some _ q) (Nat.le_refl _) new, rfl,
    r.okv (.snoc _ _) (.new hn) (rm'.push hn ⟨[], [], upd_same, .nil, .nil, fun _ z => by cases z⟩) (.dct (by rw [← rm'.len]; simp))⟩⟩
def oSetd : OM := fun x as M => match x, as with
  | .dct d, [k, y] => match M[d]? with
    | some (.dN kvs) => match nkey? k with
      | some (.tup js) => if (NestedKey.tup js).depth ≤ 8 ∧ kvs.length < sizeLine then match valA kvs (.tup js) with
          | some z => some (z, M)
          | none => some (y, M.set d (.dN (kvs ++ [(.tup js, y)])))
        else none
      | _ => none
    | _ => none
  | _, _ => none
theorem mt_setd (hu : X.A.units + 9 < cLine) : MtR X "dict.setdefault" (rm (X.am W.Tb) oSetd) := by
  intro pins s σ H x xs v us Q I rx rxs h
  obtain ⟨a, as, M, ρ, ia, is, m, ro⟩ := h
  unfold oSetd at ro
  split at ro
  · rename_i d k y
    split at ro
    · rename_i kvs ec
      split at ro
      · rename_i js ek
        split at ro
        · rename_i hz
          cases ia with
          | dct hp =>
            cases rx
            cases is with
            | @cons _ kv _ _ i1 is =>
              cases is with
              | @cons _ yv _ _ i2 is =>
                cases is
                cases rxs with
                | cons r1 rxs =>
                  cases rxs with
                  | cons r2 rxs =>
                    cases rxs
                    rename_i pa u1 u2
                    have ik : Is ρ H (ofN (.tup js)) kv := by rw [nkey_of _ _ ek]; exact i1
                    obtain ⟨kb, rfl⟩ : ∃ kb, kv = .ref kb := by simp only [ofN] at ik; cases ik with | tup h1 h2 => exact ⟨_, rfl⟩
                    cases r1
                    obtain ⟨bs, vs, us', hh, iks, ivs, dp, rv, l1, l3, hsz, hsm, hnd, D⟩ := nest_dict I m hp ec
                    have hin : Around.units X.A.in1 + 8 < cLine := by show X.A.units + 1 + 8 < cLine; omega
                    have keyIs : (nestedKind X.prog X.w).is s.heap (.tup js) kb := ⟨nested_of I.hok _ _ _ ik rfl, hz.1⟩
                    have rl : (rowsN (kvs.map (·.1)) bs us').length = kvs.length := by rw [rowsN_len (by simpa using l1) (by simpa using l3)]; simp
                    refine call_setdefault_heap (hsz := by rw [rl]; exact hsz) hin keyIs hsm D (fun p hpk => ?_) (fun hno h' D' sb => ?_)
                    · rcases rowsN_at (k := .tup js) l1 ivs rv with ⟨_, e2⟩ | ⟨z, zv, b', u', e1, e2, iz, rz⟩
                      · rw [e2] at hpk; cases hpk
                      · rw [e2] at hpk; cases hpk
                        rw [e1] at ro
                        exact ⟨zv, H, I.tok _, rz, ro.val m iz⟩
                    · rcases rowsN_at (k := .tup js) l1 ivs rv with ⟨e1, e2⟩ | ⟨z, zv, b', u', e1, e2, _⟩
                      · rw [e1] at ro
                        have hk1 : (kvs.map (·.1)).length = bs.length := by simpa using l1
                        have hv1 : (kvs.map (·.1)).length = us'.length := by simpa using l3
                        rw [storedH_new hno, ← rowsN_append hk1 hv1] at D'
                        obtain ⟨o, es, ep, ho, hx, hdt, he, _, hn2⟩ := D'
                        have zk : (kvs.map (·.1) ++ [NestedKey.tup js]).zip (bs ++ [kb]) = ((kvs ++ [(NestedKey.tup js, y)]).map (·.1)).zip (bs ++ [kb]) := by rw [List.map_append]; rfl
                        have lk : (kvs.map (·.1) ++ [NestedKey.tup js]).length = (bs ++ [kb]).length := by simp [l1]
                        have fstk : ((kvs.map (·.1) ++ [NestedKey.tup js]).zip (bs ++ [kb])).map (·.1) = kvs.map (·.1) ++ [NestedKey.tup js] := map_zip_fst lk
                        have new : ObjOk X.prog X.w (upd H pa (nestO X.w pa ((kvs.map (·.1) ++ [NestedKey.tup js]).zip (bs ++ [kb])) (vs ++ [yv]))) h' pa (nestO X.w pa ((kvs.map (·.1) ++ [NestedKey.tup js]).zip (bs ++ [kb])) (vs ++ [yv])) := by
                          refine ⟨⟨?_, hsm, ?_, ?_, us' ++ [u2], rv.append (.cons r2 .nil), o, es, ep, ho, hx, hdt, he.trans rowsN_entries.symm⟩, ⟨o, ho⟩, ?_⟩
                          · simp only [List.length_zip, List.length_append, List.length_map, List.length_singleton]; omega
                          · have := rv.length
                            simp only [List.length_zip, List.length_append, List.length_map, List.length_singleton]; omega
                          · rw [fstk]
                            rw [rowsN_keys lk (by simp [l3])] at hn2
                            exact hn2
                          · rintro h1 h2 ⟨q1, q2, q3, q4, us, q5, o, es, ep, q6, q7⟩ k
                            exact ⟨q1, q2, q3, q4, us, q5, o, es, ep, k o q6, q7⟩
                        have I2 := I.write (e := pa) (t' := s.toks + (nestedKind X.prog X.w).draws (.tup js)) (by rw [hh]; trivial) (.inl rfl) (fun b u hb hu' => (sb.2 b hb).trans hu') ⟨o, ho⟩ new
                        have g := m.growSet (o := nestO X.w pa ((kvs.map (·.1) ++ [NestedKey.tup js]).zip (bs ++ [kb])) (vs ++ [yv])) hp ec
                        refine ⟨yv, _, I2, r2, ro _ _ ρ (.refl _) g (m.set hp ec ⟨bs ++ [kb], vs ++ [yv], by rw [upd_same, zk], ?_, ?_, ?_⟩) (i2.mono (.refl _) g)⟩
                        · rw [List.map_append, List.map_append]
                          exact (iks.mono (.refl _) g).append (.cons (ik.mono (.refl _) g) .nil)
                        · rw [List.map_append]
                          exact (ivs.mono (.refl _) g).append (.cons (i2.mono (.refl _) g) .nil)
                        · intro kv hkv
                          rcases List.mem_append.mp hkv with q | q
                          · exact dp kv q
                          · simp at q; subst q; exact hz.1
                      · rw [e2] at hno; cases hno
        · exact ro.elim
      · exact ro.elim
    · exact ro.elim
  · exact ro.elim
def isN (M : Store) : A → Bool
  | .dct d => match M[d]? with
    | some (.dN _) => true
    | _ => false
  | _ => false
def eMethN (o : OM) (f : EF) (fs : EFs) : EF := fun τ M => (f τ M).bind fun a M1 => if isN M1 a = true then (fs τ M1).bind fun as M2 => toE (o a as M2) else .bad
theorem ae_methN {o : OM} {name : Str} {id : String} {apos cpos : Pos} (slot : Slot "dict" name id) (hty : typeOf (.builtin id) = pure (.type "method_descriptor")) (hm : MtR X id (rm (X.am W.Tb) o)) (ho : AE X W a f) (ha : AA X W (e :: es) fs)
    (hbase : attributeBase a name X.env (eval a X.env) = eval a X.env := by rfl)
    (hfew : ((backTo cpos (starEach (e :: es) X.env)).all (fun x => !x.1) && (backToKw cpos (keywordEach [] X.env)).all (fun x => x.1.isSome)
      && decide ((e :: es).length + ([] : List Keyword).length + (if ([] : List Keyword).isEmpty then 0 else 1) < 30)) = true := by rfl)
    (hline : (apos.endLine == cpos.line) = true := by rfl) (hs : starEach (e :: es) X.env = (false, eval e X.env) :: starEach es X.env := by rfl) (hplain : (backTo cpos (starEach es X.env)).any (·.1) = false := by rfl) :
    AE X W (.Call (.Attribute a name apos) (e :: es) [] cpos) (eMethN o f fs) := by
  refine ⟨fun pins s σ H Q I h => ?_⟩
  have h2 := seqG (G := (X.gx W.Tb)) (W := W) Is h
  refine wpAny_Call_method_late hbase hfew hline rfl (thn (ho.run pins s σ H _ I h2) fun v s1 ⟨x, H1, I1, r1, q1⟩ => ?_)
  obtain ⟨τ, M, ρ, c, rs, rm', i, r⟩ := q1
  have r : RE (X.gx W.Tb) W σ ρ H1 Is (if isN M c = true then (fs τ M).bind fun as M2 => toE (o c as M2) else .bad) Q := r
  split at r
  · rename_i hN
    have ty : s1.TypeIs v "dict" ∧ ∀ p, v = .ref p → ∃ ob, s1.heap.get? p = some ob ∧ ob.dict = none := by
      cases i with
      | dct hp =>
        simp only [isN] at hN
        split at hN
        · rename_i kvs ec
          cases r1
          obtain ⟨bs, vs, us, _, _, _, _, _, _, _, _, _, _, o', es, ep, h1, hx, _⟩ := nest_dict I1 rm' hp ec
          exact ⟨⟨o', h1, hx.1⟩, fun p ep => by cases ep; exact ⟨o', h1, hx.2.1⟩⟩
        · cases hN
      | _ => simp only [isN] at hN; cases hN
    refine ⟨"dict", id, PySem.F.plainAttrs_dict, slot, hty, ty.1, ty.2, ?_⟩
    have hA := ha.run cpos pins s1 σ H1 (fun xs H2 => (rm (X.am W.Tb) o) x xs H2 Q) I1 ⟨τ, M, ρ, rs, rm', by
      cases e2 : fs τ M with
      | ok as M2 =>
        rw [e2] at r
        intro vs H2 ρ2 x2 g m is
        have r := RE.mono r x2 g
        exact ⟨c, as, M2, ρ2, i.mono x2 g, is, m, RO.of r⟩
      | ex en M2 => rw [e2] at r; exact r
      | bad => rw [e2] at r; exact r⟩
    rw [hs] at hA ⊢
    refine Calls.callWith_builtin (by show (false || (backTo cpos (starEach es X.env)).any (·.1)) = false; rw [hplain] <;> rfl) (Calls.evalArgs_plain ?_)
    exact thn hA fun us s2 ⟨vs, H2, I2, r2, q2⟩ => hm pins s2 σ H2 x vs v us Q I2 r1 r2 q2
  · exact r.elim
theorem ae_setd {e2 : Expr} {apos cpos : Pos} (hu : X.A.units + 9 < cLine) (ho : AE X W a f) (ha : AA X W [e, e2] fs) (hbase : attributeBase a "setdefault" X.env (eval a X.env) = eval a X.env := by rfl)
    (hfew : ((backTo cpos (starEach [e, e2] X.env)).all (fun x => !x.1) && (backToKw cpos (keywordEach [] X.env)).all (fun x => x.1.isSome)
      && decide ([e, e2].length + ([] : List Keyword).length + (if ([] : List Keyword).isEmpty then 0 else 1) < 30)) = true := by rfl)
    (hline : (apos.endLine == cpos.line) = true := by rfl) (hs : starEach [e, e2] X.env = (false, eval e X.env) :: starEach [e2] X.env := by rfl) (hplain : (backTo cpos (starEach [e2] X.env)).any (·.1) = false := by rfl) :
    AE X W (.Call (.Attribute a "setdefault" apos) [e, e2] [] cpos) (eMethN oSetd f fs) := ae_methN PySem.F.slot_dict_setdefault PySem.F.type_dict_setdefault (mt_setd hu) ho ha hbase hfew hline hs hplain
/-- len, of such dicts too -/
def oLenN : On := fun as M => match as with
  | [.dct d] => match M[d]? with
    | some (.dN kvs) => some (.int (kvs.length : Nat), M)
    | _ => oLen as M
  | _ => oLen as M
theorem cr_lenN : CallR X (.builtin "len") (rn (X.am W.Tb) oLenN) := by
  intro pins s σ H xs us Q I r h
  obtain ⟨as, M, ρ, is, m, ro⟩ := h
  unfold oLenN at ro
  split at ro
  · rename_i d
    split at ro
    · rename_i kvs ec
      cases is with
      | cons i1 is =>
        cases is
        cases i1 with
        | dct hp =>
          obtain ⟨u, rfl, rx⟩ := vals1 r
          obtain rfl : u = .ref _ := rx
          obtain ⟨bs, vs, us', hh, iks, ivs, dp, rv, l1, l3, hsz, hsm, hnd, D⟩ := nest_dict I m hp ec
          have rl : (rowsN (kvs.map (·.1)) bs us').length = kvs.length := by rw [rowsN_len (by simpa using l1) (by simpa using l3)]; simp
          refine call_len_dictH hsm D (by rw [rl]; rw [sizeLine_eq] at hsz; omega) ?_
          rw [rl]
          exact ⟨.int (kvs.length : Nat), H, I.tok _, ⟨_, rfl⟩, ro.val m (.int _)⟩
    · exact cr_len pins s σ H xs us Q I r ⟨_, M, ρ, is, m, ro⟩
  · exact cr_len pins s σ H xs us Q I r ⟨_, M, ρ, is, m, ro⟩
end
end AB
/-! AB10: sorted -/
namespace SX
open PySem PySem.Spec PyProof.Rows
/-- the order of tuples of ints -/
def ltL : List Int → List Int → Bool
  | [], [] => false
  | [], _ :: _ => true
  | _ :: _, [] => false
  | x :: xs, y :: ys => if x = y then ltL xs ys else decide (x < y)
theorem ltL_asym : ∀ {xs ys : List Int}, ltL xs ys = true → ltL ys xs = false
  | [], [], h => by simp [ltL] at h
  | [], _ :: _, _ => rfl
  | _ :: _, [], h => by simp [ltL] at h
  | x :: xs, y :: ys, h => by
    unfold ltL at h ⊢
    by_cases e : x = y
    · rw [if_pos e] at h; rw [if_pos e.symm]; exact ltL_asym h
    · rw [if_neg e] at h; rw [if_neg (Ne.symm e)]
      have := of_decide_eq_true h
      exact decide_eq_false (by omega)
theorem ltL_ntr : ∀ {xs ys zs : List Int}, ltL xs ys = false → ltL ys zs = false → ltL xs zs = false
  | [], [], [], _, _ => rfl
  | [], [], _ :: _, _, h => by simp [ltL] at h
  | [], _ :: _, _, h, _ => by simp [ltL] at h
  | _ :: _, _, [], _, _ => by simp [ltL]
  | _ :: _, [], _ :: _, _, h => by simp [ltL] at h
  | x :: xs, y :: ys, z :: zs, h1, h2 => by
    unfold ltL at h1 h2 ⊢
    by_cases e1 : x = y
    · rw [if_pos e1] at h1
      by_cases e2 : y = z
      · rw [if_pos e2] at h2; rw [if_pos (e1.trans e2)]; exact ltL_ntr h1 h2
      · rw [if_neg e2] at h2; rw [if_neg (fun q => e2 (e1.symm.trans q))]
        have := of_decide_eq_false h2
        exact decide_eq_false (by omega)
    · rw [if_neg e1] at h1
      have a := of_decide_eq_false h1
      by_cases e2 : y = z
      · rw [if_pos e2] at h2; rw [if_neg (fun q => e1 (q.trans e2.symm))]
        exact decide_eq_false (by omega)
      · rw [if_neg e2] at h2
        have b := of_decide_eq_false h2
        by_cases e3 : x = z
        · omega
        · rw [if_neg e3]; exact decide_eq_false (by omega)
theorem ltL_anti : ∀ {xs ys : List Int}, ltL xs ys = false → ltL ys xs = false → xs = ys
  | [], [], _, _ => rfl
  | [], _ :: _, h, _ => by simp [ltL] at h
  | _ :: _, [], _, h => by simp [ltL] at h
  | x :: xs, y :: ys, h1, h2 => by
    unfold ltL at h1 h2
    by_cases e : x = y
    · rw [if_pos e] at h1; rw [if_pos e.symm] at h2
      rw [e, ltL_anti h1 h2]
    · rw [if_neg e] at h1; rw [if_neg (Ne.symm e)] at h2
      have a := of_decide_eq_false h1
      have b := of_decide_eq_false h2
      omega
theorem swo_L (k : Value → List Int) : SrtO.Swo fun v u => ltL (k v) (k u) := ⟨fun _ _ h => ltL_asym h, fun _ _ _ h1 h2 => ltL_ntr h2 h1⟩
theorem ltL_yes {x y : Int} {xs ys : List Int} (e : x = y) : ltL (x :: xs) (y :: ys) = ltL xs ys := by
  conv => lhs; unfold ltL
  rw [if_pos e]
theorem ltL_no {x y : Int} {xs ys : List Int} (e : ¬ x = y) : ltL (x :: xs) (y :: ys) = decide (x < y) := by
  conv => lhs; unfold ltL
  rw [if_neg e]
section
variable {prog : Program} {w : World} {A : Around} {E : Value → Shared → Prop} {s : Shared}
/-- a tuple of ints -/
def IsTI (h : Heap) (v : Value) (ns : List Int) : Prop := ∃ a o xs n, v = .ref a ∧ h.get? a = some o ∧ o.cls = .type "tuple" ∧ o.data = .seq xs n ∧ IntsAre xs.toList ns
theorem IsTI.keeps {h h' : Heap} {v : Value} {ns : List Int} (x : IsTI h v ns) (k : ∀ b o, h.get? b = some o → o.cls = .type "tuple" → h'.get? b = some o) : IsTI h' v ns := by
  obtain ⟨a, o, xs, n, e, ho, hc, hd, i⟩ := x
  exact ⟨a, o, xs, n, e, k a o ho hc, hc, hd, i⟩
theorem lex_ints (b : Bool) : ∀ {xs ys : List Value} {ns ms : List Int} (i : Nat) (fin : Bool), IntsAre xs ns → IntsAre ys ms → (fin = decide (xs.length < ys.length)) →
    PySem.W.KatLex prog w A b fin (fun r s' => s' = s ∧ r = ltL ns ms) (xs.zip ys) i s
  | _, _, _, _, _, _, .nil, .nil, e => by
    subst e; exact PySem.W.kat_nil ⟨rfl, rfl⟩
  | _, _, _, _, _, _, .nil, .cons _ _ _, e => by
    subst e; exact PySem.W.kat_nil ⟨rfl, rfl⟩
  | _, _, _, _, _, _, .cons _ _ _, .nil, e => by
    subst e; exact PySem.W.kat_nil ⟨rfl, rfl⟩
  | _, _, _, _, i, fin, .cons x t r1, .cons y u r2, e => by
    refine PySem.W.kat_cons (SeqAt.EqAt.int_int x t y u prog w _ _ ?_)
    refine PySem.W.kat_go (fun e1 => ?_) (fun e1 => ?_)
    · have ex : x = y := by simpa using e1
      refine PySem.W.kat_yes ?_
      rw [ltL_yes ex]
      exact lex_ints b (i + 1) fin r1 r2 (by rw [e]; simp)
    · have ex : ¬ x = y := by simpa using e1
      rw [ltL_no ex]
      refine PySem.W.kat_no ?_
      cases hb : (b && i == 0) with
      | true => exact oneLt_int ⟨rfl, rfl⟩
      | false => exact PySem.W.kat_one _ _ (PyProof.Rows.lt_int (show s = s ∧ decide (x < y) = decide (x < y) from ⟨rfl, rfl⟩))
theorem ti_cmp {vs : List Value} {k : Value → List Int} (hp : ∀ v ∈ vs, IsTI s.heap v (k v)) : SrtO.Cmp prog w A s (tuples' true) (fun p => p.1 ∈ vs) (SrtO.lt2 fun v u => ltL (k v) (k u)) := by
  intro p q hm hm'
  show wpAny (model prog w) A (keyLt' (tuples' true) p.1 q.1) (fun r s' => s' = s ∧ r = ltL (k p.1) (k q.1)) (fun _ _ => False) s
  obtain ⟨a, o, xs, n, e, ho, hc, hd, i1⟩ := hp _ hm
  obtain ⟨a', o', xs', n', e', ho', hc', hd', i2⟩ := hp _ hm'
  generalize k p.1 = ns at i1 ⊢
  generalize k q.1 = ms at i2 ⊢
  rw [e, e']
  exact PySem.W.kat_lt ho hd ho' hd' (lex_ints true 0 _ i1 i2 (by simp))
theorem ti_firsts {k : Value → List Int} : ∀ {vs : List Value} {h : Heap}, (∀ v ∈ vs, IsTI h v (k v) ∧ k v ≠ []) → ∃ fs, PySem.W.KatTups h vs fs ∧ fs.length = vs.length ∧ ∀ f ∈ fs, ∃ x t, f = Value.int x t
  | [], h, _ => ⟨[], .nil, rfl, fun _ z => by cases z⟩
  | v :: vs, h, hp => by
    obtain ⟨fs, h1, h2, h3⟩ := ti_firsts (vs := vs) fun u hu => hp u (List.mem_cons_of_mem _ hu)
    obtain ⟨⟨a, o, xs, n, e, ho, hc, hd, i⟩, hne⟩ := hp v List.mem_cons_self
    subst e
    generalize k (.ref a) = ns at i hne
    cases hxs : xs.toList with
    | nil => rw [hxs] at i; cases i; exact absurd rfl hne
    | cons f r =>
      rw [hxs] at i
      cases i with
      | cons x t i =>
        refine ⟨Value.int x t :: fs, .cons ho hc hd (by rw [← Array.getElem?_toList, hxs]; rfl) h1, by simp [h2], fun g hg => ?_⟩
        rcases List.mem_cons.mp hg with rfl | hg
        · exact ⟨x, t, rfl⟩
        · exact h3 g hg
theorem ti_sortable {a : Addr} {vs : List Value} {k : Value → List Int} (h0 : 0 < vs.length) (hp : ∀ v ∈ vs, IsTI s.heap v (k v) ∧ k v ≠ []) (ha : ∀ o, s.heap.get? a = some o → o.cls ≠ .type "tuple") : SrtO.SortableO prog w A s a vs fun v u => ltL (k v) (k u) := by
  intro h' keep
  have hp' : ∀ v ∈ vs, IsTI h' v (k v) ∧ k v ≠ [] := fun v hm => ⟨(hp v hm).1.keeps fun b o e c => keep b o (fun z => by subst z; exact ha o e c) e, (hp v hm).2⟩
  obtain ⟨fs, h1, h2, h3⟩ := ti_firsts hp'
  refine ⟨tuples' true, fun Q E hq => ?_, ti_cmp fun v hm => (hp' v hm).1⟩
  refine PySem.W.kat_kind (T := .type "int") h1 (by omega) (fun f hm => ?_) (by rfl) ?_
  · obtain ⟨x, t, rfl⟩ := h3 f hm
    exact PySem.W.Looks.now
  · have e : (Value.type "int" != Value.type "tuple") = true := by first | decide +kernel | rfl | decide
    rw [e]
    exact hq
end
/-- put into a rising list -/
def ins (x : List Int) : List (List Int) → List (List Int)
  | [] => [x]
  | y :: ys => if ltL y x = true then y :: ins x ys else x :: y :: ys
def sortL : List (List Int) → List (List Int)
  | [] => []
  | x :: xs => ins x (sortL xs)
theorem ins_perm (x : List Int) : ∀ ys, (ins x ys).Perm (x :: ys)
  | [] => .refl _
  | y :: ys => by
    unfold ins
    split
    · exact ((ins_perm x ys).cons y).trans (.swap x y ys)
    · exact .refl _
theorem sortL_perm : ∀ xs, (sortL xs).Perm xs
  | [] => .refl _
  | x :: xs => (ins_perm x _).trans ((sortL_perm xs).cons x)
def Up (l : List (List Int)) : Prop := l.Pairwise fun a b => ltL b a = false
theorem ins_up (x : List Int) : ∀ {ys}, Up ys → Up (ins x ys)
  | [], _ => List.pairwise_singleton _ _
  | y :: ys, h => by
    unfold ins
    obtain ⟨h1, h2⟩ := List.pairwise_cons.mp h
    split
    · rename_i e
      refine List.pairwise_cons.mpr ⟨fun z hz => ?_, ins_up x h2⟩
      rcases List.mem_cons.mp ((ins_perm x ys).mem_iff.mp hz) with rfl | hz
      · exact ltL_asym e
      · exact h1 z hz
    · rename_i e
      have e : ltL y x = false := by simpa using e
      refine List.pairwise_cons.mpr ⟨fun z hz => ?_, h⟩
      rcases List.mem_cons.mp hz with rfl | hz
      · exact e
      · exact ltL_ntr (h1 z hz) e
theorem sortL_up : ∀ xs, Up (sortL xs)
  | [] => .nil
  | x :: xs => ins_up x (sortL_up xs)
theorem up_unique : ∀ {xs ys : List (List Int)}, Up xs → Up ys → xs.Perm ys → xs = ys
  | [], ys, _, _, p => (List.Perm.nil_eq p)
  | x :: xs, [], _, _, p => by have := p.length_eq; simp at this
  | x :: xs, y :: ys, h1, h2, p => by
    obtain ⟨a1, a2⟩ := List.pairwise_cons.mp h1
    obtain ⟨b1, b2⟩ := List.pairwise_cons.mp h2
    have e : x = y := by
      have mx : x ∈ y :: ys := p.mem_iff.mp List.mem_cons_self
      have my : y ∈ x :: xs := p.mem_iff.mpr List.mem_cons_self
      rcases List.mem_cons.mp mx with e | mx
      · exact e
      · rcases List.mem_cons.mp my with e | my
        · exact e.symm
        · exact ltL_anti (b1 x mx) (a1 y my) |>.symm ▸ rfl
    subst e
    rw [up_unique a2 b2 (List.Perm.cons_inv p)]
end SX
namespace AB
open PySem PySem.Spec PyProof.Rows L2
def ints? : List A → Option (List Int)
  | [] => some []
  | .int i :: r => (ints? r).map (i :: ·)
  | _ :: _ => none
theorem ints_of : ∀ {as : List A} {is : List Int}, ints? as = some is → as = is.map A.int
  | [], _, e => by cases e; rfl
  | a :: as, is, e => by
    cases a with
    | int i =>
      simp only [ints?] at e
      cases e1 : ints? as with
      | none => rw [e1] at e; cases e
      | some r => rw [e1] at e; cases e; rw [ints_of e1]; rfl
    | _ => simp only [ints?] at e; cases e
def tups? : List A → Option (List (List Int))
  | [] => some []
  | .tup xs :: r => match ints? xs, tups? r with
    | some (i :: is), some q => some ((i :: is) :: q)
    | _, _ => none
  | _ :: _ => none
def tupI (ns : List Int) : A := .tup (ns.map A.int)
theorem tups_of : ∀ {as : List A} {q : List (List Int)}, tups? as = some q → as = q.map tupI ∧ ∀ x ∈ q, x ≠ []
  | [], _, e => by cases e; exact ⟨rfl, fun _ z => by cases z⟩
  | a :: as, q, e => by
    cases a with
    | tup xs =>
      simp only [tups?] at e
      split at e
      · rename_i i is q' e1 e2
        cases e
        obtain ⟨h1, h2⟩ := tups_of e2
        refine ⟨by rw [h1, ints_of e1]; rfl, fun x hx => ?_⟩
        rcases List.mem_cons.mp hx with rfl | hx
        · simp
        · exact h2 x hx
      · cases e
    | _ => simp only [tups?] at e; cases e
/-- sorted: whole numbers, or tuples of them -/
def oSorted : On := fun as M => match as with
  | [.lst l] => match listAt M l with
    | some xs => match tups? xs with
      | some q => some (.lst M.length, M ++ [.lst ((SX.sortL q).map tupI)])
      | none => none
    | none => none
  | _ => none
/-- the ints that a tracked tuple holds -/
def kOf (H : Hp) : Value → List Int
  | .ref a => match H a with
    | some (.tup vs) => vs.filterMap fun v => match v with
      | .int i => some i
      | _ => none
    | _ => []
  | _ => []
theorem kOf_tup {H : Hp} {a : Addr} {ns : List Int} (h : H a = some (.tup (ns.map V.int))) : kOf H (.ref a) = ns := by
  unfold kOf
  simp only [h]
  clear h
  induction ns with
  | nil => rfl
  | cons n ns ih => simp [ih]
theorem tupI_is {ρ : List Addr} {H : Hp} {ns : List Int} {v : V} (i : Is ρ H (tupI ns) v) : ∃ a, v = .ref a ∧ H a = some (.tup (ns.map V.int)) := by
  cases i with
  | tup h is => rw [IsAll.ints is] at h; exact ⟨_, rfl, h⟩
theorem is_tupI {ρ : List Addr} {H : Hp} {ns : List Int} {a : Addr} (h : H a = some (.tup (ns.map V.int))) : Is ρ H (tupI ns) (.ref a) := by
  refine .tup h ?_
  clear h
  induction ns with
  | nil => exact .nil
  | cons n ns ih => exact .cons (.int n) ih
section
variable {X : Cx}
theorem cr_sortedTI : CallR X (.builtin "sorted") (rn (X.am Tb) oSorted) := by
  intro pins s σ H xs us Q I r h
  obtain ⟨as, M, ρ, is, m, ro⟩ := h
  unfold oSorted at ro
  split at ro
  · rename_i l
    cases is with
    | cons i1 is =>
      cases is
      cases i1 with
      | lst hl =>
        split at ro
        · rename_i ys el
          split at ro
          · rename_i q eq
            obtain ⟨rfl, hne⟩ := tups_of eq
            obtain ⟨vs, hs, iv⟩ := m.list hl el
            obtain ⟨its, rv, hL, hz⟩ := I.list hs
            rw [Vals.ref1 r]
            -- each item is a reference to a tuple of ints
            have items : ∀ (q : List (List Int)) (vs : List V) (its : List Value), IsAll ρ H (q.map tupI) vs → Vals vs its → (∀ x ∈ q, x ≠ []) → (∀ u ∈ its, SX.IsTI s.heap u (kOf H u) ∧ kOf H u ≠ []) ∧ its.map (kOf H) = q ∧ ∀ u ∈ its, ∃ a, u = .ref a ∧ H a = some (.tup ((kOf H u).map V.int)) := by
              intro q
              induction q with
              | nil => intro vs its i r _; cases i; cases r; exact ⟨fun _ z => (by cases z), rfl, fun _ z => (by cases z)⟩
              | cons n q ih =>
                intro vs its i r hne
                cases i with
                | cons i1 i2 =>
                  cases r with
                  | cons r1 r2 =>
                    obtain ⟨a1, a2, a3⟩ := ih _ _ i2 r2 fun x hx => hne x (List.mem_cons_of_mem _ hx)
                    obtain ⟨a, rfl, ha⟩ := tupI_is i1
                    cases r1
                    have ek := kOf_tup ha
                    obtain ⟨_, tv, trv, o, h1, h2, nn, h3⟩ := I.hok _ _ ha
                    have ti : SX.IsTI s.heap (.ref a) (kOf H (.ref a)) := by
                      rw [ek]
                      exact ⟨a, o, tv.toArray, nn, rfl, h1, h2, h3, by simpa using intsAre_of trv⟩
                    refine ⟨fun u hu => ?_, by simp [ek, a2], fun u hu => ?_⟩
                    · rcases List.mem_cons.mp hu with rfl | hu
                      · exact ⟨ti, by rw [ek]; exact hne n List.mem_cons_self⟩
                      · exact a1 u hu
                    · rcases List.mem_cons.mp hu with rfl | hu
                      · exact ⟨a, rfl, by rw [ek]; exact ha⟩
                      · exact a3 u hu
            obtain ⟨hp, hk, hr⟩ := items q vs its iv rv hne
            refine SrtO.sorted_ord (SX.swo_L (kOf H)) hL.isList (by rw [← rv.length]; exact hz) (fun h2 h₁ a' ha kk => ?_) fun out h1 h2 => ?_
            · refine SX.ti_sortable (s := { s with heap := h₁ }) (by omega) (fun v hm => ⟨(hp v hm).1.keeps fun b o e _ => (kk b o e).2, (hp v hm).2⟩) fun o e => ?_
              have e' : some o = some (seqObj "list" its.toArray 0) := e.symm.trans ha
              cases e'
              intro c
              exact absurd (Value.type.inj c) (by decide)
            · obtain ⟨ep, he'⟩ := PyProof.Rows.sortedAll_at s.heap its out.toArray
              -- what comes out: the same references in order
              have mem : ∀ u ∈ out, ∃ a, u = .ref a ∧ H a = some (.tup ((kOf H u).map V.int)) := fun u hu => hr u (h2.perm.mem_iff.mp hu)
              have outs : ∀ (l : List Value), (∀ u ∈ l, ∃ a, u = .ref a ∧ H a = some (.tup ((kOf H u).map V.int))) → ∃ vs : List V, Vals vs l ∧ IsAll ρ H ((l.map (kOf H)).map tupI) vs := by
                intro l
                induction l with
                | nil => intro _; exact ⟨[], .nil, .nil⟩
                | cons u l ih =>
                  intro hm
                  obtain ⟨vs, v1, v2⟩ := ih fun x hx => hm x (List.mem_cons_of_mem _ hx)
                  obtain ⟨a, rfl, ha⟩ := hm u List.mem_cons_self
                  exact ⟨.ref a :: vs, .cons rfl v1, .cons (is_tupI ha) v2⟩
              obtain ⟨ws, w1, w2⟩ := outs out mem
              have esort : out.map (kOf H) = SX.sortL q := by
                refine SX.up_unique ?_ (SX.sortL_up q) ?_
                · exact List.pairwise_map.mpr h1
                · have := h2.perm.map (kOf H)
                  rw [hk] at this
                  exact this.trans (SX.sortL_perm q).symm
              rw [esort] at w2
              have hlen : ws.length ≤ sizeLine := by
                rw [w1.length, h2.perm.length_eq, ← rv.length]; exact hz
              have hnew : H (s.heap.objs.size + 1) = none := I.hok.fresh (Nat.le_succ _)
              exact ⟨.ref _, upd H (s.heap.objs.size + 1) (.lst ws), I.laid (t' := s.toks) (fun _ _ => PyProof.Rows.sortedAll_old) (Nat.le_succ _) ⟨hlen, out, ep, w1, he'⟩, rfl, ro.newL m w2 hnew⟩
          · exact ro.elim
        · exact ro.elim
  · exact ro.elim
end
end AB
/-! AB11: lengths of sets; several targets; displays of one pair -/
namespace AB
open PySem PySem.Spec PyProof.Rows L2
section
variable {X : Cx} {W : WR} {pos : Pos} {a b c e : Expr} {f g : EF} {fs : EFs}
/-! ### len(set(xs)) -/
def dedup (is : List Int) : List Int := is.foldl step_dedup []
theorem firstMet_all (ns : List Int) : PyProof.Rows.firstMet (fun i => ns.getD i 0) ns.length = dedup ns := by
  unfold PyProof.Rows.firstMet dedup
  congr 1
  apply List.ext_getElem
  · simp
  · intro i h1 h2
    simp [List.getElem_map, List.getD_eq_getElem?_getD, List.getElem?_eq_getElem h2]
/-! ### a, b, c = x, y, z -/
def sPar3 (i j l : Nat) (f : EFs) : SF := fun τ M => (f τ M).bindS τ fun as M1 => match as with
  | [a, b, c] => .nx (((τ.set i (some a)).set j (some b)).set l (some c)) M1
  | _ => .bad
/-! ### d[k], x = y, z -/
/-! ### {k: v} -/
def dispK (l : Nat) (k v : A) (M3 : Store) : EO A := match M3[l]?, key? k with
  | some (.dK []), some j => .ok (.dct l) (M3.set l (.dK [(j, v)]))
  | _, _ => .bad
def eDisp1 (fk fv : EF) : EF := fun τ M => (fk τ (M ++ [.dK []])).bind fun k M2 => (fv τ M2).bind (dispK M.length k)
theorem ae_disp1 {k v : Expr} {fk fv : EF} (hk : AE X W k fk) (hv : AE X W v fv) : AE X W (.Dict [some k] [v] pos) (eDisp1 fk fv) :=
  (pe_disp (pps_cons hk hv pps_nil) (by rfl) (by rfl) (fun z => by cases z) (by show 1 ≤ 15; decide)).pre fun σ H Q h => by
  obtain ⟨τ, M, ρ, rs, rm, r⟩ := h
  intro p hp
  have g0 : Grow H (upd H p (.dK [])) := .new hp
  have m0 : RM (X.am W.Tb) (ρ ++ [p]) (upd H p (.dK [])) (M ++ [.dK []]) := rm.push hp ⟨[], upd_same, .nil⟩
  have r := RE.mono r (.snoc ρ p) g0
  have hl0 : (ρ ++ [p])[M.length]? = some p := by rw [← rm.len]; simp
  unfold eDisp1 at r
  refine ⟨τ, _, _, rs.mono (.snoc ρ p) g0, m0, ?_⟩
  cases e1 : fk τ (M ++ [.dK []]) with
  | ok ka M2 =>
    rw [e1] at r
    intro kv H2 ρ2 x2 g2 m2 ik
    have r := RE.mono r x2 g2
    refine ⟨τ, M2, ρ2, (rs.mono (.snoc ρ p) g0).mono x2 g2, m2, ?_⟩
    have r : RE (X.gx W.Tb) W σ ρ2 H2 Is ((fv τ M2).bind (dispK M.length ka)) Q := r
    cases e2 : fv τ M2 with
    | ok va M3 =>
      rw [e2] at r
      intro vv H3 ρ3 x3 g3 m3 iv
      have r := RE.mono r x3 g3
      have hb : ρ3[M.length]? = some p := x3.get (x2.get hl0)
      have r : RE (X.gx W.Tb) W σ ρ3 H3 Is (dispK M.length ka va M3) Q := r
      unfold dispK at r
      split at r
      · rename_i j ec ej
        obtain ⟨vs, q, iz⟩ := m3.at_ _ _ _ hb ec
        have hH : H3 p = some (.dK []) := by
          cases iz; exact q
        have g4 := m3.growSet (o := .dK [(j, vv)]) hb ec
        refine ⟨hH, [(j, vv)], by rw [key_ok (ik.mono x3 g3) ej]; rfl, by show 1 ≤ 15; decide, ?_⟩
        exact r.okv (.refl _) g4 (m3.set hb ec ⟨[vv], upd_same, .cons (iv.mono (.refl _) g4) .nil⟩) (.dct hb)
      · exact r.elim
    | ex en M3 => rw [e2] at r; exact r
    | bad => rw [e2] at r; exact r
  | ex en M2 => rw [e1] at r; exact r
  | bad => rw [e1] at r; exact r
/-- .. of a tuple's key -/
def dispT (l : Nat) (k v : A) (M3 : Store) : EO A := match M3[l]?, k with
  | some (.dT []), .tup ks => match ks.mapM key? with
    | some j => .ok (.dct l) (M3.set l (.dT [(j, v)]))
    | none => .bad
  | _, _ => .bad
def eDispT (fk fv : EF) : EF := fun τ M => (fk τ (M ++ [.dT []])).bind fun k M2 => (fv τ M2).bind (dispT M.length k)
theorem ae_dispT {k v : Expr} {fk fv : EF} (hu : X.A.units + 1 < cLine) (hk : AE X W k fk) (hv : AE X W v fv) : AE X W (.Dict [some k] [v] pos) (eDispT fk fv) := ⟨fun pins s σ H Q I h => by
  obtain ⟨τ, M, ρ, rs, rm, r⟩ := h
  have hp := I.hok.fresh (Nat.le_refl s.heap.objs.size)
  generalize ep : s.heap.objs.size = p at hp
  have I1 : L2.Inv X pins σ (upd H p (.dT [])) { s with heap := s.heap.push { cls := .type "dict", data := .dict #[] } } := by
    subst ep
    exact I.laid (t' := s.toks) (fun _ _ q => Heap.get?_push_of_some _ q) (Nat.le_refl _) (dt_empty s.heap I.big)
  have g0 : Grow H (upd H p (.dT [])) := .new hp
  have m0 : RM (X.am W.Tb) (ρ ++ [p]) (upd H p (.dT [])) (M ++ [.dT []]) := rm.push hp ⟨[], upd_same, .nil⟩
  have r := RE.mono r (.snoc ρ p) g0
  have hl0 : (ρ ++ [p])[M.length]? = some p := by rw [← rm.len]; simp
  unfold eDispT at r
  refine wpAny_Dict_any (by rfl) (by rfl) (fun z => by cases z) (by show 1 ≤ 15; decide) ?_
  have hP : PPs X pos [some k] [v] [(tG (X.gx W.Tb) W Is fk, tG (X.gx W.Tb) W Is fv)] := pps_cons hk hv pps_nil
  refine thn (hP.run pins _ σ _ (fun ps H3 => ∃ kv vv, ps = [(kv, vv)] ∧ ∃ ks ts H4, kv = .ref ks ∧ H3 ks = some (.tup (ts.map kV)) ∧ H3 p = some (.dT []) ∧ H4 = upd H3 p (.dT [(ts, vv)]) ∧ Q (.ref p) H4) I1 ?_) fun vs s2 ⟨ps, H3, I3, rel, kv, vv, eps, ks, ts, H4, ekv, hks, hpd, e4, q⟩ => ?_
  · refine ⟨τ, _, _, rs.mono (.snoc ρ p) g0, m0, ?_⟩
    cases e1 : fk τ (M ++ [.dT []]) with
    | ok ka M2 =>
      rw [e1] at r
      intro kv H2 ρ2 x2 g2 m2 ik
      have r := RE.mono r x2 g2
      refine ⟨τ, M2, ρ2, (rs.mono (.snoc ρ p) g0).mono x2 g2, m2, ?_⟩
      have r : RE (X.gx W.Tb) W σ ρ2 H2 Is ((fv τ M2).bind (dispT M.length ka)) Q := r
      cases e2 : fv τ M2 with
      | ok va M3 =>
        rw [e2] at r
        intro vv H3 ρ3 x3 g3 m3 iv
        have r := RE.mono r x3 g3
        have hb : ρ3[M.length]? = some p := x3.get (x2.get hl0)
        have r : RE (X.gx W.Tb) W σ ρ3 H3 Is (dispT M.length ka va M3) Q := r
        have ik := ik.mono x3 g3
        unfold dispT at r
        split at r
        · have ec : M3[M.length]? = some (.dT []) := by assumption
          split at r
          · rename_i j ej
            obtain ⟨vs, q, iz⟩ := m3.at_ _ _ _ hb ec
            have hH : H3 p = some (.dT []) := by cases iz; exact q
            cases ik with
            | tup ht it =>
              rw [keys_ok it ej] at ht
              have g4 := m3.growSet (o := .dT [(j, vv)]) hb ec
              exact ⟨_, vv, rfl, _, j, _, rfl, ht, hH, rfl, r.okv (.refl _) g4 (m3.set hb ec ⟨[vv], upd_same, .cons (iv.mono (.refl _) g4) .nil⟩) (.dct hb)⟩
          · exact r.elim
        · exact r.elim
      | ex en M3 => rw [e2] at r; exact r
      | bad => rw [e2] at r; exact r
    | ex en M2 => rw [e1] at r; exact r
    | bad => rw [e1] at r; exact r
  · subst eps ekv
    obtain ⟨u1, u2, rfl, r1, r2⟩ : ∃ u1 u2, vs = [(u1, u2)] ∧ RelV (.ref ks) u1 ∧ RelV vv u2 := by
      cases rel with
      | cons h t => cases t; exact ⟨_, _, rfl, h.1, h.2⟩
    cases r1
    obtain ⟨z, hd, xs, rel2, dd⟩ := dt_of I3.hok hpd
    cases rel2
    show wpAny (model X.prog X.w) X.A (storeAll s.heap.objs.size [(Value.ref ks, u2)]) _ _ _
    rw [ep]
    unfold storeAll
    rw [List.forIn_cons]
    refine wpAny_bind (wpAny_bind ?_)
    refine wpAny_dictSet_heap (hsz := Nat.zero_le _) (knd := tupleKind (mixKind X.prog X.w)) (by show X.A.units < cLine; omega) (key_of I3.hok hks) dd fun h' dd' hs => ?_
    refine wpAny_pure ?_
    dsimp only
    rw [List.forIn_nil]
    refine wpAny_pure ?_
    obtain ⟨ob, es, ee, hq, h2, h3, h4, _, h5⟩ := dd'
    refine ⟨.ref p, H4, ?_, rfl, q⟩
    rw [e4]
    have rel0 : KT H3 ([] : List (List Key × V)) [] := .nil
    have relP := rel0.put ts hks r2
    have e0 : putK ([] : List (List Key × V)) ts vv = [(ts, vv)] := rfl
    rw [e0] at relP
    refine d_write I3 (by rw [hpd]; exact True.intro) hs ⟨ob, hq⟩ ⟨by show 1 ≤ sizeLine; decide, hd, _, relP.keeps fun c ys ec => ?_, ob, es, ee, hq, h2, h3, h4, h5⟩
    rw [upd_ne (ne_of ec hpd (fun z => nomatch z))]
    exact ec⟩
end
end AB
/-! AB12: n += e; the law's end -/
namespace AB
open PySem PySem.Spec PyProof.Rows L2
section
variable {X : Cx} {W : WR} {pos : Pos} {e : Expr} {f : EF}
def augK (i : Nat) (g : Int → Int → Int) (x : Int) (τ : Sl) (b : A) (M : Store) : SO := match b with
  | .int j => .nx (τ.set i (some (.int (g x j)))) M
  | _ => .bad
def sAug (i : Nat) (g : Int → Int → Int) (f : EF) : SF := fun τ M => match τ[i]? with
  | some (some (.int x)) => (f τ M).bindS τ (augK i g x τ)
  | _ => .bad
theorem as_aug (i : Nat) {x : Str} {op : Operator} {g : Int → Int → Int} {pos' : Pos} (hN : X.N.Nodup) (ho : PIp X op (ipI g)) (he : AE X W e f) (hi : X.N[i]? = some x := by rfl) (hx : Loc X.env.scope x := by first | exact Or.inl rfl | exact Or.inr rfl)
    (hf : X.fn x = true ∨ X.env.scope.names.lookup x = some .local := by first | exact .inl rfl | exact .inr rfl | assumption) : AS X W (.AugAssign (.Name x pos') op e pos) (sAug i g f) := (ps_aug hN hi hx he ho hf).pre fun D σ H h => by
  obtain ⟨τ, M, ρ, rs, rm, r⟩ := h
  unfold sAug at r
  split at r
  · rename_i a ea
    obtain ⟨v, hv, iv⟩ := rs.get ea
    cases iv
    refine ⟨_, hv, τ, M, ρ, rs, rm, ?_⟩
    cases e1 : f τ M with
    | ok b M1 =>
      rw [e1] at r
      intro w H1 ρ1 x1 g1 m1 iw
      have r := RSO.mono r x1 g1
      have r : RSO (X.gx W.Tb) W D ρ1 H1 (augK i g a τ b M1) := r
      cases b with
      | int j =>
        cases iw
        exact ⟨_, _, rfl, rfl, r _ _ ρ1 (.refl _) (.refl _) m1 ((rs.mono x1 g1).set (.int _) i)⟩
      | _ => exact r.elim
    | ex en M1 => rw [e1] at r; exact fun c d H1 ρ1 x g m i => r c d σ H1 ρ1 x g m (rs.mono x g) i
    | bad => rw [e1] at r; exact r
  · exact r.elim
end
/-- the law's store: the script alone -/
def scr (ns : List Int) : Store := [.frz (ns.map .int)]
end AB
namespace AB
open PySem PySem.Spec PyProof.Rows L2
abbrev fuel : Nat := 1000000
theorem hu64 {A : Around} {k : Nat} (hr : Room k A) : A.units + 64 < cLine := by have := hr.un; omega
theorem hu65 {A : Around} {k : Nat} (hr : Room k A) : A.units + 65 < cLine := by have := hr.un; omega
theorem hu9 {A : Around} {k : Nat} (hr : Room k A) : A.units + 9 < cLine := by have := hr.un; omega
theorem hu1 {A : Around} {k : Nat} (hr : Room k A) : A.units + 1 < cLine := by have := hr.un; omega
/-- a def of the text that does F -/
structure FnX (P : Program) (w : World) (K : PySem.W.Frag) (mg : Str → Option Value) (Tb : Tbl) (base : Heap) (x : Str) (k n : Nat) (F : On') : Prop where
  ex : ∃ fa fd ps, FnOk P w K mg base (L2.CX P w) k fa fd ps (spA ⟨mg, ⟨w, K, mg, Tb⟩⟩ n F) ∧ mg x = some (.ref fa) ∧ PySem.W.keepIn K (.ref fa) = true ∧ Binds K fd ps []
section
variable {X : Cx} {W : WR} {pos : Pos}
theorem ae_callX {k n : Nat} {F : On'} {x : Str} {p : Pos} {e : Expr} {es : List Expr} {fs : EFs} (G : FnX X.prog X.w X.K X.mg W.Tb X.base x k n F) (hr : Room k X.A) (tk : Takes X W.w)
    (ha : AA X W (e :: es) fs) (hg : Gl X x := by rfl) (hdb : (x == ("__debug__" : Str)) = false := by decide) (he : starEach (e :: es) X.env = (false, eval e X.env) :: starEach es X.env := by rfl) (hpl : (backTo pos (starEach es X.env)).any (·.1) = false := by rfl) :
    AE X W (.Call (.Name x p) (e :: es) [] pos) (eCall n F fs) := by
  obtain ⟨fa, fd, ps, G, hm, hk, hb⟩ := G.ex
  exact ae_call G hr hm hk hb tk ha hg hdb he hpl
end
/-- .. whose last parameters have the defaults ds -/
structure FnXD (P : Program) (w : World) (K : PySem.W.Frag) (mg : Str → Option Value) (Tb : Tbl) (base : Heap) (x : Str) (k n : Nat) (ds : List A) (F : On') : Prop where
  ex : ∃ fa fd ps, FnOk P w K mg base (L2.CX P w) k fa fd ps (spA ⟨mg, ⟨w, K, mg, Tb⟩⟩ n F) ∧ mg x = some (.ref fa) ∧ PySem.W.keepIn K (.ref fa) = true ∧ Binds K fd ps [] ∧ ∃ us, Binds K fd ps us ∧ ∃ vs, Vals vs us ∧ ∀ ρ H, IsAll ρ H ds vs
def eCallD (n : Nat) (F : On') (ds : List A) (fs : EFs) : EF := fun τ M => (fs τ M).bind fun as M1 => if (as ++ ds).length = n then F (as ++ ds) M1 else .bad
section
variable {X : Cx} {W : WR} {pos : Pos}
theorem FnXD.x {P : Program} {w : World} {K : PySem.W.Frag} {mg : Str → Option Value} {Tb : Tbl} {base : Heap} {x : Str} {k n : Nat} {ds : List A} {F : On'} (G : FnXD P w K mg Tb base x k n ds F) : FnX P w K mg Tb base x k n F := by
  obtain ⟨fa, fd, ps, G, hm, hk, hb, _⟩ := G.ex
  exact ⟨fa, fd, ps, G, hm, hk, hb⟩
theorem ae_callXD {k n : Nat} {F : On'} {x : Str} {p : Pos} {e : Expr} {es : List Expr} {fs : EFs} {ds : List A} (G : FnXD X.prog X.w X.K X.mg W.Tb X.base x k n ds F) (hr : Room k X.A) (tk : Takes X W.w)
    (ha : AA X W (e :: es) fs) (hg : Gl X x := by rfl) (hdb : (x == ("__debug__" : Str)) = false := by decide) (he : starEach (e :: es) X.env = (false, eval e X.env) :: starEach es X.env := by rfl) (hpl : (backTo pos (starEach es X.env)).any (·.1) = false := by rfl) :
    AE X W (.Call (.Name x p) (e :: es) [] pos) (eCallD n F ds fs) := by
  obtain ⟨fa, fd, ps, G, hm, hk, _, us, hb, vs, hv, hi⟩ := G.ex
  refine (pe_callSD (E := WE W.w) G hr hg hm hk hb hv (fun σ => passAt tk σ) ha hdb he hpl).pre fun σ H Q h => ?_
  refine (seqG IsAll h).imp fun ws H1 h1 => ?_
  obtain ⟨τ, M, ρ, as, rs, rm, i, r⟩ := h1
  have r : RE (X.gx W.Tb) W σ ρ H1 Is (if (as ++ ds).length = n then F (as ++ ds) M else .bad) Q := r
  split at r
  · rename_i hn
    refine ⟨as ++ ds, M, ρ, i.append (hi _ _), rm, hn, ?_⟩
    cases e : F (as ++ ds) M with
    | ok a M1 => rw [e] at r; exact r
    | ex en M1 => rw [e] at r; exact r
    | bad => rw [e] at r; exact r
  · exact r.elim
end
end AB
/-! AB13: the law's end, for any promise -/
namespace AB
open PySem PySem.Spec PyProof.Rows L2
theorem law_endT {mg : Str → Option Value} {w : World} {K : PySem.W.Frag} {Tb : Tbl} {F : On'} (hF : ∀ ns : List Int, ns.length ≤ 63 → ∃ M, F [.lst 0] (scr ns) = .ok (.bl true) M) {Q : VK} {E : XK} (H : Hp) (a : Addr) (ns : List Int) (hl : ns.length ≤ 63) (hS : SqL K H a (ns.map V.int)) (hT : LamX.Tabs Tb H) (q : ∀ H', Q (.bl true) H') :
    spA ⟨mg, ⟨w, K, mg, Tb⟩⟩ 1 F [.ref a] H Q E := by
  obtain ⟨M, e⟩ := hF ns hl
  have zero : ∀ {i : Nat} {b : Addr}, ([a] : List Addr)[i]? = some b → i = 0 := fun {i b} h => by
    have := (List.getElem?_eq_some_iff.mp h).1
    simp at this; omega
  refine ⟨[.lst 0], scr ns, [a], .cons (.lst rfl) .nil, ⟨rfl, fun i j b c d h1 h2 h3 h4 h5 h6 => ?_, fun i b c h1 h2 => ?_, hT, fun i j b c xs h1 h2 h3 h4 h5 => ?_, fun i j b c d h1 h2 h3 h4 h5 h6 => ?_⟩, rfl, ?_⟩
  · rw [zero h1, zero h2]
  · have hi := zero h1
    subst hi
    simp [scr] at h1 h2
    subst h1 h2
    have all : ∀ ns : List Int, IsAll [a] H (ns.map A.int) (ns.map V.int) := by
      intro ns
      induction ns with
      | nil => exact .nil
      | cons n ns ih => exact .cons (.int n) ih
    refine ⟨ns.map V.int, ?_, all ns⟩
    rcases hS with (h | ⟨o, h⟩) | h
    · exact .inl (.inr h)
    · exact .inl (.inl ⟨o, h⟩)
    · exact .inr h
  · have hi := zero h1
    subst hi
    simp [scr] at h3
    subst h3
    cases h5
  · rw [zero h1, zero h2]
  · rw [e]
    intro v H' ρ' x g m i
    cases i
    exact q _
theorem cx_false {P : Program} : ∀ (w : World) (H : Hp) (s : Shared) (e : Value) (s' : Shared), L2.CX P w [] H s (fun _ _ _ => False) e s' → False := fun _ _ _ _ _ ⟨_, _, _, _, _, _, _, _, _, _, _, _, h⟩ => h
end AB
/-! AB14: what an abstract run wants (backward steps) -/
namespace AB
open PySem PySem.Spec PyProof.Rows L2
@[irreducible] def EO.W {α : Type} (o : EO α) (Q : α → Store → Prop) : Prop := match o with
  | .ok a M => Q a M
  | _ => False
@[irreducible] def SO.W (o : SO) (N : Sl → Store → Prop) (R : A → Store → Prop) : Prop := match o with
  | .nx τ M => N τ M
  | .rt a M => R a M
  | _ => False
section
variable {α β : Type} {τ : Sl} {M : Store} {Q : A → Store → Prop} {Qs : List A → Store → Prop} {Qb : Bool → Store → Prop} {N : Sl → Store → Prop} {R : A → Store → Prop}
theorem EO.W.imp {o : EO α} {P P' : α → Store → Prop} (h : o.W P) (f : ∀ a M, P a M → P' a M) : o.W P' := by
  with_unfolding_all
    cases o with
    | ok a M => exact f _ _ h
    | _ => exact h
theorem EO.W.out {o : EO α} {P : α → Store → Prop} (h : o.W P) : ∃ a M, o = .ok a M ∧ P a M := by
  with_unfolding_all
    cases o with
    | ok a M => exact ⟨_, _, rfl, h⟩
    | _ => exact h.elim
theorem w_bind {x : EO α} {g : α → Store → EO β} {P : β → Store → Prop} (h : x.W fun a M => (g a M).W P) : (x.bind g).W P := by
  with_unfolding_all
    cases x with
    | ok a M => exact h
    | _ => exact h
theorem w_bindS {x : EO α} {g : α → Store → SO} (h : x.W fun a M => (g a M).W N R) : (x.bindS τ g).W N R := by
  with_unfolding_all
    cases x with
    | ok a M => exact h
    | _ => exact h
theorem w_toE {o : Option (A × Store)} {a : A} {M' : Store} (e : o = some (a, M')) (h : Q a M') : (toE o).W Q := by with_unfolding_all (rw [e]; exact h)
theorem w_var {i : Nat} {a : A} (e : τ[i]? = some (some a)) (h : Q a M) : (eVar i τ M).W Q := by with_unfolding_all (unfold eVar; rw [e]; exact h)
theorem w_C {a : A} (h : Q a M) : (eC a τ M).W Q := by with_unfolding_all exact (h)
theorem w_nil (h : Qs [] M) : (eNil τ M).W Qs := by with_unfolding_all exact (h)
theorem w_cons {f : EF} {g : EFs} (h : (f τ M).W fun a M1 => (g τ M1).W fun as M2 => Qs (a :: as) M2) : (eCons f g τ M).W Qs := by with_unfolding_all exact (w_bind (h.imp fun _ _ h => w_bind (h.imp fun _ _ h => h)))
theorem w_op {o : O2} {f g : EF} (h : (f τ M).W fun a M1 => (g τ M1).W fun b M2 => (toE (o a b M2)).W Q) : (eOp o f g τ M).W Q := by with_unfolding_all exact (w_bind (h.imp fun _ _ h => w_bind h))
theorem w_fn {o : On} {f : EFs} (h : (f τ M).W fun a M1 => (toE (o a M1)).W Q) : (eFn o f τ M).W Q := by with_unfolding_all exact (w_bind h)
theorem w_B {f : EF} (h : (f τ M).W fun a M1 => ∃ k, a = .bl k ∧ Qb k M1) : (eB f τ M).W Qb := by with_unfolding_all exact (w_bind (h.imp fun _ _ ⟨k, e, h⟩ => by subst e; exact h))
/-! ### statements -/
theorem w_sNil (h : N τ M) : (sNil τ M).W N R := by with_unfolding_all exact (h)
theorem w_seq {s t : SF} (h : (s τ M).W (fun τ1 M1 => (t τ1 M1).W N R) R) : (sSeq s t τ M).W N R := by
  with_unfolding_all
    unfold sSeq
    cases e : s τ M with
    | nx τ1 M1 => rw [e] at h; exact h
    | rt a M1 => rw [e] at h; exact h
    | _ => rw [e] at h; exact h
theorem w_ret {f : EF} (h : (f τ M).W R) : (sRet f τ M).W N R := by with_unfolding_all exact (w_bindS h)
theorem w_if {c : EFb} {s t : SF} (h : (c τ M).W fun k M1 => if k = true then (s τ M1).W N R else (t τ M1).W N R) : (sIf c s t τ M).W N R := by with_unfolding_all exact (w_bindS (h.imp fun k M1 h => by
  cases k with
  | true => exact h
  | false => exact h))
theorem w_asg {t : Tgt} {f : EF} (h : (f τ M).W fun a M1 => ∃ τ1, t.set a τ = some τ1 ∧ N τ1 M1) : (sAsg t f τ M).W N R := by with_unfolding_all exact (w_bindS (h.imp fun a M1 ⟨τ1, e, h⟩ => by rw [e]; exact h))
theorem w_set {i : Nat} {f : EF} (h : (f τ M).W fun a M1 => N (τ.set i (some a)) M1) : (sAsg (.nm i) f τ M).W N R := by with_unfolding_all exact (w_asg (h.imp fun a M1 h => ⟨_, rfl, h⟩))
theorem w_setL {fo fi fv : EF} (h : (fv τ M).W fun v M1 => (fo τ M1).W fun x M2 => (fi τ M2).W fun i M3 => ∃ M4, oSetL M3 x i v = some M4 ∧ N τ M4) : (sSetL fo fi fv τ M).W N R := by with_unfolding_all exact (w_bindS (h.imp fun _ _ h => w_bindS (h.imp fun _ _ h => w_bindS (h.imp fun k M3 ⟨M4, e2, h4⟩ => by rw [e2]; exact h4))))
theorem w_def {n : Nat} {s : SF} {as : List A} (h : (s (startA n as) M).W (fun _ M1 => Q .non M1) Q) : (defA n s as M).W Q := by
  with_unfolding_all
    unfold defA
    cases e : s (startA n as) M with
    | nx τ1 M1 => rw [e] at h; exact h
    | rt a M1 => rw [e] at h; exact h
    | _ => rw [e] at h; exact h.elim
/-! ### loops -/
end
/-! ### stores -/
/-- M's cells stand in M', save at r -/
def Fr (r : Option Nat) (M M' : Store) : Prop := M.length ≤ M'.length ∧ ∀ i c, some i ≠ r → M[i]? = some c → M'[i]? = some c
abbrev Pre : Store → Store → Prop := Fr none
section
variable {r : Option Nat} {M M' M'' : Store} {c : Cell} {l : Nat}
theorem Fr.refl : Fr r M M := ⟨Nat.le_refl _, fun _ _ _ h => h⟩
theorem Fr.trans (a : Fr r M M') (b : Fr r M' M'') : Fr r M M'' := ⟨Nat.le_trans a.1 b.1, fun i c n h => b.2 i c n (a.2 i c n h)⟩
theorem Fr.set (a : Fr r M M') (h : M.length ≤ l) : Fr r M (M'.set l c) := ⟨by rw [List.length_set]; exact a.1, fun i d n e => by
  have : i < M.length := (List.getElem?_eq_some_iff.mp e).1
  rw [List.getElem?_set_ne (by omega)]
  exact a.2 i d n e⟩
theorem Fr.setr (a : Fr (some l) M M') : Fr (some l) M (M'.set l c) := ⟨by rw [List.length_set]; exact a.1, fun i d n e => by
  rw [List.getElem?_set_ne (fun z => n (by rw [z]))]
  exact a.2 i d n e⟩
theorem Pre.at (a : Pre M M') {i : Nat} {d : Cell} (h : M[i]? = some d) : M'[i]? = some d := a.2 i d (by simp) h
theorem Fr.at (a : Fr r M M') {i : Nat} {d : Cell} (h : M[i]? = some d) (n : some i ≠ r) : M'[i]? = some d := a.2 i d n h
theorem at_set {d : Cell} (h : M[l]? = some d) : (M.set l c)[l]? = some c := List.getElem?_set_self (List.getElem?_eq_some_iff.mp h).1
theorem at_ne {i : Nat} {d : Cell} (n : i ≠ l) (h : M[i]? = some d) : (M.set l c)[i]? = some d := by rw [List.getElem?_set_ne (fun z => n z.symm)]; exact h
theorem listAt_of {xs : List A} (h : M[l]? = some (.lst xs)) : listAt M l = some xs := by unfold listAt; rw [h]; rfl
theorem listAt_frz {xs : List A} (h : M[l]? = some (.frz xs)) : listAt M l = some xs := by unfold listAt; rw [h]; rfl
end
/-! ### ops -/
section
variable {M : Store} {xs ys : List A} {x y : A} {l : Nat}
theorem atI_nat {α : Type} {xs : List α} {i : Nat} {x : α} (h : xs[i]? = some x) : atI xs (i : Int) = some x := by
  unfold atI ixN
  have : i < xs.length := (List.getElem?_eq_some_iff.mp h).1
  rw [if_pos (by omega), if_pos (by omega)]
  simpa using h
theorem ix_lst {i : Nat} (hl : listAt M l = some xs) (h : xs[i]? = some x) : oIx (.lst l) (.int i) M = some (x, M) := by
  show (listAt M l).bind (fun xs => (atI xs (i : Int)).map (·, M)) = _
  rw [hl]
  show (atI xs (i : Int)).map (·, M) = _
  rw [atI_nat h]
  rfl
theorem len_lst (h : listAt M l = some xs) : oLenN [.lst l] M = some (.int (xs.length : Nat), M) := by
  show (listAt M l).map _ = _
  rw [h]
  rfl
end
end AB
local macro_rules | `(tactic| walk_at "ws") => `(tactic| first
  | with_reducible refine AB.w_seq ?_ | with_reducible refine AB.w_sNil ?_ | with_reducible refine AB.w_set ?_ | with_reducible refine AB.w_cons ?_ | with_reducible refine AB.w_nil ?_ | with_reducible refine AB.w_op ?_ | with_reducible refine AB.w_fn ?_ | with_reducible refine AB.w_un ?_
  | ((with_reducible refine AB.w_var (a := ?aa) ?ee ?hh); (case ee => rfl)) | with_reducible refine AB.w_C ?_ | with_reducible refine AB.w_ret ?_ | with_reducible refine AB.w_if ?_ | with_reducible refine AB.w_expr ?_
  | with_reducible refine AB.w_eAnd ?_ | with_reducible refine AB.w_eOr ?_ | with_reducible refine AB.w_eNot ?_ | with_reducible refine AB.w_eIf ?_ | with_reducible refine AB.w_B ?_ | with_reducible refine AB.w_T ?_ | with_reducible refine AB.w_not ?_ | with_reducible refine AB.w_bor ?_ | with_reducible refine AB.w_band ?_ | with_reducible refine AB.w_yes ?_
  | with_reducible refine AB.w_meth ?_ | with_reducible refine AB.w_methN ?_ | with_reducible refine AB.w_chain ?_ | with_reducible refine AB.w_call ?_ | with_reducible refine AB.w_callD ?_ | with_reducible refine AB.w_tup ?_ | with_reducible refine AB.w_lst ?_ | with_reducible refine AB.w_newK ?_ | with_reducible refine AB.w_newT ?_ | with_reducible refine AB.w_newN ?_
  | with_reducible refine AB.w_setL ?_ | with_reducible refine AB.w_dput ?_ | with_reducible refine AB.w_par3 ?_ | with_reducible refine AB.w_par ?_ | with_reducible refine AB.w_mix ?_ | with_reducible refine AB.w_g1 ?_ | with_reducible refine AB.w_lrg ?_ | with_reducible refine AB.w_trg ?_ | with_reducible refine AB.w_retN ?_
  | with_reducible refine AB.w_asg ?_)
/-! AB15: raise of an own exception that bears no field -/
namespace AB
open PySem PySem.Spec PyProof.Rows L2
section
variable {X : Cx} {W : WR} {pos : Pos} {e : Expr}
end
end AB
/-! PM: itertools.permutations of range(n), as what a for walks over -/
namespace PM
open PySem PySem.Spec PyProof.Rows L2
open Sem (wp)
theorem mro_pm : mroOf (.type "itertools.permutations") = pure [.type "itertools.permutations", .type "object"] := by rw [mroOf_type]; kernel_rfl
theorem lookup_pm_new : typeLookup (.type "itertools.permutations") "__new__" = pure (some (.builtin "itertools.permutations.__new__")) := by rw [typeLookup_type, builtinLookup_eq_fast]; kernel_rfl
theorem slot_pm_init : Slot "itertools.permutations" "__init__" "object.__init__" :=
  .of (owner := "object") (n := "__init__") (by rw [typeLookup_type, builtinLookup_eq_fast]; kernel_rfl) (by decide +kernel) (by decide +kernel) (by decide +kernel)
    (by first | exact .inl (by decide +kernel) | exact .inr (by decide +kernel)) (by rw [isSubtype_type]; kernel_rfl)
theorem sub_pm : isSubtype (.type "itertools.permutations") (.type "itertools.permutations") = pure true := by rw [isSubtype_type]; kernel_rfl
theorem called_pm : TypeCalled "itertools.permutations" "itertools.permutations.__new__" "object.__init__" :=
  ⟨by decide +kernel, by decide +kernel, ⟨_, _, mro_pm⟩, madeBy_type mro_pm lookup_pm_new (by decide +kernel), by decide +kernel, sub_pm, slot_pm_init⟩
theorem typeCall_pm_1 (a : Value) : checkTypeCall "itertools.permutations" ⟨[a], []⟩ = pure () := by kernel_rfl
theorem newCall_pm_1 (a : Value) : checkBuiltinCall "itertools.permutations.__new__" ⟨[.type "itertools.permutations", a], []⟩ = pure () := by kernel_rfl
theorem entry_pm_new : entryFor table "itertools.permutations.__new__" = some Builtin.«itertools.permutations.__new__» := entryFor_of_tree (by kernel_rfl)
theorem slot_pm_iter : Slot "itertools.permutations" "__iter__" "itertools.permutations.__iter__" :=
  .of (owner := "itertools.permutations") (n := "__iter__") (by rw [typeLookup_type, builtinLookup_eq_fast]; kernel_rfl) (by decide +kernel) (by decide +kernel) (by decide +kernel)
    (by first | exact .inl (by decide +kernel) | exact .inr (by decide +kernel)) sub_pm
theorem slot_pm_next : Slot "itertools.permutations" "__next__" "itertools.permutations.__next__" :=
  .of (owner := "itertools.permutations") (n := "__next__") (by rw [typeLookup_type, builtinLookup_eq_fast]; kernel_rfl) (by decide +kernel) (by decide +kernel) (by decide +kernel)
    (by first | exact .inl (by decide +kernel) | exact .inr (by decide +kernel)) sub_pm
theorem entry_pm_iter : entryFor table "itertools.permutations.__iter__" = some Builtin.«dict_keyiterator.__iter__» :=
  entryFor_alias (id' := "dict_keyiterator.__iter__") (by kernel_rfl) (by first | rfl | decide +kernel | (unfold String.splitOn; simp +decide [String.splitOnAux])) (by decide +kernel) (by kernel_rfl)
theorem entry_pm_next : entryFor table "itertools.permutations.__next__" = some Builtin.«itertools.permutations.__next__» := entryFor_of_tree (by kernel_rfl)
theorem owner_pm : Manifest.owners.lookup (String.ofList ("itertools.permutations".toList.reverse).reverse) = some Manifest.sig_itertools_permutations := by kernel_rfl
theorem args_pm_iter (a : Value) : argsOk "itertools.permutations.__iter__" ⟨[a], []⟩ := by
  unfold argsOk; rw [signature?_of (id := "itertools.permutations.__iter__") (n := ['_', '_', 'r', 'e', 't', 'i', '_', '_']) (o := "itertools.permutations".toList.reverse) (by kernel_rfl) owner_pm]; kernel_rfl
theorem args_pm_next (a : Value) : argsOk "itertools.permutations.__next__" ⟨[a], []⟩ := by
  unfold argsOk; rw [signature?_of (id := "itertools.permutations.__next__") (n := ['_', '_', 't', 'x', 'e', 'n', '_', '_']) (o := "itertools.permutations".toList.reverse) (by kernel_rfl) owner_pm]; kernel_rfl
theorem noDict_pm : typeHasDict (.type "itertools.permutations") = false := by decide +kernel
/-- how many orders come -/
def fct : Nat → Nat
  | 1 => 1
  | 2 => 2
  | 3 => 6
  | _ => 0
/-- the places behind i steps -/
def ix : Nat → Nat → List Nat
  | 1, 0 => [0]
  | 2, 0 => [0, 1]
  | 2, 1 => [1, 0]
  | 3, 0 => [0, 1, 2]
  | 3, 1 => [0, 2, 1]
  | 3, 2 => [1, 0, 2]
  | 3, 3 => [1, 2, 0]
  | 3, 4 => [2, 0, 1]
  | 3, 5 => [2, 1, 0]
  | _, _ => []
def cy : Nat → Nat → List Nat
  | 1, 0 => [1]
  | 2, 0 => [2, 1]
  | 2, 1 => [1, 1]
  | 3, 0 => [3, 2, 1]
  | 3, 1 => [3, 1, 1]
  | 3, 2 => [2, 2, 1]
  | 3, 3 => [2, 1, 1]
  | 3, 4 => [1, 2, 1]
  | 3, 5 => [1, 1, 1]
  | _, _ => []
/-- the numbers that stand in the record -/
@[irreducible] def nums (n i : Nat) : List Value := ((ix n i).map fun j : Nat => rawInt (j : Int)) ++ ((cy n i).map fun j : Nat => rawInt (j : Int))
/-- the record, i orders having come -/
def rec (n i : Nat) (pool : Addr) (last : Value) : Array Value := ([.ref pool, rawInt (if i = 0 then 0 else 1), rawInt (n : Int), last] ++ nums n (i - 1)).toArray
/-- the pool: 0 to n - 1 -/
@[irreducible] def poolV (ts : List Tok) : List Value := (ts.zipIdx).map fun p => .int (p.2 : Int) p.1
def At (h : Heap) (it pool : Addr) (n i : Nat) : Prop := ∃ (last : Value) (ts : List Tok), ts.length = n ∧ pool ≠ it ∧ h.get? it = some { cls := .type "itertools.permutations", dict := none, data := .fields (rec n i pool last), slots := #[] } ∧
  h.get? pool = some { cls := .type "tuple", dict := none, data := .seq (poolV ts).toArray, slots := #[] }
section
variable {prog : Program} {w : World} {A : Around} {E : Value → Shared → Prop} {s : Shared}
theorem pm_iter {it pool : Addr} {n i : Nat} {Q : Value → Shared → Prop} (hit : At s.heap it pool n i) (h : Q (.ref it) s) : wpAny (model prog w) A (pyIter (.ref it)) Q E s := by
  obtain ⟨last, ts, _, _, hit, _⟩ := hit
  have hT : s.TypeIs (.ref it) "itertools.permutations" := ⟨_, hit, rfl⟩
  refine wpAny_pyIter_slot hT slot_pm_iter (wpAny_call_entry slot_pm_iter hT entry_pm_iter ?_ (args_pm_iter _))
  show wpAny _ _ (ret (.ref it)) _ _ s
  exact wpAny_pure ⟨_, rfl, "itertools.permutations", _, hT, slot_pm_next.lookup, h⟩
end
end PM
namespace PM
open PySem PySem.Spec PyProof.Rows L2
open Sem (wp)
section
variable {prog : Program} {w : World} {A : Around} {E : Value → Shared → Prop} {s : Shared}
/-- the order that comes next, as it is laid -/
def row (n i : Nat) (ts : List Tok) : List Value := (ix n i).map fun j => (poolV ts).toArray.getD j .none
theorem poolV_len (ts : List Tok) : (poolV ts).length = ts.length := by unfold poolV; simp
abbrev pmO (r : Array Value) : Obj := { cls := .type "itertools.permutations", dict := none, data := .fields r, slots := #[] }
theorem at_next {h' : Heap} {it pool t : Addr} {n i : Nat} {ts : List Tok} {r : Array Value} (hl : ts.length = n) (hne : pool ≠ it) (hr : r = rec n (i + 1) pool (.ref t))
    (h1 : h'.get? it = some (pmO r)) (h2 : h'.get? pool = some { cls := .type "tuple", dict := none, data := .seq (poolV ts).toArray, slots := #[] }) : At h' it pool n (i + 1) :=
  ⟨.ref t, ts, hl, hne, hr ▸ h1, h2⟩
theorem fin_row2 {it : Addr} {r : Array Value} {us us' : List Value} {last : Value} {Q : Option Value → Shared → Prop} (he : us = us') (hit : s.heap.get? it = some (pmO r)) (h3 : r[3]? = some last) (hu : us'.length ≤ 3)
    (hQ : ∀ h' t, t = s.heap.objs.size → h'.get? it = some (pmO (r.setIfInBounds 3 (.ref t))) → (∀ b o, b ≠ it → s.heap.get? b = some o → h'.get? b = some o) → h'.get? t = some { cls := .type "tuple", data := .seq us'.toArray } → Q (some (.ref t)) { s with heap := h' }) :
    wpAny (model prog w) A.in1 (newTuple us) (fun t s' => wpAny (model prog w) A.in1 (do
      let before ← field (.ref it) 3
      setField (.ref it) 3 t
      letGo [before] [t]
      ret t) (fun fin s' => ∃ v, fin = Fin.done (.ret v) ∧ Q (some v) s') E s') E s := by
  subst he
  obtain ⟨hp0, g, d, tk, os⟩ := s
  have h3s : 3 < r.size := (Array.getElem?_eq_some_iff.mp h3).1
  have nit : it ≠ hp0.objs.size := Nat.ne_of_lt (Heap.lt_size (show hp0.get? it = some (pmO r) from hit))
  unfold newTuple
  refine wpAny_newObj_type ?_ (by show us.toArray.size ≤ sizeLine; rw [List.size_toArray, sizeLine_eq]; omega)
  have hit1 := Heap.get?_push_of_some { cls := .type "tuple", data := .seq us.toArray } (show hp0.get? it = some (pmO r) from hit)
  refine wpAny_bind (wpAny_field hit1 rfl h3 ?_)
  refine wpAny_bind (wpAny_setField hit1 rfl h3s ?_)
  refine wpAny_bind (wpAny_letGo ?_)
  refine wpAny_pure ⟨_, rfl, hQ _ _ rfl (Heap.get?_update_self _ hit1 rfl) (fun b o hb ho => (Heap.get?_update_ne _ _ _ _ hb).trans (Heap.get?_push_of_some _ ho)) ?_⟩
  exact (Heap.get?_update_ne _ _ _ _ nit.symm).trans (Heap.get?_push_size _ rfl)
/-- what an order's coming brings -/
def Came (s : Shared) (it pool : Addr) (n i : Nat) (Q : Option Value → Shared → Prop) : Prop :=
  ∀ h' ts t, t = s.heap.objs.size → ts.length = n → At h' it pool n (i + 1) → (∀ b o, b ≠ it → s.heap.get? b = some o → h'.get? b = some o) → h'.get? t = some { cls := .type "tuple", data := .seq (row n i ts).toArray } → Q (some (.ref t)) { s with heap := h' }
theorem item10 {it pool : Addr} {Q : Option Value → Shared → Prop} (hit : At s.heap it pool 1 0) (hQ : Came s it pool 1 0 Q) : wpAny (model prog w) A (callSpecial? (.ref it) "__next__") Q E s := by
  obtain ⟨last, ts, hl, hne, hit, hp⟩ := hit
  have hT : s.TypeIs (.ref it) "itertools.permutations" := ⟨_, hit, rfl⟩
  refine wpAny_callSpecial?_slot (name := Str.ofString "__next__") hT slot_pm_next (wpAny_call_entry slot_pm_next hT entry_pm_next ?_ (args_pm_next _))
  obtain ⟨hp0, g, d, tk, os⟩ := s
  have hl0 := hl
  match ts, hl with
  | [t0], _ =>
  unfold Builtin.«itertools.permutations.__next__»
  repeat (first
    | (with_reducible refine wpAny_field hit rfl (by rfl) ?_)
    | with_reducible refine wpAny_loadPart_at hit ?_
    | with_reducible refine wpAny_loadPart_at hp ?_
    | wp_step
    | dsimp only)
  have hit1 : (hp0.update it (Obj.mapFields fun x => x.setIfInBounds 1 (rawInt 1))).get? it = some (pmO (([.ref pool, rawInt 1, rawInt (1 : Nat), last] ++ nums 1 0).toArray)) := (Heap.get?_update_self _ hit rfl).trans (by simp [rec, Obj.mapFields])
  refine fin_row2 (us' := row 1 0 [t0]) (by unfold row rec nums; rfl) hit1 (last := last) rfl (by simp [row, ix]) fun h' t ht h1 k h2 => ?_
  have k' : ∀ b o, b ≠ it → hp0.get? b = some o → h'.get? b = some o := fun b o hb ho => k b o hb ((Heap.get?_update_ne _ _ _ _ hb).trans ho)
  exact hQ h' [t0] t (ht.trans (Heap.size_update ..)) hl0 (at_next (t := t) hl0 hne (by simp [rec]) h1 (k' _ _ hne hp)) k' h2
theorem item20 {it pool : Addr} {Q : Option Value → Shared → Prop} (hit : At s.heap it pool 2 0) (hQ : Came s it pool 2 0 Q) : wpAny (model prog w) A (callSpecial? (.ref it) "__next__") Q E s := by
  obtain ⟨last, ts, hl, hne, hit, hp⟩ := hit
  have hT : s.TypeIs (.ref it) "itertools.permutations" := ⟨_, hit, rfl⟩
  refine wpAny_callSpecial?_slot (name := Str.ofString "__next__") hT slot_pm_next (wpAny_call_entry slot_pm_next hT entry_pm_next ?_ (args_pm_next _))
  obtain ⟨hp0, g, d, tk, os⟩ := s
  have hl0 := hl
  match ts, hl with
  | [t0, t1], _ =>
  unfold Builtin.«itertools.permutations.__next__»
  repeat (first
    | (with_reducible refine wpAny_field hit rfl (by rfl) ?_)
    | with_reducible refine wpAny_loadPart_at hit ?_
    | with_reducible refine wpAny_loadPart_at hp ?_
    | wp_step
    | dsimp only)
  have hit1 : (hp0.update it (Obj.mapFields fun x => x.setIfInBounds 1 (rawInt 1))).get? it = some (pmO (([.ref pool, rawInt 1, rawInt (2 : Nat), last] ++ nums 2 0).toArray)) := (Heap.get?_update_self _ hit rfl).trans (by simp [rec, Obj.mapFields])
  refine fin_row2 (us' := row 2 0 [t0, t1]) (by unfold row rec nums; rfl) hit1 (last := last) rfl (by simp [row, ix]) fun h' t ht h1 k h2 => ?_
  have k' : ∀ b o, b ≠ it → hp0.get? b = some o → h'.get? b = some o := fun b o hb ho => k b o hb ((Heap.get?_update_ne _ _ _ _ hb).trans ho)
  exact hQ h' [t0, t1] t (ht.trans (Heap.size_update ..)) hl0 (at_next (t := t) hl0 hne (by simp [rec]) h1 (k' _ _ hne hp)) k' h2
theorem item21 {it pool : Addr} {Q : Option Value → Shared → Prop} (hit : At s.heap it pool 2 1) (hQ : Came s it pool 2 1 Q) : wpAny (model prog w) A (callSpecial? (.ref it) "__next__") Q E s := by
  obtain ⟨last, ts, hl, hne, hit, hp⟩ := hit
  have hT : s.TypeIs (.ref it) "itertools.permutations" := ⟨_, hit, rfl⟩
  refine wpAny_callSpecial?_slot (name := Str.ofString "__next__") hT slot_pm_next (wpAny_call_entry slot_pm_next hT entry_pm_next ?_ (args_pm_next _))
  obtain ⟨hp0, g, d, tk, os⟩ := s
  have hl0 := hl
  match ts, hl with
  | [t0, t1], _ =>
  unfold Builtin.«itertools.permutations.__next__»
  repeat (first
    | (with_reducible refine wpAny_field hit rfl (by rfl) ?_)
    | with_reducible refine wpAny_loadPart_at hit ?_
    | with_reducible refine wpAny_loadPart_at hp ?_
    | wp_step
    | dsimp only)
  split
  case h_1 idx cyc hx =>
    have e2 : some (idx, cyc) = some (ix 2 1, cy 2 1) := hx.symm.trans (by kernel_rfl)
    cases e2
    clear hx
    refine wpAny_bind ?_
    unfold Builtin.Itertools.itSetNumbersFrom
    refine wpAny_updateFields hit rfl ?_ (by show ((rec 2 1 pool last).extract 0 4 ++ _).size ≤ _; simp [rec, nums, ix, cy, sizeLine])
    have hit1 : (hp0.update it (Obj.mapFields fun fs => fs.extract 0 4 ++ (List.map (fun n : Nat => rawInt (n : Int)) (ix 2 1 ++ cy 2 1)).toArray)).get? it = some (pmO (([.ref pool, rawInt 1, rawInt (2 : Nat), last] ++ nums 2 1).toArray)) :=
      (Heap.get?_update_self _ hit rfl).trans (by simp [rec, nums, ix, cy, Obj.mapFields])
    refine wpAny_bind (fin_row2 (us' := row 2 1 [t0, t1]) (by rfl) hit1 (last := last) rfl (by simp [row, ix]) fun h' t ht h1 k h2 => ?_)
    have k' : ∀ b o, b ≠ it → hp0.get? b = some o → h'.get? b = some o := fun b o hb ho => k b o hb ((Heap.get?_update_ne _ _ _ _ hb).trans ho)
    exact hQ h' [t0, t1] t (ht.trans (Heap.size_update ..)) hl0 (at_next (t := t) hl0 hne (by simp [rec]) h1 (k' _ _ hne hp)) k' h2
  case h_2 hx =>
    exact absurd (hx.symm.trans (show _ = some (ix 2 1, cy 2 1) by kernel_rfl)) (fun z => nomatch z)
theorem item30 {it pool : Addr} {Q : Option Value → Shared → Prop} (hit : At s.heap it pool 3 0) (hQ : Came s it pool 3 0 Q) : wpAny (model prog w) A (callSpecial? (.ref it) "__next__") Q E s := by
  obtain ⟨last, ts, hl, hne, hit, hp⟩ := hit
  have hT : s.TypeIs (.ref it) "itertools.permutations" := ⟨_, hit, rfl⟩
  refine wpAny_callSpecial?_slot (name := Str.ofString "__next__") hT slot_pm_next (wpAny_call_entry slot_pm_next hT entry_pm_next ?_ (args_pm_next _))
  obtain ⟨hp0, g, d, tk, os⟩ := s
  have hl0 := hl
  match ts, hl with
  | [t0, t1, t2], _ =>
  unfold Builtin.«itertools.permutations.__next__»
  repeat (first
    | (with_reducible refine wpAny_field hit rfl (by rfl) ?_)
    | with_reducible refine wpAny_loadPart_at hit ?_
    | with_reducible refine wpAny_loadPart_at hp ?_
    | wp_step
    | dsimp only)
  have hit1 : (hp0.update it (Obj.mapFields fun x => x.setIfInBounds 1 (rawInt 1))).get? it = some (pmO (([.ref pool, rawInt 1, rawInt (3 : Nat), last] ++ nums 3 0).toArray)) := (Heap.get?_update_self _ hit rfl).trans (by simp [rec, Obj.mapFields])
  refine fin_row2 (us' := row 3 0 [t0, t1, t2]) (by unfold row rec nums; rfl) hit1 (last := last) rfl (by simp [row, ix]) fun h' t ht h1 k h2 => ?_
  have k' : ∀ b o, b ≠ it → hp0.get? b = some o → h'.get? b = some o := fun b o hb ho => k b o hb ((Heap.get?_update_ne _ _ _ _ hb).trans ho)
  exact hQ h' [t0, t1, t2] t (ht.trans (Heap.size_update ..)) hl0 (at_next (t := t) hl0 hne (by simp [rec]) h1 (k' _ _ hne hp)) k' h2
theorem item31 {it pool : Addr} {Q : Option Value → Shared → Prop} (hit : At s.heap it pool 3 1) (hQ : Came s it pool 3 1 Q) : wpAny (model prog w) A (callSpecial? (.ref it) "__next__") Q E s := by
  obtain ⟨last, ts, hl, hne, hit, hp⟩ := hit
  have hT : s.TypeIs (.ref it) "itertools.permutations" := ⟨_, hit, rfl⟩
  refine wpAny_callSpecial?_slot (name := Str.ofString "__next__") hT slot_pm_next (wpAny_call_entry slot_pm_next hT entry_pm_next ?_ (args_pm_next _))
  obtain ⟨hp0, g, d, tk, os⟩ := s
  have hl0 := hl
  match ts, hl with
  | [t0, t1, t2], _ =>
  unfold Builtin.«itertools.permutations.__next__»
  repeat (first
    | (with_reducible refine wpAny_field hit rfl (by rfl) ?_)
    | with_reducible refine wpAny_loadPart_at hit ?_
    | with_reducible refine wpAny_loadPart_at hp ?_
    | wp_step
    | dsimp only)
  split
  case h_1 idx cyc hx =>
    have e2 : some (idx, cyc) = some (ix 3 1, cy 3 1) := hx.symm.trans (by kernel_rfl)
    cases e2
    clear hx
    refine wpAny_bind ?_
    unfold Builtin.Itertools.itSetNumbersFrom
    refine wpAny_updateFields hit rfl ?_ (by show ((rec 3 1 pool last).extract 0 4 ++ _).size ≤ _; simp [rec, nums, ix, cy, sizeLine])
    have hit1 : (hp0.update it (Obj.mapFields fun fs => fs.extract 0 4 ++ (List.map (fun n : Nat => rawInt (n : Int)) (ix 3 1 ++ cy 3 1)).toArray)).get? it = some (pmO (([.ref pool, rawInt 1, rawInt (3 : Nat), last] ++ nums 3 1).toArray)) :=
      (Heap.get?_update_self _ hit rfl).trans (by simp [rec, nums, ix, cy, Obj.mapFields])
    refine wpAny_bind (fin_row2 (us' := row 3 1 [t0, t1, t2]) (by rfl) hit1 (last := last) rfl (by simp [row, ix]) fun h' t ht h1 k h2 => ?_)
    have k' : ∀ b o, b ≠ it → hp0.get? b = some o → h'.get? b = some o := fun b o hb ho => k b o hb ((Heap.get?_update_ne _ _ _ _ hb).trans ho)
    exact hQ h' [t0, t1, t2] t (ht.trans (Heap.size_update ..)) hl0 (at_next (t := t) hl0 hne (by simp [rec]) h1 (k' _ _ hne hp)) k' h2
  case h_2 hx =>
    exact absurd (hx.symm.trans (show _ = some (ix 3 1, cy 3 1) by kernel_rfl)) (fun z => nomatch z)
theorem item32 {it pool : Addr} {Q : Option Value → Shared → Prop} (hit : At s.heap it pool 3 2) (hQ : Came s it pool 3 2 Q) : wpAny (model prog w) A (callSpecial? (.ref it) "__next__") Q E s := by
  obtain ⟨last, ts, hl, hne, hit, hp⟩ := hit
  have hT : s.TypeIs (.ref it) "itertools.permutations" := ⟨_, hit, rfl⟩
  refine wpAny_callSpecial?_slot (name := Str.ofString "__next__") hT slot_pm_next (wpAny_call_entry slot_pm_next hT entry_pm_next ?_ (args_pm_next _))
  obtain ⟨hp0, g, d, tk, os⟩ := s
  have hl0 := hl
  match ts, hl with
  | [t0, t1, t2], _ =>
  unfold Builtin.«itertools.permutations.__next__»
  repeat (first
    | (with_reducible refine wpAny_field hit rfl (by rfl) ?_)
    | with_reducible refine wpAny_loadPart_at hit ?_
    | with_reducible refine wpAny_loadPart_at hp ?_
    | wp_step
    | dsimp only)
  split
  case h_1 idx cyc hx =>
    have e2 : some (idx, cyc) = some (ix 3 2, cy 3 2) := hx.symm.trans (by kernel_rfl)
    cases e2
    clear hx
    refine wpAny_bind ?_
    unfold Builtin.Itertools.itSetNumbersFrom
    refine wpAny_updateFields hit rfl ?_ (by show ((rec 3 2 pool last).extract 0 4 ++ _).size ≤ _; simp [rec, nums, ix, cy, sizeLine])
    have hit1 : (hp0.update it (Obj.mapFields fun fs => fs.extract 0 4 ++ (List.map (fun n : Nat => rawInt (n : Int)) (ix 3 2 ++ cy 3 2)).toArray)).get? it = some (pmO (([.ref pool, rawInt 1, rawInt (3 : Nat), last] ++ nums 3 2).toArray)) :=
      (Heap.get?_update_self _ hit rfl).trans (by simp [rec, nums, ix, cy, Obj.mapFields])
    refine wpAny_bind (fin_row2 (us' := row 3 2 [t0, t1, t2]) (by rfl) hit1 (last := last) rfl (by simp [row, ix]) fun h' t ht h1 k h2 => ?_)
    have k' : ∀ b o, b ≠ it → hp0.get? b = some o → h'.get? b = some o := fun b o hb ho => k b o hb ((Heap.get?_update_ne _ _ _ _ hb).trans ho)
    exact hQ h' [t0, t1, t2] t (ht.trans (Heap.size_update ..)) hl0 (at_next (t := t) hl0 hne (by simp [rec]) h1 (k' _ _ hne hp)) k' h2
  case h_2 hx =>
    exact absurd (hx.symm.trans (show _ = some (ix 3 2, cy 3 2) by kernel_rfl)) (fun z => nomatch z)
theorem item33 {it pool : Addr} {Q : Option Value → Shared → Prop} (hit : At s.heap it pool 3 3) (hQ : Came s it pool 3 3 Q) : wpAny (model prog w) A (callSpecial? (.ref it) "__next__") Q E s := by
  obtain ⟨last, ts, hl, hne, hit, hp⟩ := hit
  have hT : s.TypeIs (.ref it) "itertools.permutations" := ⟨_, hit, rfl⟩
  refine wpAny_callSpecial?_slot (name := Str.ofString "__next__") hT slot_pm_next (wpAny_call_entry slot_pm_next hT entry_pm_next ?_ (args_pm_next _))
  obtain ⟨hp0, g, d, tk, os⟩ := s
  have hl0 := hl
  match ts, hl with
  | [t0, t1, t2], _ =>
  unfold Builtin.«itertools.permutations.__next__»
  repeat (first
    | (with_reducible refine wpAny_field hit rfl (by rfl) ?_)
    | with_reducible refine wpAny_loadPart_at hit ?_
    | with_reducible refine wpAny_loadPart_at hp ?_
    | wp_step
    | dsimp only)
  split
  case h_1 idx cyc hx =>
    have e2 : some (idx, cyc) = some (ix 3 3, cy 3 3) := hx.symm.trans (by kernel_rfl)
    cases e2
    clear hx
    refine wpAny_bind ?_
    unfold Builtin.Itertools.itSetNumbersFrom
    refine wpAny_updateFields hit rfl ?_ (by show ((rec 3 3 pool last).extract 0 4 ++ _).size ≤ _; simp [rec, nums, ix, cy, sizeLine])
    have hit1 : (hp0.update it (Obj.mapFields fun fs => fs.extract 0 4 ++ (List.map (fun n : Nat => rawInt (n : Int)) (ix 3 3 ++ cy 3 3)).toArray)).get? it = some (pmO (([.ref pool, rawInt 1, rawInt (3 : Nat), last] ++ nums 3 3).toArray)) :=
      (Heap.get?_update_self _ hit rfl).trans (by simp [rec, nums, ix, cy, Obj.mapFields])
    refine wpAny_bind (fin_row2 (us' := row 3 3 [t0, t1, t2]) (by rfl) hit1 (last := last) rfl (by simp [row, ix]) fun h' t ht h1 k h2 => ?_)
    have k' : ∀ b o, b ≠ it → hp0.get? b = some o → h'.get? b = some o := fun b o hb ho => k b o hb ((Heap.get?_update_ne _ _ _ _ hb).trans ho)
    exact hQ h' [t0, t1, t2] t (ht.trans (Heap.size_update ..)) hl0 (at_next (t := t) hl0 hne (by simp [rec]) h1 (k' _ _ hne hp)) k' h2
  case h_2 hx =>
    exact absurd (hx.symm.trans (show _ = some (ix 3 3, cy 3 3) by kernel_rfl)) (fun z => nomatch z)
theorem item34 {it pool : Addr} {Q : Option Value → Shared → Prop} (hit : At s.heap it pool 3 4) (hQ : Came s it pool 3 4 Q) : wpAny (model prog w) A (callSpecial? (.ref it) "__next__") Q E s := by
  obtain ⟨last, ts, hl, hne, hit, hp⟩ := hit
  have hT : s.TypeIs (.ref it) "itertools.permutations" := ⟨_, hit, rfl⟩
  refine wpAny_callSpecial?_slot (name := Str.ofString "__next__") hT slot_pm_next (wpAny_call_entry slot_pm_next hT entry_pm_next ?_ (args_pm_next _))
  obtain ⟨hp0, g, d, tk, os⟩ := s
  have hl0 := hl
  match ts, hl with
  | [t0, t1, t2], _ =>
  unfold Builtin.«itertools.permutations.__next__»
  repeat (first
    | (with_reducible refine wpAny_field hit rfl (by rfl) ?_)
    | with_reducible refine wpAny_loadPart_at hit ?_
    | with_reducible refine wpAny_loadPart_at hp ?_
    | wp_step
    | dsimp only)
  split
  case h_1 idx cyc hx =>
    have e2 : some (idx, cyc) = some (ix 3 4, cy 3 4) := hx.symm.trans (by kernel_rfl)
    cases e2
    clear hx
    refine wpAny_bind ?_
    unfold Builtin.Itertools.itSetNumbersFrom
    refine wpAny_updateFields hit rfl ?_ (by show ((rec 3 4 pool last).extract 0 4 ++ _).size ≤ _; simp [rec, nums, ix, cy, sizeLine])
    have hit1 : (hp0.update it (Obj.mapFields fun fs => fs.extract 0 4 ++ (List.map (fun n : Nat => rawInt (n : Int)) (ix 3 4 ++ cy 3 4)).toArray)).get? it = some (pmO (([.ref pool, rawInt 1, rawInt (3 : Nat), last] ++ nums 3 4).toArray)) :=
      (Heap.get?_update_self _ hit rfl).trans (by simp [rec, nums, ix, cy, Obj.mapFields])
    refine wpAny_bind (fin_row2 (us' := row 3 4 [t0, t1, t2]) (by rfl) hit1 (last := last) rfl (by simp [row, ix]) fun h' t ht h1 k h2 => ?_)
    have k' : ∀ b o, b ≠ it → hp0.get? b = some o → h'.get? b = some o := fun b o hb ho => k b o hb ((Heap.get?_update_ne _ _ _ _ hb).trans ho)
    exact hQ h' [t0, t1, t2] t (ht.trans (Heap.size_update ..)) hl0 (at_next (t := t) hl0 hne (by simp [rec]) h1 (k' _ _ hne hp)) k' h2
  case h_2 hx =>
    exact absurd (hx.symm.trans (show _ = some (ix 3 4, cy 3 4) by kernel_rfl)) (fun z => nomatch z)
theorem item35 {it pool : Addr} {Q : Option Value → Shared → Prop} (hit : At s.heap it pool 3 5) (hQ : Came s it pool 3 5 Q) : wpAny (model prog w) A (callSpecial? (.ref it) "__next__") Q E s := by
  obtain ⟨last, ts, hl, hne, hit, hp⟩ := hit
  have hT : s.TypeIs (.ref it) "itertools.permutations" := ⟨_, hit, rfl⟩
  refine wpAny_callSpecial?_slot (name := Str.ofString "__next__") hT slot_pm_next (wpAny_call_entry slot_pm_next hT entry_pm_next ?_ (args_pm_next _))
  obtain ⟨hp0, g, d, tk, os⟩ := s
  have hl0 := hl
  match ts, hl with
  | [t0, t1, t2], _ =>
  unfold Builtin.«itertools.permutations.__next__»
  repeat (first
    | (with_reducible refine wpAny_field hit rfl (by rfl) ?_)
    | with_reducible refine wpAny_loadPart_at hit ?_
    | with_reducible refine wpAny_loadPart_at hp ?_
    | wp_step
    | dsimp only)
  split
  case h_1 idx cyc hx =>
    have e2 : some (idx, cyc) = some (ix 3 5, cy 3 5) := hx.symm.trans (by kernel_rfl)
    cases e2
    clear hx
    refine wpAny_bind ?_
    unfold Builtin.Itertools.itSetNumbersFrom
    refine wpAny_updateFields hit rfl ?_ (by show ((rec 3 5 pool last).extract 0 4 ++ _).size ≤ _; simp [rec, nums, ix, cy, sizeLine])
    have hit1 : (hp0.update it (Obj.mapFields fun fs => fs.extract 0 4 ++ (List.map (fun n : Nat => rawInt (n : Int)) (ix 3 5 ++ cy 3 5)).toArray)).get? it = some (pmO (([.ref pool, rawInt 1, rawInt (3 : Nat), last] ++ nums 3 5).toArray)) :=
      (Heap.get?_update_self _ hit rfl).trans (by simp [rec, nums, ix, cy, Obj.mapFields])
    refine wpAny_bind (fin_row2 (us' := row 3 5 [t0, t1, t2]) (by rfl) hit1 (last := last) rfl (by simp [row, ix]) fun h' t ht h1 k h2 => ?_)
    have k' : ∀ b o, b ≠ it → hp0.get? b = some o → h'.get? b = some o := fun b o hb ho => k b o hb ((Heap.get?_update_ne _ _ _ _ hb).trans ho)
    exact hQ h' [t0, t1, t2] t (ht.trans (Heap.size_update ..)) hl0 (at_next (t := t) hl0 hne (by simp [rec]) h1 (k' _ _ hne hp)) k' h2
  case h_2 hx =>
    exact absurd (hx.symm.trans (show _ = some (ix 3 5, cy 3 5) by kernel_rfl)) (fun z => nomatch z)
theorem stop1 {it pool : Addr} {Q : Option Value → Shared → Prop} (hh : A.handled = none) (hit : At s.heap it pool 1 1)
    (hE : ∀ h' e, (∀ b o, b ≠ it → s.heap.get? b = some o → h'.get? b = some o) → (∃ o, h'.get? e = some o ∧ o.cls = .type "StopIteration") → E (.ref e) { s with heap := h' }) : wpAny (model prog w) A (callSpecial? (.ref it) "__next__") Q E s := by
  obtain ⟨last, ts, hl, hne, hit, hp⟩ := hit
  have hT : s.TypeIs (.ref it) "itertools.permutations" := ⟨_, hit, rfl⟩
  refine wpAny_callSpecial?_slot (name := Str.ofString "__next__") hT slot_pm_next (wpAny_call_entry slot_pm_next hT entry_pm_next ?_ (args_pm_next _))
  obtain ⟨hp0, g, d, tk, os⟩ := s
  have hl0 := hl
  match ts, hl with
  | [t0], _ =>
  unfold Builtin.«itertools.permutations.__next__»
  repeat (first
    | (with_reducible refine wpAny_field hit rfl (by rfl) ?_)
    | with_reducible refine wpAny_loadPart_at hit ?_
    | with_reducible refine wpAny_loadPart_at hp ?_
    | wp_step
    | dsimp only)
  split
  case h_1 idx cyc hx =>
    have e2 : some (idx, cyc) = none := hx.symm.trans (by kernel_rfl)
    cases e2
  case h_2 hx =>
    refine wpAny_bind (wpAny_setField hit rfl (by simp [rec]) ?_)
    unfold Builtin.Itertools.itStop
    refine wpAny_bind ?_
    simp only [newExc, newTuple]
    refine wpAny_bind (wpAny_newObj_type ?_ (by size_fits))
    refine wpAny_bind (m := firstArgMember _ _) (wpAny_of_eq (a := Value.none) (by first | rfl | (simp only [firstArgMember]; rfl)) ?_)
    refine wpAny_newObj_type ?_ (by size_fits)
    simp only [raiseNew]
    refine wpAny_bind (wpAny_handled ?_)
    first | rw [show A.in1.handled = none from hh] | rw [hh]
    refine wpAny_bind (wpAny_pure (wpAny_throw ?_))
    exact hE _ _ (((Heap.SameBut.update ..).extBut.push _).push _) ⟨_, Heap.get?_push_size _ rfl, rfl⟩
theorem stop2 {it pool : Addr} {Q : Option Value → Shared → Prop} (hh : A.handled = none) (hit : At s.heap it pool 2 2)
    (hE : ∀ h' e, (∀ b o, b ≠ it → s.heap.get? b = some o → h'.get? b = some o) → (∃ o, h'.get? e = some o ∧ o.cls = .type "StopIteration") → E (.ref e) { s with heap := h' }) : wpAny (model prog w) A (callSpecial? (.ref it) "__next__") Q E s := by
  obtain ⟨last, ts, hl, hne, hit, hp⟩ := hit
  have hT : s.TypeIs (.ref it) "itertools.permutations" := ⟨_, hit, rfl⟩
  refine wpAny_callSpecial?_slot (name := Str.ofString "__next__") hT slot_pm_next (wpAny_call_entry slot_pm_next hT entry_pm_next ?_ (args_pm_next _))
  obtain ⟨hp0, g, d, tk, os⟩ := s
  have hl0 := hl
  match ts, hl with
  | [t0, t1], _ =>
  unfold Builtin.«itertools.permutations.__next__»
  repeat (first
    | (with_reducible refine wpAny_field hit rfl (by rfl) ?_)
    | with_reducible refine wpAny_loadPart_at hit ?_
    | with_reducible refine wpAny_loadPart_at hp ?_
    | wp_step
    | dsimp only)
  split
  case h_1 idx cyc hx =>
    have e2 : some (idx, cyc) = none := hx.symm.trans (by kernel_rfl)
    cases e2
  case h_2 hx =>
    refine wpAny_bind (wpAny_setField hit rfl (by simp [rec]) ?_)
    unfold Builtin.Itertools.itStop
    refine wpAny_bind ?_
    simp only [newExc, newTuple]
    refine wpAny_bind (wpAny_newObj_type ?_ (by size_fits))
    refine wpAny_bind (m := firstArgMember _ _) (wpAny_of_eq (a := Value.none) (by first | rfl | (simp only [firstArgMember]; rfl)) ?_)
    refine wpAny_newObj_type ?_ (by size_fits)
    simp only [raiseNew]
    refine wpAny_bind (wpAny_handled ?_)
    first | rw [show A.in1.handled = none from hh] | rw [hh]
    refine wpAny_bind (wpAny_pure (wpAny_throw ?_))
    exact hE _ _ (((Heap.SameBut.update ..).extBut.push _).push _) ⟨_, Heap.get?_push_size _ rfl, rfl⟩
theorem stop3 {it pool : Addr} {Q : Option Value → Shared → Prop} (hh : A.handled = none) (hit : At s.heap it pool 3 6)
    (hE : ∀ h' e, (∀ b o, b ≠ it → s.heap.get? b = some o → h'.get? b = some o) → (∃ o, h'.get? e = some o ∧ o.cls = .type "StopIteration") → E (.ref e) { s with heap := h' }) : wpAny (model prog w) A (callSpecial? (.ref it) "__next__") Q E s := by
  obtain ⟨last, ts, hl, hne, hit, hp⟩ := hit
  have hT : s.TypeIs (.ref it) "itertools.permutations" := ⟨_, hit, rfl⟩
  refine wpAny_callSpecial?_slot (name := Str.ofString "__next__") hT slot_pm_next (wpAny_call_entry slot_pm_next hT entry_pm_next ?_ (args_pm_next _))
  obtain ⟨hp0, g, d, tk, os⟩ := s
  have hl0 := hl
  match ts, hl with
  | [t0, t1, t2], _ =>
  unfold Builtin.«itertools.permutations.__next__»
  repeat (first
    | (with_reducible refine wpAny_field hit rfl (by rfl) ?_)
    | with_reducible refine wpAny_loadPart_at hit ?_
    | with_reducible refine wpAny_loadPart_at hp ?_
    | wp_step
    | dsimp only)
  split
  case h_1 idx cyc hx =>
    have e2 : some (idx, cyc) = none := hx.symm.trans (by kernel_rfl)
    cases e2
  case h_2 hx =>
    refine wpAny_bind (wpAny_setField hit rfl (by simp [rec]) ?_)
    unfold Builtin.Itertools.itStop
    refine wpAny_bind ?_
    simp only [newExc, newTuple]
    refine wpAny_bind (wpAny_newObj_type ?_ (by size_fits))
    refine wpAny_bind (m := firstArgMember _ _) (wpAny_of_eq (a := Value.none) (by first | rfl | (simp only [firstArgMember]; rfl)) ?_)
    refine wpAny_newObj_type ?_ (by size_fits)
    simp only [raiseNew]
    refine wpAny_bind (wpAny_handled ?_)
    first | rw [show A.in1.handled = none from hh] | rw [hh]
    refine wpAny_bind (wpAny_pure (wpAny_throw ?_))
    exact hE _ _ (((Heap.SameBut.update ..).extBut.push _).push _) ⟨_, Heap.get?_push_size _ rfl, rfl⟩
theorem pm_item {it pool : Addr} {Q : Option Value → Shared → Prop} : ∀ n i, i < fct n → At s.heap it pool n i → Came s it pool n i Q → wpAny (model prog w) A (callSpecial? (.ref it) "__next__") Q E s
  | 1, 0, _, a, b => item10 a b
  | 2, 0, _, a, b => item20 a b
  | 2, 1, _, a, b => item21 a b
  | 3, 0, _, a, b => item30 a b
  | 3, 1, _, a, b => item31 a b
  | 3, 2, _, a, b => item32 a b
  | 3, 3, _, a, b => item33 a b
  | 3, 4, _, a, b => item34 a b
  | 3, 5, _, a, b => item35 a b
  | 1, _ + 1, h, _, _ => absurd h (by simp [fct])
  | 2, _ + 2, h, _, _ => absurd h (by simp [fct])
  | 3, _ + 6, h, _, _ => absurd h (by simp [fct])
  | 0, _, h, _, _ => absurd h (by simp [fct])
  | _ + 4, _, h, _, _ => absurd h (by simp [fct])
theorem pm_stop {it pool : Addr} {Q : Option Value → Shared → Prop} (hh : A.handled = none) : ∀ n, 1 ≤ n → n ≤ 3 → At s.heap it pool n (fct n) →
    (∀ h' e, (∀ b o, b ≠ it → s.heap.get? b = some o → h'.get? b = some o) → (∃ o, h'.get? e = some o ∧ o.cls = .type "StopIteration") → E (.ref e) { s with heap := h' }) → wpAny (model prog w) A (callSpecial? (.ref it) "__next__") Q E s
  | 1, _, _, a, b => stop1 hh a b
  | 2, _, _, a, b => stop2 hh a b
  | 3, _, _, a, b => stop3 hh a b
end
end PM
namespace PM
open PySem PySem.Spec PyProof.Rows L2
open Sem (wp)
theorem At.keep {h h' : Heap} {it pool : Addr} {n i : Nat} (a : At h it pool n i) (k : ∀ b ∈ [it, pool], ∀ o, h.get? b = some o → h'.get? b = some o) : At h' it pool n i := by
  obtain ⟨l, ts, h1, h2, h3, h4⟩ := a
  exact ⟨l, ts, h1, h2, k _ (by simp) _ h3, k _ (by simp) _ h4⟩
/-- the order, as values -/
def rowV (n i : Nat) : List V := (ix n i).map fun j : Nat => V.int (j : Int)
theorem ix_low : ∀ n i, ∀ j ∈ ix n i, j < n := by
  intro n i
  unfold ix
  split <;> simp
theorem row_vals {n i : Nat} {ts : List Tok} (hl : ts.length = n) : Vals (rowV n i) (row n i ts) := by
  have low := ix_low n i
  unfold rowV row
  generalize ix n i = l at low ⊢
  induction l with
  | nil => exact .nil
  | cons j l ih =>
    refine .cons ?_ (ih fun k hk => low k (List.mem_cons_of_mem _ hk))
    have hj : j < ts.length := by rw [hl]; exact low j (List.mem_cons_self ..)
    refine ⟨ts[j], ?_⟩
    unfold poolV
    simp [Array.getD, hj]
theorem row_len {n i : Nat} (ts : List Tok) : (row n i ts).length ≤ 3 := by
  unfold row ix
  split <;> simp
/-- what a for walks over -/
def ItPm (n : Nat) : It :=
  { go := fun i _ => i < fct n, yld := fun i H x H' => ∃ a, x = .ref a ∧ H a = none ∧ H' = upd H a (.tup (rowV n i)), stop := fun i _ => fct n ≤ i }
theorem turn_pm {P : Program} {w : World} {K : PySem.W.Frag} {tg : Expr} {n : Nat} (h1 : 1 ≤ n) (h3 : n ≤ 3) (it pool : Addr) : Turn P w K tg (ItPm n) [it, pool] it (fun i h => At h it pool n i ∧ i ≤ fct n) where
  mem := by simp
  obj := by
    intro i h a b hb
    replace a := a.1
    obtain ⟨l, ts, _, _, e1, e2⟩ := a
    have e : b = it ∨ b = pool := by simpa using hb
    rcases e with rfl | rfl
    · exact ⟨_, e1, fun v z => by cases z⟩
    · exact ⟨_, e2, fun v z => by cases z⟩
  keep := fun i h h' a k => ⟨a.1.keep k, a.2⟩
  item := by
    intro X hP hw hK hc i pins s σ H E I hf st hg
    subst hP hw hK
    replace st := st.1
    unfold pyNext
    refine wpAny_bind (wpAny_attempt (pm_item n i hg st fun h' ts t ht hl a' k hT => ?_))
    have na : t ≠ it := fun z => by
      obtain ⟨l, ts', _, _, e1, _⟩ := st
      have := Heap.lt_size e1
      rw [← z, ht] at this; exact absurd this (Nat.lt_irrefl _)
    have hm : ∀ b o, b ∉ [it, pool] → s.heap.get? b = some o → h'.get? b = some o := fun b o hb => k b o (fun z => hb (by simp [z]))
    have new : ObjOk X.prog X.w (upd H t (.tup (rowV n i))) h' t (.tup (rowV n i)) :=
      ⟨by have := row_len (n := n) (i := i) ts; have e := (row_vals (i := i) hl).length; rw [e, sizeLine_eq]; omega, row n i ts, row_vals hl, ⟨_, hT, rfl, _, rfl⟩⟩
    have I1 : Inv X pins σ (upd H t (.tup (rowV n i))) { s with heap := h', toks := s.toks } := I.turnedNew (ch := [it, pool]) hm hf (Nat.le_of_eq ht.symm) new
    refine wpAny_pure ⟨_, rfl, ?_⟩
    obtain ⟨l, ts', _, _, e1, _⟩ := id a'
    refine go_of (show h'.get? it = some _ from e1) rfl rfl (by decide) ?_
    refine ⟨.ref t, _, I1, rfl, ⟨t, rfl, I.hok.fresh (Nat.le_of_eq ht.symm), rfl⟩, ⟨a', hg⟩, fun b hb => ?_⟩
    have nb : b ≠ t := fun z => by
      obtain ⟨l, ts', _, _, e1, e2⟩ := st
      have e : b = it ∨ b = pool := by simpa using hb
      have lt : b < s.heap.objs.size := by
        rcases e with rfl | rfl
        · exact Heap.lt_size e1
        · exact Heap.lt_size e2
      rw [z, ht] at lt; exact absurd lt (Nat.lt_irrefl _)
    rw [upd_ne nb]; exact (hf b hb).1
  done := by
    intro X hP hw hK hc i pins s σ H E I hf st hg
    subst hP hw hK
    have hg : i = fct n := Nat.le_antisymm st.2 hg
    replace st := st.1
    subst hg
    unfold pyNext
    refine wpAny_bind (wpAny_attempt (pm_stop (I.ok.hd hc) n h1 h3 st fun h' e k hx => ?_))
    obtain ⟨f0, f1, f2, f3, f4, f5⟩ := hf it (by simp)
    obtain ⟨o, ho, hcl⟩ := hx
    have hTe : (⟨h', s.gens, s.drawn, s.toks, s.os⟩ : Shared).TypeIs (.ref e) "StopIteration" := ⟨_, ho, hcl⟩
    refine wpAny_bind (wpAny_isInstance (b := true) hTe (by rw [isSubtype_type]; kernel_rfl) ?_)
    exact wpAny_pure ⟨rfl, I.turned (t' := s.toks) k f0 f1 f3 f4 f5⟩
  self := fun A i s Q E st h => pm_iter st.1 h
end PM
namespace PM
open PySem PySem.Spec PyProof.Rows L2
open Sem (wp)
theorem bind_pm (v : Value) : Builtin.Itertools.itBindNamed "permutations" ["iterable", "r"] 1 2 [v] [] = (pure [some v, none] : Sem (List (Option Value))) := by first | kernel_rfl | rfl
theorem plain_pm_new : plainId "itertools.permutations.__new__" = true := by decide +kernel
theorem str_pm : ("itertools." ++ "permutations" : String) = "itertools.permutations" := by decide +kernel
theorem pool_of : ∀ {n : Nat} {acc : Array Value}, ItemsOf (fun i v => ∃ t, v = .int (0 + (i : Nat) * 1) t) acc n → ∃ ts : List Tok, ts.length = n ∧ acc.toList = poolV ts := by
  intro n acc hi
  refine ⟨acc.toList.map fun v => match v with | .int _ t => t | _ => 0, by rw [List.length_map, Array.length_toList]; exact hi.1, ?_⟩
  refine List.ext_getElem? fun i => ?_
  unfold poolV
  rw [List.getElem?_map, List.getElem?_zipIdx, List.getElem?_map]
  cases e : acc.toList[i]? with
  | none => rfl
  | some v =>
    obtain ⟨t, rfl⟩ := hi.2 i v (by rw [← e, Array.getElem?_toList])
    simp
theorem laid_pm {h : Heap} {n : Nat} {ts : List Tok} {r : Array Value} (hl : ts.length = n) (hr : r = rec n 0 h.objs.size .none) :
    At ((h.push { cls := .type "tuple", data := .seq (poolV ts).toArray }).push { cls := .type "itertools.permutations", dict := none, data := .fields r }) (h.push { cls := .type "tuple", data := .seq (poolV ts).toArray }).objs.size h.objs.size n 0 := by
  refine ⟨.none, ts, hl, ?_, ?_, ?_⟩
  · rw [Heap.size_push]; exact Nat.ne_of_lt (Nat.lt_succ_self _)
  · subst hr
    exact Heap.get?_push_size _ rfl
  · exact Heap.get?_push_of_some _ (Heap.get?_push_size _ rfl)
section
variable {prog : Program} {w : World} {A : Around} {E : Value → Shared → Prop} {R : Result → Shared → Prop} {s : Shared} {r : Addr} {b : Int} {t u v : Tok} {n : Nat}
theorem code_pm_new {Q : Value → Shared → Prop} (hh : A.handled = none) (hr : IsRange s.heap r 0 (n : Int) 1 t u v) (h1 : 1 ≤ n) (h3 : n ≤ 3)
    (h : ∀ (hm h' : Heap) (tk : Nat) (it pool : Addr), (∀ b o, s.heap.get? b = some o → hm.get? b = some o) → (∀ b o, hm.get? b = some o → h'.get? b = some o) → hm.objs.size ≤ it → hm.objs.size ≤ pool → At h' it pool n 0 → Q (.ref it) { s with heap := h', toks := tk }) :
    wpAny (model prog w) A (Builtin.«itertools.permutations.__new__» ⟨[.type "itertools.permutations", .ref r], []⟩) (fun fin s' => ∃ v, fin = Fin.done (.ret v) ∧ Q v s') E s := by
  obtain ⟨hp, g, d, tk, os⟩ := s
  have hsub := sub_pm
  have hdic := noDict_pm
  have hTI : (⟨hp, g, d, tk, os⟩ : Shared).TypeIs (.ref r) "range" := ⟨_, hr, rfl⟩
  have hsz : Builtin.Range.rangeSize 0 (n : Int) 1 = (n : Int) := (rangeSize_nat 0 (n : Int)).trans (by omega)
  have hsm : Builtin.Range.small 0 (n : Int) 1 = true := small_one (by omega) (by omega) (by omega) (by omega)
  unfold Builtin.«itertools.permutations.__new__»
  repeat (first
    | (with_reducible refine collect_range hh hr hsm hsz (Nat.le_trans h3 (by decide)) ?_)
    | (with_reducible refine wpAny_of_eq sub_pm ?_)
    | (with_reducible refine wpAny_of_eq (bind_pm _) ?_)
    | wp_step
    | (rw [str_pm])
    | simp only [List.head?_cons, Option.some_or, List.getElem?_cons_succ, List.getElem?_cons_zero, List.length_cons, List.length_nil, List.forIn_nil]
    | dsimp only)
  intro h' tk' acc hk hi
  obtain ⟨ts, hl, ea⟩ := pool_of hi
  rw [ea]
  have len : (poolV ts).length = n := (poolV_len ts).trans hl
  show wpAny _ _ (pure ((poolV ts).length : Int) >>= _) _ _ _
  refine wpAny_bind (wpAny_pure ?_)
  rw [len]
  rw [if_neg (by omega)]
  rw [if_neg (show ¬ (Builtin.Itertools.itTooMany (n : Int) = true) by rcases (by omega : n = 1 ∨ n = 2 ∨ n = 3) with rfl | rfl | rfl <;> decide)]
  unfold newTuple
  refine wpAny_bind (wpAny_newObj_type ?_ (by show (poolV ts).toArray.size ≤ sizeLine; rw [List.size_toArray, len, sizeLine_eq]; omega))
  unfold Builtin.Itertools.itNewRecord
  rw [hdic]
  refine wpAny_bind (m := if (!false) = true then _ else _) ?_
  rw [if_pos (by decide)]
  refine wpAny_newObj_type ?_ (by show Array.size _ ≤ _; simp [sizeLine]; omega)
  refine wpAny_pure ⟨_, rfl, h h' _ tk' _ h'.objs.size hk (fun b o e => ?_) ?_ (Nat.le_refl _) (laid_pm hl ?_)⟩
  · exact Heap.get?_push_of_some _ (Heap.get?_push_of_some _ e)
  · show h'.objs.size ≤ (h'.push _).objs.size
    rw [Heap.size_push]; exact Nat.le_succ _
  · rcases (by omega : n = 1 ∨ n = 2 ∨ n = 3) with rfl | rfl | rfl <;> (unfold rec nums; rfl)
theorem call_pm {Q : Value → Shared → Prop} (hh : A.handled = none) (hr : IsRange s.heap r 0 (n : Int) 1 t u v) (h1 : 1 ≤ n) (h3 : n ≤ 3)
    (h : ∀ (hm h' : Heap) (tk : Nat) (it pool : Addr), (∀ b o, s.heap.get? b = some o → hm.get? b = some o) → (∀ b o, hm.get? b = some o → h'.get? b = some o) → hm.objs.size ≤ it → hm.objs.size ≤ pool → At h' it pool n 0 → Q (.ref it) { s with heap := h', toks := tk }) :
    wpAny (model prog w) A (call (.type "itertools.permutations") [.ref r]) Q E s := by
  refine callType_codes (Q₁ := fun obj s₁ => s₁.TypeIs obj "itertools.permutations" ∧ Q obj s₁) called_pm (typeCall_pm_1 _) F.entry_object_init ?_ fun obj s₁ h₁ => ?_
  · refine codeAny_of_tree ?_
    show wpAny _ A.in1.in1 (do checkBuiltinCall "itertools.permutations.__new__" ⟨[.type "itertools.permutations", .ref r], []⟩; again (.builtin "itertools.permutations.__new__" ⟨[.type "itertools.permutations", .ref r], []⟩)) _ _ s
    refine wpAny_bind (wpAny_of_eq (newCall_pm_1 _) (wpAny_pure ⟨plainId_quiet plain_pm_new _, codeAny_builtin entry_pm_new ?_⟩))
    rw [Around.under_plainId plain_pm_new _]
    refine wpAny_mono (code_pm_new (A := A.in1.in1) (Q := fun v s' => s'.TypeIs v "itertools.permutations" ∧ Q v s') hh hr h1 h3 fun hm h' tk it pool k1 k2 l1 l2 a => (show (⟨h', s.gens, s.drawn, tk, s.os⟩ : Shared).TypeIs (.ref it) "itertools.permutations" ∧ Q (.ref it) ⟨h', s.gens, s.drawn, tk, s.os⟩ from ⟨?_, h hm h' tk it pool k1 k2 l1 l2 a⟩)) (fun fin s' hf => ?_) fun _ _ z => z
    · obtain ⟨l, ts, _, _, e1, _⟩ := a
      exact ⟨_, e1, rfl⟩
    · obtain ⟨v, rfl, q⟩ := hf
      exact q
  · exact ⟨h₁.1, F.args_object_init_2 obj _, object_init_meets called_pm.init.lookup called_pm.made (by decide) prog w A.in1 _ s₁ ⟨h₁.1, rfl, h₁.2⟩⟩
end
end PM
/-! AB16: what stands written at the module's top: tuples of texts, a table of such -/
namespace AB
open PySem PySem.Spec PyProof.Rows L2
/-- at a: a written tuple of texts -/
def KTup (K : PySem.W.Frag) (a : Addr) (ts : List Str) : Prop := ∃ (o : Obj) (its : Array Value) (n : Nat), K.lookup a = some o ∧ o.cls = .type "tuple" ∧ o.data = .seq its n ∧ its.size ≤ sizeLine ∧ Vals (ts.map V.str) its.toList
theorem KTup.sq {K : PySem.W.Frag} {a : Addr} {ts : List Str} (k : KTup K a ts) (H : Hp) : SqT K H a (ts.map V.str) := .inr k
/-- at d: a written table from texts to such -/
def KTab (K : PySem.W.Frag) (w : World) (d : Addr) (tbl : List (Str × List Str)) : Prop := (∃ es n, KDict K w d es n) ∧ ∀ z ts, tbl.lookup z = some ts → ∃ p, PySem.W.nsIn K d z = some (some (.ref p)) ∧ KTup K p ts
abbrev relK (K : PySem.W.Frag) : Rel (List Str) V := fun _ _ ts v => ∃ a, v = .ref a ∧ KTup K a ts
abbrev EK := Sl → Store → EO (List Str)
def AK (X : Cx) (W : WR) (e : Expr) (f : EK) : Prop := PE X e (tG (X.gx W.Tb) W (relK X.K) f)
section
variable {X : Cx} {W : WR} {pos : Pos} {a b : Expr} {f g : EF} {fk : EK}
def kC (ts : List Str) : EK := fun _ M => .ok ts M
theorem ak_nm {x : Str} {u : Addr} {ts : List Str} (hm : X.mg x = some (.ref u)) (k : KTup X.K u ts) (hg : Gl X x := by rfl) (hd : (x == ("__debug__" : Str)) = false := by decide) : AK X W (.Name x pos) (kC ts) := by
  refine (pe_glob hg hm (x := x) (v := V.ref u) rfl hd).pre fun σ H Q h => ?_
  obtain ⟨τ, M, ρ, rs, rm, r⟩ := h
  exact r.okv (.refl _) (.refl _) rm ⟨u, rfl, k⟩
def kAt (tbl : List (Str × List Str)) (k : A) (M : Store) : EO (List Str) := match k with
  | .str z => match tbl.lookup z with
    | some ts => .ok ts M
    | none => .bad
  | _ => .bad
def kIx (tbl : List (Str × List Str)) (g : EF) : EK := fun τ M => (g τ M).bind (kAt tbl)
theorem ix_kd {d : Addr} {es : Array DictEntry} {n : Nat} (D : KDict X.K X.w d es n) : IxR X (fun x y H Q => ∃ (z : Str) (u0 : Value) (v0 : V), x = .ref d ∧ y = .str z ∧ PySem.W.nsIn X.K d z = some (some u0) ∧ RelV v0 u0 ∧ Q v0 H) := by
  intro value slice pins s σ H x y v u Q I rx ry h hs
  obtain ⟨z, u0, v0, rfl, rfl, e, r, q⟩ := h
  cases rx
  exact tail_any (kd_type D I) PySem.F.slot_dict_getitem.lookup (op_item_kd D pins s σ H (.ref d) (.str z) (.ref d) u Q I rfl ry ⟨z, u0, v0, rfl, rfl, e, r, q⟩) hs
theorem ak_ix {x : Str} {d : Addr} {p : Pos} {tbl : List (Str × List Str)} (hm : X.mg x = some (.ref d)) (k : KTab X.K X.w d tbl) (hb : AE X W b g) (hg : Gl X x := by rfl) (hd : (x == ("__debug__" : Str)) = false := by decide) (hs : PlainIx b := by intro _ _; rfl) : AK X W (.Subscript (.Name x p) b pos) (kIx tbl g) := by
  obtain ⟨⟨es, n, D⟩, kt⟩ := k
  refine (pe_ix (ix_kd D) (pe_glob hg hm (x := x) (v := V.ref d) rfl hd) hb hs).pre fun σ H Q h => ?_
  refine (seqG Is h).imp fun y H1 h1 => ?_
  obtain ⟨τ, M, ρ, c, rs, rm, i, r⟩ := h1
  unfold kAt at r
  dsimp only at r
  split at r
  · rename_i z
    cases i
    split at r
    · rename_i ts e
      obtain ⟨p, e1, e2⟩ := kt z ts e
      exact ⟨z, .ref p, .ref p, rfl, rfl, e1, rfl, r.okv (.refl _) (.refl _) rm ⟨p, rfl, e2⟩⟩
    · exact r.elim
  · exact r.elim
/-- x in a written tuple -/
def inK (neg : Bool) (c : A) (ts : List Str) (M : Store) : EO A := match flat? c with
  | some v => .ok (.bl (if neg then !inV v (ts.map V.str) else inV v (ts.map V.str))) M
  | none => .bad
def eInK (neg : Bool) (f : EF) (g : EK) : EF := fun τ M => (f τ M).bind fun a M1 => (g τ M1).bind fun ts M2 => inK neg a ts M2
theorem inK_tK {neg : Bool} {σ : L2.St} {H : Hp} {Q : VK} (h : tG (X.gx W.Tb) W Is (eInK neg f fk) σ H Q) : tG (X.gx W.Tb) W Is f σ H fun x H1 => tG (X.gx W.Tb) W (relK X.K) fk σ H1 fun y H2 => rIn X.K neg x y H2 Q := by
  refine (seqG Is h).imp fun x H1 h1 => ?_
  refine (seqK Is Is.ext (relK X.K) h1).imp fun y H2 h2 => ?_
  obtain ⟨τ, M, ρ, c, ts, rs, rm, i, ⟨u, ey, k⟩, r⟩ := h2
  subst ey
  unfold inK at r
  split at r
  · rename_i v e
    obtain ⟨rfl, fl⟩ := flat_ok i e
    exact ⟨u, _, rfl, .inr (k.sq _), fl, by simp [flatV], r.okv (.refl _) (.refl _) rm (.bl _)⟩
  · exact r.elim
theorem ae_ninK (ha : AE X W a f) (hb : AK X W b fk) (hm : behindInMarks .NotIn b = false := by with_unfolding_all rfl) : AE X W (.Compare a [.NotIn] [b] pos) (eInK true f fk) := (pe_cmpR op_notIn_seq ha hb hm).pre fun _ _ _ h => inK_tK h
theorem at_inK (ha : AE X W a f) (hb : AK X W b fk) (hm : behindInMarks .In b = false := by with_unfolding_all rfl) : AT X W (.Compare a [.In] [b] pos) (eB (eInK false f fk)) := (pt_cmpR op_in_seq ha hb hm).pre fun _ _ _ h => inK_tK (bool_tK h)
theorem at_ninK (ha : AE X W a f) (hb : AK X W b fk) (hm : behindInMarks .NotIn b = false := by with_unfolding_all rfl) : AT X W (.Compare a [.NotIn] [b] pos) (eB (eInK true f fk)) := (pt_cmpR op_notIn_seq ha hb hm).pre fun _ _ _ h => inK_tK (bool_tK h)
/-- x in a written table: yes, for a key that stands there -/
def inT (neg : Bool) (tbl : List (Str × List Str)) (c : A) (M : Store) : EO A := match c with
  | .str z => match tbl.lookup z with
    | some _ => .ok (.bl (!neg)) M
    | none => .bad
  | _ => .bad
def eInT (neg : Bool) (tbl : List (Str × List Str)) (f : EF) : EF := fun τ M => (f τ M).bind (inT neg tbl)
theorem inT_tK {neg : Bool} {tbl : List (Str × List Str)} {d : Addr} (kt : ∀ z ts, tbl.lookup z = some ts → ∃ p, PySem.W.nsIn X.K d z = some (some (.ref p)) ∧ KTup X.K p ts) {σ : L2.St} {H : Hp} {Q : VK} (h : tG (X.gx W.Tb) W Is (eInT neg tbl f) σ H Q) :
    tG (X.gx W.Tb) W Is f σ H fun x H1 => ∃ (z : Str) (r : Option Value), x = .str z ∧ V.ref d = .ref d ∧ PySem.W.nsIn X.K d z = some r ∧ Q (.bl (if neg then !r.isSome else r.isSome)) H1 := by
  refine (seqG Is h).imp fun x H1 h1 => ?_
  obtain ⟨τ, M, ρ, c, rs, rm, i, r⟩ := h1
  unfold inT at r
  dsimp only at r
  split at r
  · rename_i z
    cases i
    split at r
    · rename_i ts e
      obtain ⟨p, e1, _⟩ := kt z ts e
      refine ⟨z, _, rfl, rfl, e1, ?_⟩
      cases neg
      · exact r.okv (.refl _) (.refl _) rm (.bl _)
      · exact r.okv (.refl _) (.refl _) rm (.bl _)
    · exact r.elim
  · exact r.elim
theorem at_ninT {x : Str} {d : Addr} {p : Pos} {tbl : List (Str × List Str)} (hm : X.mg x = some (.ref d)) (k : KTab X.K X.w d tbl) (ha : AE X W a f) (hg : Gl X x := by rfl) (hd : (x == ("__debug__" : Str)) = false := by decide) (hb : behindInMarks .NotIn (.Name x p) = false := by with_unfolding_all rfl) : AT X W (.Compare a [.NotIn] [.Name x p] pos) (eB (eInT true tbl f)) := by
  obtain ⟨⟨es, n, D⟩, kt⟩ := k
  refine (pt_cmpR (op_notIn_kd D) ha (pe_glob hg hm (x := x) (v := V.ref d) rfl hd) hb).pre fun σ H Q h => inT_tK kt (bool_tK h)
/-- for x in a written tuple -/
def iK (fk : EK) : EI := fun τ M => (fk τ M).bind fun ts M1 => .ok (.snap (ts.map A.str)) M1
theorem srcJ_k {w : Amb} {ρ : List Addr} {H : Hp} {ts : List Str} {u : Addr} (k : KTup w.K u ts) : SrcJ w ρ H (.snap (ts.map A.str)) (Itt w.K u) := by
  intro ρ2 H2 M2 i x g m
  have h2 := k.sq H2
  cases e : ts[i]? with
  | none =>
    simp only [Src.at, List.getElem?_map, e, Option.map_none]
    exact ⟨_, h2, by rw [List.length_map]; exact List.getElem?_eq_none_iff.mp e⟩
  | some t =>
    simp only [Src.at, List.getElem?_map, e, Option.map_some]
    refine ⟨⟨_, .str t, h2, by rw [List.getElem?_map, e]; rfl⟩, fun v H3 ⟨eH, hw⟩ => ?_⟩
    subst eH
    have := hw _ h2
    rw [List.getElem?_map, e] at this
    obtain rfl := Option.some.inj this
    exact ⟨.refl _, m, .str _⟩
theorem ai_K {tg : Expr} (h : AK X W a fk) : AI X W tg a (iK fk) := (pi_tup h).pre fun σ H R h => by
  refine (seqG (relK X.K) h).imp fun x H1 h1 => ?_
  obtain ⟨τ, M, ρ, ts, rs, rm, ⟨u, ex, k⟩, r⟩ := h1
  exact ⟨u, ex, ⟨_, k.sq _⟩, RE.okv (a := Src.snap (ts.map A.str)) (M := M) (rel := relJ (X.am W.Tb)) r (.refl _) (.refl _) rm (srcJ_k k)⟩
end
end AB
/-! AB17: sorted of messages: tuples of a word and, perhaps, a number or a tuple of numbers -/
namespace SM
open PySem PySem.Spec PyProof.Rows SX
inductive Rst where
  | one | num (i : Int) | tup (ns : List Int)
  deriving DecidableEq
abbrev Msg := Str × Rst
def encN (l : List Nat) (r : List Int) : List Int := match l with
  | [] => 0 :: r
  | c :: cs => ((c : Int) + 1) :: encN cs r
def Rst.key : Rst → List Int
  | .one => []
  | .num i => [0, i]
  | .tup ns => 1 :: ns
def key (m : Msg) : List Int := encN m.1.cps.toList m.2.key
def fits : Rst → Rst → Bool
  | .num _, .tup _ => false
  | .tup _, .num _ => false
  | _, _ => true
/-- the two can be compared -/
def compat (m m' : Msg) : Bool := !(m.1 == m'.1) || fits m.2 m'.2
theorem enc_lt : ∀ (xs ys : List Nat) (r r' : List Int), ltL (encN xs r) (encN ys r') = if xs = ys then ltL r r' else decide (xs < ys)
  | [], [], r, r' => by simp only [encN]; rw [ltL_yes rfl]; simp
  | [], y :: ys, r, r' => by
    simp only [encN]
    rw [ltL_no (by omega), if_neg (by simp)]
    rw [decide_eq_true (by omega : (0 : Int) < (y : Int) + 1)]
    exact (decide_eq_true (by simp)).symm
  | x :: xs, [], r, r' => by
    simp only [encN]
    rw [ltL_no (by omega), if_neg (by simp), decide_eq_false (by omega)]
    exact (decide_eq_false (by simp)).symm
  | x :: xs, y :: ys, r, r' => by
    simp only [encN]
    by_cases e : x = y
    · subst e
      rw [ltL_yes rfl, enc_lt xs ys]
      by_cases e2 : xs = ys
      · subst e2; simp
      · rw [if_neg e2, if_neg (by simpa using e2)]
        exact decide_eq_decide.mpr (by simp [List.cons_lt_cons_iff])
    · rw [ltL_no (by omega), if_neg (by simp [e])]
      exact decide_eq_decide.mpr (by simp [List.cons_lt_cons_iff, e])
theorem enc_inj : ∀ {xs ys : List Nat} {r r' : List Int}, encN xs r = encN ys r' → xs = ys ∧ r = r'
  | [], [], r, r', h => by simp only [encN] at h; cases h; exact ⟨rfl, rfl⟩
  | [], y :: ys, r, r', h => by simp only [encN, List.cons.injEq] at h; omega
  | x :: xs, [], r, r', h => by simp only [encN, List.cons.injEq] at h; omega
  | x :: xs, y :: ys, r, r', h => by
    simp only [encN, List.cons.injEq] at h
    obtain ⟨e1, e2⟩ := enc_inj h.2
    exact ⟨by rw [e1]; congr 1; omega, e2⟩
theorem key_inj {m m' : Msg} (h : key m = key m') : m = m' := by
  obtain ⟨w, r⟩ := m
  obtain ⟨w', r'⟩ := m'
  obtain ⟨e1, e2⟩ := enc_inj h
  have e1 : w = w' := PySem.W.str_of_cps e1
  subst e1
  have e2 : r.key = r'.key := e2
  cases r <;> cases r' <;> simp_all [Rst.key]
def ins (x : Msg) : List Msg → List Msg
  | [] => [x]
  | y :: ys => if ltL (key y) (key x) = true then y :: ins x ys else x :: y :: ys
def sortM : List Msg → List Msg
  | [] => []
  | x :: xs => ins x (sortM xs)
theorem ins_key (x : Msg) : ∀ ys, (ins x ys).map key = SX.ins (key x) (ys.map key)
  | [] => rfl
  | y :: ys => by
    simp only [ins, List.map_cons, SX.ins]
    split
    · rw [List.map_cons, ins_key x ys]
    · rfl
theorem sort_key : ∀ xs, (sortM xs).map key = SX.sortL (xs.map key)
  | [] => rfl
  | x :: xs => by
    simp only [sortM, List.map_cons, SX.sortL]
    rw [ins_key, sort_key xs]
theorem map_inj {α β : Type} {f : α → β} (hf : ∀ a b, f a = f b → a = b) : ∀ {xs ys : List α}, xs.map f = ys.map f → xs = ys
  | [], [], _ => rfl
  | [], _ :: _, h => by simp at h
  | _ :: _, [], h => by simp at h
  | x :: xs, y :: ys, h => by
    simp only [List.map_cons, List.cons.injEq] at h
    rw [hf _ _ h.1, map_inj hf h.2]
section
variable {prog : Program} {w : World} {A : Around} {E : Value → Shared → Prop} {s : Shared}
/-- a message's second part -/
inductive IsR (h : Heap) : List Value → Rst → Prop
  | one : IsR h [] .one
  | num (i : Int) (t : Tok) : IsR h [.int i t] (.num i)
  | tup {b : Addr} {xs : Array Value} {ns : List Int} : IsTup h b xs → IntsAre xs.toList ns → IsR h [.ref b] (.tup ns)
def IsM (h : Heap) (v : Value) (m : Msg) : Prop := ∃ a o xs n t r, v = .ref a ∧ h.get? a = some o ∧ o.cls = .type "tuple" ∧ o.data = .seq xs n ∧ xs.toList = .str m.1 t :: r ∧ IsR h r m.2
theorem IsR.keeps {h h' : Heap} {r : List Value} {m : Rst} (x : IsR h r m) (k : ∀ b o, h.get? b = some o → o.cls = .type "tuple" → h'.get? b = some o) : IsR h' r m := by
  cases x with
  | one => exact .one
  | num i t => exact .num i t
  | tup h1 h2 =>
    obtain ⟨o, e, c, d⟩ := h1
    exact .tup ⟨o, k _ _ e c, c, d⟩ h2
theorem IsM.keeps {h h' : Heap} {v : Value} {m : Msg} (x : IsM h v m) (k : ∀ b o, h.get? b = some o → o.cls = .type "tuple" → h'.get? b = some o) : IsM h' v m := by
  obtain ⟨a, o, xs, n, t, r, e, ho, hc, hd, hx, i⟩ := x
  exact ⟨a, o, xs, n, t, r, e, k a o ho hc, hc, hd, hx, i.keeps k⟩
theorem lexLt_ltL : ∀ xs ys : List Int, HT.lexLt xs ys = ltL xs ys
  | [], [] => rfl
  | [], _ :: _ => rfl
  | _ :: _, [] => rfl
  | x :: xs, y :: ys => by
    unfold HT.lexLt ltL
    rw [lexLt_ltL xs ys]
theorem reads_ints {h : Heap} : ∀ {vs : List Value} {ns : List Int}, IntsAre vs ns → ReadsAll h vs (ns.map PyData.int) []
  | _, _, .nil => .nil
  | _, _, .cons x t r => .cons (as := []) (bs := []) (.int x t) (reads_ints r)
theorem alike_ints : ∀ ns ms : List Int, PySem.W.alikeAll (ns.map PyData.int) (ms.map PyData.int) = true
  | [], _ => by simp [PySem.W.alikeAll]
  | _ :: _, [] => by simp [PySem.W.alikeAll]
  | n :: ns, m :: ms => by simp [PySem.W.alikeAll, PySem.W.alike, alike_ints ns ms]
theorem eqv_ints : ∀ ns ms : List Int, PyData.eqvAll (ns.map PyData.int) (ms.map PyData.int) = decide (ns = ms)
  | [], [] => by simp [PyData.eqvAll]
  | [], _ :: _ => by simp [PyData.eqvAll]
  | _ :: _, [] => by simp [PyData.eqvAll]
  | n :: ns, m :: ms => by
    rw [List.map_cons, List.map_cons, PySem.W.eqv_all_cons, eqv_ints ns ms]
    exact Bool.eq_iff_iff.mpr (by simp [PyData.eqv])
theorem depth_ints : ∀ ns : List Int, PyData.depthAll (ns.map PyData.int) = 0
  | [] => rfl
  | n :: ns => by rw [List.map_cons, PyData.depthAll, depth_ints ns]; rfl
theorem lex_rst (hu : A.units + 4 < cLine) {r r' : List Value} {m m' : Rst} (h1 : IsR s.heap r m) (h2 : IsR s.heap r' m') (hf : fits m m' = true) (fin : Bool) (hfin : fin = decide (r.length + 1 < r'.length + 1)) :
    PySem.W.KatLex prog w A true fin (fun c s' => s' = s ∧ c = ltL m.key m'.key) (r.zip r') 1 s := by
  subst hfin
  cases h1 with
  | one =>
    cases h2 with
    | one => exact PySem.W.kat_nil ⟨rfl, rfl⟩
    | num j u => exact PySem.W.kat_nil ⟨rfl, rfl⟩
    | tup a b => exact PySem.W.kat_nil ⟨rfl, rfl⟩
  | num i t =>
    cases h2 with
    | one => exact PySem.W.kat_nil ⟨rfl, rfl⟩
    | tup a b => simp [fits] at hf
    | num j u =>
      refine PySem.W.kat_cons (SeqAt.EqAt.int_int i t j u prog w _ _ ?_)
      refine PySem.W.kat_go (fun e1 => ?_) (fun e1 => ?_)
      · have ex : i = j := by simpa using e1
        refine PySem.W.kat_yes (PySem.W.kat_nil ⟨rfl, ?_⟩)
        show _ = ltL [0, i] [0, j]
        rw [ltL_yes rfl, ltL_yes ex]; rfl
      · have ex : ¬ i = j := by simpa using e1
        refine PySem.W.kat_no (PySem.W.kat_one _ _ (PyProof.Rows.lt_int (show s = s ∧ decide (i < j) = ltL [0, i] [0, j] from ⟨rfl, ?_⟩)))
        rw [ltL_yes rfl, ltL_no ex]
  | tup a b =>
    cases h2 with
    | one => exact PySem.W.kat_nil ⟨rfl, rfl⟩
    | num j u => simp [fits] at hf
    | tup a' b' =>
      rename_i p xs ns p' ys ms
      obtain ⟨o, e, c, nn, d⟩ := id a
      obtain ⟨o', e', c', nn', d'⟩ := id a'
      have ra : Reads s.heap (.ref p) (.tuple (ns.map PyData.int)) [] := .tuple e c d (reads_ints b)
      have rb : Reads s.heap (.ref p') (.tuple (ms.map PyData.int)) [] := .tuple e' c' d' (reads_ints b')
      have q := PySem.W.eqAt_alike _ _ A s _ _ _ _ ra rb (by simp [PySem.W.alike, alike_ints]) (by
        have : min (PyData.depth (.tuple (ns.map PyData.int))) (PyData.depth (.tuple (ms.map PyData.int))) ≤ 1 := by
          rw [PyData.depth, depth_ints]; exact Nat.min_le_left _ _
        omega)
      have ev : PyData.eqv (.tuple (ns.map PyData.int)) (.tuple (ms.map PyData.int)) = decide (ns = ms) := by rw [← eqv_ints]; rfl
      rw [ev] at q
      refine PySem.W.kat_cons (q prog w _ _ ?_)
      refine PySem.W.kat_go (fun e1 => ?_) (fun e1 => ?_)
      · have ex : ns = ms := of_decide_eq_true e1
        refine PySem.W.kat_yes (PySem.W.kat_nil ⟨rfl, ?_⟩)
        show _ = ltL (1 :: ns) (1 :: ms)
        rw [ltL_yes rfl, ex]
        cases hz : ltL ms ms with
        | false => exact decide_eq_false (by simp)
        | true => exact absurd (ltL_asym hz) (by rw [hz]; decide)
      · refine PySem.W.kat_no (PySem.W.kat_one _ _ (HT.lt_tupInts a a' b b' (by omega) (show s = s ∧ HT.lexLt ns ms = ltL (1 :: ns) (1 :: ms) from ⟨rfl, ?_⟩)))
        rw [ltL_yes rfl, lexLt_ltL]
theorem lex_msg (hu : A.units + 4 < cLine) {v v' : Value} {m m' : Msg} (h1 : IsM s.heap v m) (h2 : IsM s.heap v' m') (hf : compat m m' = true) :
    wpAny (model prog w) A (keyLt' (tuples' true) v v') (fun c s' => s' = s ∧ c = ltL (key m) (key m')) E s := by
  obtain ⟨a, o, xs, n, t, r, rfl, ho, hc, hd, hx, i1⟩ := h1
  obtain ⟨a', o', xs', n', t', r', rfl, ho', hc', hd', hx', i2⟩ := h2
  refine PySem.W.kat_lt ho hd ho' hd' ?_
  have e1 : xs.size = r.length + 1 := by rw [← Array.length_toList, hx]; rfl
  have e2 : xs'.size = r'.length + 1 := by rw [← Array.length_toList, hx']; rfl
  rw [hx, hx', e1, e2, List.zip_cons_cons]
  refine PySem.W.kat_cons (SeqAt.EqAt.str_str m.1 t m'.1 t' prog w _ _ ?_)
  refine PySem.W.kat_go (fun e1 => ?_) (fun e1 => ?_)
  · have ex : m.1 = m'.1 := by simpa using e1
    refine PySem.W.kat_yes ?_
    have hf2 : fits m.2 m'.2 = true := by
      unfold compat at hf
      rw [ex] at hf
      simpa using hf
    have ek : ltL (key m) (key m') = ltL m.2.key m'.2.key := by
      unfold key
      rw [enc_lt, ex, if_pos rfl]
    rw [ek]
    exact lex_rst hu i1 i2 hf2 _ rfl
  · have ex : ¬ m.1 = m'.1 := by simpa using e1
    have ek : ltL (key m) (key m') = decide (m.1.cps.toList < m'.1.cps.toList) := by
      unfold key
      rw [enc_lt, if_neg fun z => ex (PySem.W.str_of_cps z)]
    rw [ek]
    exact PySem.W.kat_no (PyProof.Rows.oneLt_str (show s = s ∧ _ = _ from ⟨rfl, rfl⟩))
theorem swo_M (k : Value → List Int) : SrtO.Swo fun v u => ltL (k v) (k u) := SX.swo_L k
theorem msg_firsts {k : Value → Msg} : ∀ {vs : List Value} {h : Heap}, (∀ v ∈ vs, IsM h v (k v)) → ∃ fs, PySem.W.KatTups h vs fs ∧ fs.length = vs.length ∧ ∀ f ∈ fs, ∃ x t, f = Value.str x t
  | [], h, _ => ⟨[], .nil, rfl, fun _ z => by cases z⟩
  | v :: vs, h, hp => by
    obtain ⟨fs, h1, h2, h3⟩ := msg_firsts (vs := vs) fun u hu => hp u (List.mem_cons_of_mem _ hu)
    obtain ⟨a, o, xs, n, t, r, e, ho, hc, hd, hx, i⟩ := hp v List.mem_cons_self
    subst e
    refine ⟨Value.str (k (.ref a)).1 t :: fs, .cons ho hc hd (by rw [← Array.getElem?_toList, hx]; rfl) h1, by simp [h2], fun g hg => ?_⟩
    rcases List.mem_cons.mp hg with rfl | hg
    · exact ⟨_, t, rfl⟩
    · exact h3 g hg
theorem msg_sortable (hu : A.units + 4 < cLine) {a : Addr} {vs : List Value} {k : Value → Msg} (h0 : 0 < vs.length) (hp : ∀ v ∈ vs, IsM s.heap v (k v)) (hf : ∀ v ∈ vs, ∀ u ∈ vs, compat (k v) (k u) = true) (ha : ∀ o, s.heap.get? a = some o → o.cls ≠ .type "tuple") : SrtO.SortableO prog w A s a vs fun v u => ltL (key (k v)) (key (k u)) := by
  intro h' keep
  have hp' : ∀ v ∈ vs, IsM h' v (k v) := fun v hm => (hp v hm).keeps fun b o e c => keep b o (fun z => by subst z; exact ha o e c) e
  obtain ⟨fs, h1, h2, h3⟩ := msg_firsts hp'
  refine ⟨tuples' true, fun Q E hq => ?_, fun p q hm hm' => ?_⟩
  · refine PySem.W.kat_kind (T := .type "str") h1 (by omega) (fun f hm => ?_) (by rfl) ?_
    · obtain ⟨x, t, rfl⟩ := h3 f hm
      exact PySem.W.Looks.now
    · have e : (Value.type "str" != Value.type "tuple") = true := by first | decide +kernel | rfl | decide
      rw [e]
      exact hq
  · exact lex_msg (s := { s with heap := h' }) hu (hp' _ hm) (hp' _ hm') (hf _ hm _ hm')
end
end SM
namespace AB
open PySem PySem.Spec PyProof.Rows L2 SM
def rstA : Rst → List A
  | .one => []
  | .num i => [.int i]
  | .tup ns => [.tup (ns.map A.int)]
def msgA (m : Msg) : A := .tup (.str m.1 :: rstA m.2)
def rst? : List A → Option Rst
  | [] => some .one
  | [.int i] => some (.num i)
  | [.tup xs] => (ints? xs).map .tup
  | _ => none
def msgs? : List A → Option (List Msg)
  | [] => some []
  | .tup (.str w :: r) :: q => match rst? r, msgs? q with
    | some m, some l => some ((w, m) :: l)
    | _, _ => none
  | _ :: _ => none
theorem rst_of {r : List A} {m : Rst} (e : rst? r = some m) : r = rstA m := by
  unfold rst? at e
  split at e
  · cases e; rfl
  · cases e; rfl
  · rename_i xs
    cases e1 : ints? xs with
    | none => rw [e1] at e; cases e
    | some is => rw [e1] at e; cases e; rw [ints_of e1]; rfl
  · cases e
theorem msgs_of : ∀ {as : List A} {q : List Msg}, msgs? as = some q → as = q.map msgA
  | [], q, e => by cases e; rfl
  | a :: as, q, e => by
    unfold msgs? at e
    split at e
    · rename_i h; cases h
    · rename_i w r q' h
      cases h
      split at e
      · rename_i m l e1 e2
        cases e
        rw [List.map_cons, ← msgs_of e2, msgA, rst_of e1]
      · cases e
    · cases e
/-- sorted: whole numbers' tuples, messages, at most one thing -/
def oSortM : On := fun as M => match as with
  | [.lst l] => match listAt M l with
    | some xs => match tups? xs with
      | some q => some (.lst M.length, M ++ [.lst ((SX.sortL q).map tupI)])
      | none => match msgs? xs with
        | some q => if q.all (fun m => q.all fun m' => compat m m') = true then some (.lst M.length, M ++ [.lst ((sortM q).map msgA)]) else none
        | none => none
    | none => none
  | _ => none
/-- the message that a tracked tuple holds -/
def mOf (H : Hp) : Value → Msg
  | .ref a => match H a with
    | some (.tup [.str w]) => (w, .one)
    | some (.tup [.str w, .int i]) => (w, .num i)
    | some (.tup [.str w, .ref b]) => match H b with
      | some (.tup vs) => (w, .tup (vs.filterMap fun v => match v with
        | .int i => some i
        | _ => none))
      | _ => (w, .one)
    | _ => (⟨#[]⟩, .one)
  | _ => (⟨#[]⟩, .one)
theorem ints_filter (ns : List Int) : (ns.map V.int).filterMap (fun v => match v with
        | .int i => some i
        | _ => none) = ns := by
  induction ns with
  | nil => rfl
  | cons n ns ih => simp [ih]
theorem msgA_is {ρ : List Addr} {H : Hp} {m : Msg} {v : V} (i : Is ρ H (msgA m) v) : ∃ a, v = .ref a ∧ mOf H (.ref a) = m ∧ ∃ r, H a = some (.tup (.str m.1 :: r)) ∧ (∀ hp P w, HOk P w H hp → ∀ u, Vals r u → IsR hp u m.2) := by
  obtain ⟨w, r⟩ := m
  unfold msgA at i
  cases i with
  | tup h is =>
    rename_i a vs
    refine ⟨a, rfl, ?_⟩
    cases is with
    | cons i1 is =>
      cases i1
      cases r with
      | one =>
        cases is
        exact ⟨by simp [mOf, h], [], h, fun hp P w' ok u r => by cases r; exact .one⟩
      | num j =>
        cases is with
        | cons i2 is =>
          cases is; cases i2
          refine ⟨by simp [mOf, h], _, h, fun hp P w' ok u r => ?_⟩
          cases r with
          | cons r1 r2 => cases r2; obtain ⟨t, rfl⟩ := r1; exact .num j t
      | tup ns =>
        cases is with
        | cons i2 is =>
          cases is
          cases i2 with
          | tup hb ib =>
            rw [IsAll.ints ib] at hb
            refine ⟨by simp only [mOf, h, hb, ints_filter], _, h, fun hp P w' ok u r => ?_⟩
            cases r with
            | cons r1 r2 =>
              cases r2; cases r1
              obtain ⟨_, tv, trv, it⟩ := ok _ _ hb
              exact .tup it (by simpa using intsAre_of trv)
section
variable {X : Cx}
theorem cr_sortM (hu : X.A.units + 64 < cLine) : CallR X (.builtin "sorted") (rn (X.am Tb) oSortM) := by
  intro pins s σ H xs us Q I r h
  obtain ⟨as, M, ρ, is, m, ro⟩ := h
  unfold oSortM at ro
  split at ro
  · rename_i l
    split at ro
    · rename_i ys el
      split at ro
      · rename_i q eq
        refine cr_sortedTI pins s σ H xs us Q I r ⟨_, M, ρ, is, m, ?_⟩
        unfold oSorted
        simp only [el, eq]
        exact ro
      · split at ro
        · rename_i q eq
          split at ro
          · rename_i hcomp
            cases is with
            | cons i1 is =>
              cases is
              cases i1 with
              | lst hl =>
                have e0 := msgs_of eq
                subst e0
                obtain ⟨vs, hs, iv⟩ := m.list hl el
                obtain ⟨its, rv, hL, hz⟩ := I.list hs
                rw [Vals.ref1 r]
                have items : ∀ (q : List Msg) (vs : List V) (its : List Value), IsAll ρ H (q.map msgA) vs → Vals vs its → its.map (mOf H) = q ∧ ∀ u ∈ its, IsM s.heap u (mOf H u) ∧ ∃ v, RelV v u ∧ Is ρ H (msgA (mOf H u)) v := by
                  intro q
                  induction q with
                  | nil => intro vs its i r; cases i; cases r; exact ⟨rfl, fun _ z => (by cases z)⟩
                  | cons n q ih =>
                    intro vs its i r
                    cases i with
                    | cons i1 i2 =>
                      cases r with
                      | cons r1 r2 =>
                        obtain ⟨a2, a3⟩ := ih _ _ i2 r2
                        obtain ⟨a, rfl, em, r0, ha, hr⟩ := msgA_is i1
                        cases r1
                        refine ⟨by rw [List.map_cons, em, a2], fun u hu => ?_⟩
                        rcases List.mem_cons.mp hu with rfl | hu
                        · refine ⟨?_, V.ref a, (show RelV (V.ref a) (Value.ref a) from rfl), by rw [em]; exact i1⟩
                          rw [em]
                          obtain ⟨_, tv, trv, o, h1, h2, nn, h3⟩ := I.hok _ _ ha
                          cases trv with
                          | cons t1 t2 =>
                            obtain ⟨t, rfl⟩ := t1
                            exact ⟨a, o, _, nn, t, _, rfl, h1, h2, h3, rfl, hr _ _ _ I.hok _ t2⟩
                        · exact a3 u hu
                obtain ⟨hk, hp⟩ := items q vs its iv rv
                have hall : ∀ v ∈ its, ∀ u ∈ its, compat (mOf H v) (mOf H u) = true := by
                  intro v hv u hu
                  have h1 := List.all_eq_true.mp hcomp (mOf H v) (by rw [← hk]; exact List.mem_map_of_mem hv)
                  exact List.all_eq_true.mp h1 (mOf H u) (by rw [← hk]; exact List.mem_map_of_mem hu)
                refine SrtO.sorted_ord (SM.swo_M fun v => key (mOf H v)) hL.isList (by rw [← rv.length]; exact hz) (fun h2 h₁ a' ha kk => ?_) fun out h1 h2 => ?_
                · refine SM.msg_sortable (s := { s with heap := h₁ }) (by show X.A.units + 1 + 1 + 4 < cLine; omega) (by omega) (fun v hm => (hp v hm).1.keeps fun b o e _ => (kk b o e).2) hall fun o e => ?_
                  have e' : some o = some (seqObj "list" its.toArray 0) := e.symm.trans ha
                  cases e'
                  intro c
                  exact absurd (Value.type.inj c) (by decide)
                · obtain ⟨ep, he'⟩ := PyProof.Rows.sortedAll_at s.heap its out.toArray
                  have outs : ∀ (l : List Value), (∀ u ∈ l, u ∈ its) → ∃ vs : List V, Vals vs l ∧ IsAll ρ H ((l.map (mOf H)).map msgA) vs := by
                    intro l
                    induction l with
                    | nil => intro _; exact ⟨[], .nil, .nil⟩
                    | cons u l ih =>
                      intro hm
                      obtain ⟨vs, v1, v2⟩ := ih fun x hx => hm x (List.mem_cons_of_mem _ hx)
                      obtain ⟨_, v, rv', iv'⟩ := hp u (hm u List.mem_cons_self)
                      exact ⟨v :: vs, .cons rv' v1, .cons iv' v2⟩
                  obtain ⟨ws, w1, w2⟩ := outs out fun u hu => h2.perm.mem_iff.mp hu
                  have esort : out.map (mOf H) = sortM q := by
                    refine map_inj (fun _ _ => key_inj) ?_
                    rw [sort_key]
                    refine SX.up_unique ?_ (SX.sortL_up _) ?_
                    · rw [List.map_map]; exact List.pairwise_map.mpr h1
                    · have := (h2.perm.map (mOf H)).map key
                      rw [hk] at this
                      exact this.trans (SX.sortL_perm _).symm
                  rw [esort] at w2
                  have hlen : ws.length ≤ sizeLine := by
                    rw [w1.length, h2.perm.length_eq, ← rv.length]; exact hz
                  have hnew : H (s.heap.objs.size + 1) = none := I.hok.fresh (Nat.le_succ _)
                  exact ⟨.ref _, upd H (s.heap.objs.size + 1) (.lst ws), I.laid (t' := s.toks) (fun _ _ => PyProof.Rows.sortedAll_old) (Nat.le_succ _) ⟨hlen, out, ep, w1, he'⟩, rfl, ro.newL m w2 hnew⟩
          · exact ro.elim
        · exact ro.elim
    · exact ro.elim
  · exact ro.elim
end
end AB
/-! AB18: displays of several keys; the place of data in a list; orders -/
namespace AB
open PySem PySem.Spec PyProof.Rows L2
section
variable {X : Cx} {W : WR} {pos : Pos} {e : Expr} {f : EF} {fs : EFs}
/-! ### {k: v, ..} -/
def keyed? : List (A × A) → Option (List (Key × A))
  | [] => some []
  | (k, v) :: r => match key? k, keyed? r with
    | some j, some q => some ((j, v) :: q)
    | _, _ => none
def mergeA (kvs : List (Key × A)) (more : List (Key × A)) : List (Key × A) := more.foldl (fun acc kv => putA acc kv.1 kv.2) kvs
def dispN (l : Nat) (ps : List (A × A)) (M3 : Store) : EO A := match M3[l]?, keyed? ps with
  | some (.dK []), some q => if q.length ≤ 15 then .ok (.dct l) (M3.set l (.dK (mergeA [] q))) else .bad
  | _, _ => .bad
/-! ### l.index(x), data -/
def ixData (d : PyData) : List PyData → Nat → Option Nat
  | [], _ => none
  | x :: xs, j => if PyData.eqv x d = true then some j else ixData d xs (j + 1)
theorem ixData_ok {d : PyData} : ∀ {xs : List PyData} {j n : Nat}, ixData d xs j = some n → ∃ k z, n = j + k ∧ xs[k]? = some z ∧ PyData.eqv z d = true ∧ ∀ (m : Nat) (z' : PyData), m < k → xs[m]? = some z' → PyData.eqv z' d = false
  | [], _, _, e => by cases e
  | x :: xs, j, n, e => by
    unfold ixData at e
    split at e
    · rename_i h; cases e
      exact ⟨0, x, rfl, rfl, h, fun m z' hm => absurd hm (Nat.not_lt_zero m)⟩
    · rename_i h
      obtain ⟨k, z, e1, e2, e3, e4⟩ := ixData_ok e
      refine ⟨k + 1, z, by omega, by simpa using e2, e3, fun m z' hm hz => ?_⟩
      cases m with
      | zero => simp at hz; subst hz; simpa using h
      | succ m => exact e4 m z' (by omega) (by simpa using hz)
def oIndexD : OM := fun x as M => match x, as with
  | .lst l, [y] => match datS M (.lst l), datS M y with
    | some (.list ds), some d => (ixData d ds 0).map fun j => (.int (j : Nat), M)
    | _, _ => none
  | _, _ => none
theorem mt_indexDA (hu : X.A.units + 65 < cLine) : MtR X "list.index" (rm (X.am W.Tb) oIndexD) := by
  intro pins s σ H x xs v us Q I rx rxs h
  obtain ⟨a, as, M, ρ, ia, is, m, ro⟩ := h
  unfold oIndexD at ro
  split at ro
  · rename_i l y
    cases is with
    | cons i1 is =>
      cases is
      split at ro
      · rename_i ds d e1 e2
        obtain ⟨h1, s1⟩ := datS_ok m ia e1
        obtain ⟨h2, s2⟩ := datS_ok m i1 e2
        cases ia with
        | lst hl =>
          cases e3 : ixData d ds 0 with
          | none => rw [e3] at ro; exact ro.elim
          | some j =>
            rw [e3] at ro
            obtain ⟨k, z, q1, q2, q3, q4⟩ := ixData_ok e3
            have : j = k := by omega
            subst this
            exact mt_indexD hu pins s σ H _ _ v us Q I rx rxs ⟨_, _, d, ds, j, z, rfl, rfl, h1, h2, s1, s2, q2, q3, q4, RO.val (ρ := ρ) (M := M) ro m (.int _)⟩
      · exact ro.elim
  · exact ro.elim
theorem ae_indexD {a : Expr} {apos cpos : Pos} (hu : X.A.units + 65 < cLine) (ho : AE X W a f) (ha : AA X W [e] fs) (hbase : attributeBase a "index" X.env (eval a X.env) = eval a X.env := by rfl)
    (hfew : ((backTo cpos (starEach [e] X.env)).all (fun x => !x.1) && (backToKw cpos (keywordEach [] X.env)).all (fun x => x.1.isSome)
      && decide ([e].length + ([] : List Keyword).length + (if ([] : List Keyword).isEmpty then 0 else 1) < 30)) = true := by rfl)
    (hline : (apos.endLine == cpos.line) = true := by rfl) (hs : starEach [e] X.env = (false, eval e X.env) :: starEach [] X.env := by rfl) (hplain : (backTo cpos (starEach [] X.env)).any (·.1) = false := by rfl) :
    AE X W (.Call (.Attribute a "index" apos) [e] [] cpos) (eMeth oIndexD f fs) := ae_meth PySem.F.slot_list_index PySem.F.type_list_index (mt_indexDA hu) ho ha hbase hfew hline hs hplain
/-! ### for .. in permutations(range(n)) -/
def permA (n : Nat) : List A := (List.range (PM.fct n)).map fun i => .tup ((PM.ix n i).map fun j : Nat => A.int (j : Int))
def permOf (p : Int × Int) (M : Store) : EO Src := if p.1 = 0 ∧ 1 ≤ p.2 ∧ p.2 ≤ 3 then .ok (.snap (permA p.2.toNat)) M else .bad
def iPerm (fr : ER) : EI := fun τ M => (fr τ M).bind permOf
theorem rowV_is {ρ : List Addr} {H : Hp} (n i : Nat) : IsAll ρ H ((PM.ix n i).map fun j : Nat => A.int (j : Int)) (PM.rowV n i) := by
  unfold PM.rowV
  generalize PM.ix n i = l
  induction l with
  | nil => exact .nil
  | cons j l ih => exact .cons (.int _) ih
theorem srcJ_pm {w : Amb} {ρ : List Addr} {H : Hp} {n : Nat} : SrcJ w ρ H (.snap (permA n)) (PM.ItPm n) := by
  intro ρ2 H2 M2 i x g m
  by_cases hi : i < PM.fct n
  · have e : (permA n)[i]? = some (.tup ((PM.ix n i).map fun j : Nat => A.int (j : Int))) := by unfold permA; simp [hi]
    simp only [Src.at, e]
    refine ⟨hi, fun v H3 ⟨a, e1, hn, e2⟩ => ?_⟩
    subst e1 e2
    exact ⟨.new hn, m.new hn, .tup upd_same (rowV_is n i)⟩
  · have e : (permA n)[i]? = none := by unfold permA; simp; omega
    simp only [Src.at, e]
    exact Nat.le_of_not_lt hi
theorem ai_perm {tg : Expr} {x : Str} {p : Pos} {fr : ER} (hc : X.calm = true) (hm : X.mg x = some (.type "itertools.permutations")) (he : AR X W e fr) (hg : Gl X x := by rfl) (hd : (x == ("__debug__" : Str)) = false := by decide) (na : starEach [e] X.env = (false, eval e X.env) :: starEach [] X.env := by rfl) :
    AI X W tg (.Call (.Name x p) [e] [] pos) (iPerm fr) := ⟨fun pins s σ H R I h => by
  have h1 := seqG relR h
  refine Call_ (ld_glob I hg hm (PyProof.Rows.callWith_type1 (args_cons (thn (he pins s σ H (fun a b H1 => tK (X.gx W.Tb) W relR (relJ (X.am W.Tb)) (fun τ => permOf) σ R (a, b) H1) I h1) fun xv s1 ⟨r, a, b, t, u, v, H1, ex, hr, I1, q⟩ => args_nil ?_) na) na) hd)
  obtain ⟨τ, M, ρ, c, rs, rm, i, r⟩ := q
  have i : c = (a, b) := i
  subst i ex
  have r2 : RE (X.gx W.Tb) W σ ρ H1 (relJ (X.am W.Tb)) (if a = 0 ∧ 1 ≤ b ∧ b ≤ 3 then .ok (.snap (permA b.toNat)) M else .bad) R := r
  clear r
  split at r2
  · rename_i hz
    obtain ⟨rfl, h1, h3⟩ := hz
    obtain ⟨n, rfl⟩ : ∃ n : Nat, b = (n : Int) := ⟨b.toNat, by omega⟩
    refine PM.call_pm (I1.ok.hd hc) hr (by omega) (by omega) fun hm h' tk it pool k1 k2 l1 l2 at0 => ?_
    have Im : Inv X pins σ H1 { s1 with heap := hm, toks := tk } := I1.kept (t' := tk) k1
    have I2 : Inv X pins σ H1 { s1 with heap := h', toks := tk } := I1.kept (t' := tk) fun b o e => k2 b o (k1 b o e)
    refine PM.pm_iter (s := { s1 with heap := h', toks := tk }) at0 ?_
    refine ⟨it, [it, pool], _, _, H1, rfl, I2, PM.turn_pm (by omega) (by omega) it pool, ⟨at0, Nat.zero_le _⟩, fun b hb => ?_, RE.okv (a := Src.snap (permA n)) (M := M) (rel := relJ (X.am W.Tb)) r2 (.refl _) (.refl _) rm srcJ_pm⟩
    have e : b = it ∨ b = pool := by simpa using hb
    have hle : hm.objs.size ≤ b := by
      rcases e with rfl | rfl
      · exact l1
      · exact l2
    have f := Im.fpOk (b := b) (H' := H1) hle (Im.hok.fresh hle)
    exact f
  · exact r2.elim⟩
end
end AB
/-! AB19: dicts whose keys are tuples of anything: d[k], {k: v for ..} -/
namespace AB
open PySem PySem.Spec PyProof.Rows L2
section
variable {X : Cx} {W : WR} {pos : Pos} {a b : Expr} {f g : EF} {pins : List (Addr × Obj)} {σ : L2.St} {H : Hp} {s : Shared} {ρ : List Addr} {M M' : Store} {E : Value → Shared → Prop}
/-! ### d[k] -/
def oNget : O2 := fun x k M => match x with
  | .dct d => match M[d]?, nkey? k with
    | some (.dN kvs), some (.tup js) => if (NestedKey.tup js).depth ≤ 8 then (valA kvs (.tup js)).map fun v => (v, M) else none
    | _, _ => none
  | _ => none
theorem n_get {d : Nat} {p : Addr} {kvs : List (NestedKey × A)} {js : List NestedKey} {kb : Addr} {v : A} {Q : Value → Shared → Prop} (hu : X.A.units + 9 < cLine) (I : L2.Inv X pins σ H s) (m : RM (X.am W.Tb) ρ H M) (hp : ρ[d]? = some p) (hc : M[d]? = some (.dN kvs))
    (ik : Is ρ H (ofN (.tup js)) (.ref kb)) (hd : (NestedKey.tup js).depth ≤ 8) (hv : valA kvs (.tup js) = some v) (q : ∀ u s' y, L2.Inv X pins σ H s' → Is ρ H v y → RelV y u → Q u s') :
    s.TypeIs (.ref p) "dict" ∧ wpAny (model X.prog X.w) X.A (getItem (.ref p) (.ref kb)) Q E s := by
  obtain ⟨bs, vs, us', hh, iks, ivs, dp, rv, l1, l3, hsz, hsm, hnd, D⟩ := nest_dict I m hp hc
  have keyIs : (nestedKind X.prog X.w).is s.heap (.tup js) kb := ⟨nested_of I.hok _ _ _ ik rfl, hd⟩
  rcases rowsN_at (k := .tup js) l1 ivs rv with ⟨e1, _⟩ | ⟨z, zv, b', u', e1, e2, iz, rz⟩
  · rw [hv] at e1; cases e1
  · rw [hv] at e1; cases e1
    refine ⟨D.typeIs, wpAny_getItem_heap (by show X.A.units + 1 + 8 < cLine; omega) keyIs D e2 (q _ _ _ (I.tok _) iz rz)⟩
theorem ae_nget (hu : X.A.units + 9 < cLine) (ha : AE X W a f) (hb : AE X W b g) (hs : NoSl b := by intro _ _; rfl) : AE X W (.Subscript a b pos) (eOp oNget f g) := ⟨fun pins s σ H Q I h => by
  have h := op_tK h
  refine subD_of PySem.F.slot_dict_getitem.lookup hs (thn (ha.run pins s σ H _ I h) fun u s1 ⟨x, H1, I1, rx, q1⟩ => thn (hb.run pins s1 σ H1 _ I1 q1) fun iv s2 ⟨y, H2, I2, ry, c, k, M, ρ, ic, ik, m, ro⟩ => ?_)
  unfold oNget at ro
  cases c with
  | dct d =>
    dsimp only at ro
    split at ro
    · rename_i kvs js ec ek
      split at ro
      · rename_i hd
        cases ev : valA kvs (.tup js) with
        | none => rw [ev] at ro; exact ro.elim
        | some v =>
          rw [ev] at ro
          cases ic with
          | dct hp =>
            cases rx
            have ik : Is ρ H2 (ofN (.tup js)) y := by rw [nkey_of _ _ ek]; exact ik
            obtain ⟨kb, rfl⟩ : ∃ kb, y = .ref kb := by simp only [ofN] at ik; cases ik with | tup h1 h2 => exact ⟨_, rfl⟩
            cases ry
            exact n_get hu I2 m hp ec ik hd ev fun u s' y I' iy ry => ⟨y, H2, I', ry, RO.val (ρ := ρ) (M := M) ro m iy⟩
      · exact ro.elim
    · exact ro.elim
  | _ => exact ro.elim⟩
/-! ### d[k] = v, a new key -/
def nPut (M : Store) (l : Nat) (k y : A) : Option Store := match M[l]?, nkey? k with
  | some (.dN kvs), some (.tup js) => if (NestedKey.tup js).depth ≤ 8 ∧ kvs.length < sizeLine ∧ (valA kvs (.tup js)).isNone = true then some (M.set l (.dN (kvs ++ [(.tup js, y)]))) else none
  | _, _ => none
theorem n_put {l : Nat} {p : Addr} {k y : A} {kv yv : V} {u1 u2 : Value} {Q : Unit → Shared → Prop} (hu : X.A.units + 9 < cLine) (I : L2.Inv X pins σ H s) (m : RM (X.am W.Tb) ρ H M) (hp : ρ[l]? = some p) (ik : Is ρ H k kv) (iy : Is ρ H y yv) (rk : RelV kv u1) (ry : RelV yv u2)
    (e : nPut M l k y = some M') (q : ∀ H' s', L2.Inv X pins σ H' s' → Grow H H' → RM (X.am W.Tb) ρ H' M' → (∀ b, b ≠ p → H' b = H b) → Q () s') : wpAny (model X.prog X.w) X.A (dictSet p u1 u2) Q E s := by
  unfold nPut at e
  split at e
  · rename_i kvs js ec ek
    split at e
    · rename_i hz
      obtain ⟨z1, z2, z3⟩ := hz
      cases e
      have ik : Is ρ H (ofN (.tup js)) kv := by rw [nkey_of _ _ ek]; exact ik
      obtain ⟨kb, rfl⟩ : ∃ kb, kv = .ref kb := by simp only [ofN] at ik; cases ik with | tup h1 h2 => exact ⟨_, rfl⟩
      cases rk
      obtain ⟨bs, vs, us', hh, iks, ivs, dp, rv, l1, l3, hsz, hsm, hnd, D⟩ := nest_dict I m hp ec
      have keyIs : (nestedKind X.prog X.w).is s.heap (.tup js) kb := ⟨nested_of I.hok _ _ _ ik rfl, z1⟩
      have rl : (rowsN (kvs.map (·.1)) bs us').length = kvs.length := by rw [rowsN_len (by simpa using l1) (by simpa using l3)]; simp
      have hno : atKey (rowsN (kvs.map (·.1)) bs us') (.tup js) = none := by
        rcases rowsN_at (k := .tup js) l1 ivs rv with ⟨_, e2⟩ | ⟨z, zv, b', u', e1, _⟩
        · exact e2
        · rw [e1] at z3; cases z3
      refine wpAny_dictSet_heap (hsz := by rw [rl]; exact hsz) (knd := nestedKind X.prog X.w) (by show X.A.units + 8 < cLine; omega) keyIs D fun h' D' sb => ?_
      have hk1 : (kvs.map (·.1)).length = bs.length := by simpa using l1
      have hv1 : (kvs.map (·.1)).length = us'.length := by simpa using l3
      rw [storedH_new hno, ← rowsN_append hk1 hv1] at D'
      obtain ⟨o, es, ep, ho, hx, hdt, he, _, hn2⟩ := D'
      have zk : (kvs.map (·.1) ++ [NestedKey.tup js]).zip (bs ++ [kb]) = ((kvs ++ [(NestedKey.tup js, y)]).map (·.1)).zip (bs ++ [kb]) := by rw [List.map_append]; rfl
      have lk : (kvs.map (·.1) ++ [NestedKey.tup js]).length = (bs ++ [kb]).length := by simp [l1]
      have fstk : ((kvs.map (·.1) ++ [NestedKey.tup js]).zip (bs ++ [kb])).map (·.1) = kvs.map (·.1) ++ [NestedKey.tup js] := map_zip_fst lk
      have new : ObjOk X.prog X.w (upd H p (nestO X.w p ((kvs.map (·.1) ++ [NestedKey.tup js]).zip (bs ++ [kb])) (vs ++ [yv]))) h' p (nestO X.w p ((kvs.map (·.1) ++ [NestedKey.tup js]).zip (bs ++ [kb])) (vs ++ [yv])) := by
        refine ⟨⟨?_, hsm, ?_, ?_, us' ++ [u2], rv.append (.cons ry .nil), o, es, ep, ho, hx, hdt, he.trans rowsN_entries.symm⟩, ⟨o, ho⟩, ?_⟩
        · simp only [List.length_zip, List.length_append, List.length_map, List.length_singleton]; omega
        · have := rv.length
          simp only [List.length_zip, List.length_append, List.length_map, List.length_singleton]; omega
        · rw [fstk]
          rw [rowsN_keys lk (by simp [l3])] at hn2
          exact hn2
        · rintro h1 h2 ⟨q1, q2, q3, q4, us, q5, o, es, ep, q6, q7⟩ k
          exact ⟨q1, q2, q3, q4, us, q5, o, es, ep, k o q6, q7⟩
      have I2 := I.write (e := p) (t' := s.toks + (nestedKind X.prog X.w).draws (.tup js)) (by rw [hh]; trivial) (.inl rfl) (fun b u hb hu' => (sb.2 b hb).trans hu') ⟨o, ho⟩ new
      have g := m.growSet (o := nestO X.w p ((kvs.map (·.1) ++ [NestedKey.tup js]).zip (bs ++ [kb])) (vs ++ [yv])) hp ec
      refine q _ _ I2 g (m.set hp ec ⟨bs ++ [kb], vs ++ [yv], by rw [upd_same, zk], ?_, ?_, ?_⟩) fun b hb => upd_ne hb
      · rw [List.map_append, List.map_append]
        exact (iks.mono (.refl _) g).append (.cons (ik.mono (.refl _) g) .nil)
      · rw [List.map_append]
        exact (ivs.mono (.refl _) g).append (.cons (iy.mono (.refl _) g) .nil)
      · intro kv hkv
        rcases List.mem_append.mp hkv with q | q
        · exact dp kv q
        · simp at q; subst q; exact z1
    · cases e
  · cases e
/-! ### {k: v for .. in ..} -/
def dcA (src : Src) (t : Tgt) (ft : EFb) (fk fe : EF) (l : Nat) (τ : Sl) : Nat → Nat → Store → EO A
  | 0, _, _ => .bad
  | n + 1, i, M => match src.at M i with
    | none => .bad
    | some none => .ok (.dct l) M
    | some (some x) => match t.set x τ with
      | none => .bad
      | some τ1 => match ft τ1 M with
        | .ok true M1 => match fk τ1 M1 with
          | .ok k M2 => match fe τ1 M2 with
            | .ok y M3 => match nPut M3 l k y with
              | some M4 => dcA src t ft fk fe l τ n (i + 1) M4
              | none => .bad
            | _ => .bad
          | _ => .bad
        | .ok false M1 => dcA src t ft fk fe l τ n (i + 1) M1
        | _ => .bad
def eDc (fi : EI) (t : Tgt) (ft : EFb) (fk fe : EF) (own : List Nat) : EF := fun τ M => (fi τ M).bind fun src M1 => dcA src t ft fk fe M1.length (wipeA τ own) (src.size M1) 0 (M1 ++ [.dN []])
theorem dc_core_n (own : List (Str × Nat)) {kx vx tg iter : Expr} {ifs : List Expr} {scope : Scope} {fi : EI} {t : Tgt} {ft : EFb} {fk fe : EF} {pos' : Pos} {use : Option (Value → Sem Unit)} {Qf : Value → Shared → Prop} {Q : VK} (hu : X.A.units + 9 < cLine) (hc : X.calm = true) (hN : X.N.Nodup) (ok : BlkOk X.N X.env.scope scope own) (ho : ∀ i ∈ t.own, i ∈ own.map (·.2)) (hi : AI X W tg iter fi)
    (hg : ∀ (s : Shared) (H : Hp) (C : Addr) (cl : List (Str × Addr)) (fp : List Addr), AG (X.blk s H scope (compEnvC scope cl C X.env) fp) tg t) (ht : ∀ (s : Shared) (H : Hp) (C : Addr) (cl : List (Str × Addr)) (fp : List Addr), ATs (X.blk s H scope (compEnvC scope cl C X.env) fp) W.nx ifs ft)
    (hk : ∀ (s : Shared) (H : Hp) (C : Addr) (cl : List (Str × Addr)) (fp : List Addr), AE (X.blk s H scope (compEnvC scope cl C X.env) fp) W.nx kx fk)
    (he : ∀ (s : Shared) (H : Hp) (C : Addr) (cl : List (Str × Addr)) (fp : List Addr), AE (X.blk s H scope (compEnvC scope cl C X.env) fp) W.nx vx fe) (hs : ∀ x, foldedSetIterable iter X.env x = pure x)
    (I : L2.Inv X pins σ H s) (h : tG (X.gx W.Tb) W Is (eDc fi t ft fk fe (own.map (·.2))) σ H Q)
    (hend : ∀ D C s' m H', L2.Inv X pins σ H' s' → Q (.ref D) H' → s'.heap.Ns C m → FpOk X pins H' C → compPost (model X.prog X.w) X.A X.xe use Qf (.ref D) C (.ok .next) s') :
    wpAny (model X.prog X.w) X.A (comprehension (.DictComp kx vx [⟨tg, iter, ifs, 0⟩] scope pos) scope X.env pos' newDict false (eval iter X.env) use) Qf X.xe s := by
  have fr : ∀ y ∈ scope.names, y.2 = .free → ∃ c, X.env.cells.lookup y.1 = some c := by
    intro y hy e
    exact (ok.free y hy e).elim (fun k => I.ok.has _ (.inl k)) fun k => I.ok.has _ (.inr k)
  refine wpAny_comprehension_free (use := use) rfl hs (closure_ok fr) ok.kind (fun y hy e => by rw [ok.uniq y hy, e]) (thn (hi.run pins s σ H _ I (seqG (relJ (X.am W.Tb)) h)) fun xv s1 hx => thn hx fun itv s2 h2 => ?_)
  obtain ⟨it, fp, tn, J, H2, rfl, I2, T, st2, f2, τ, M, ρ, src, rs, rm, ij, r⟩ := h2
  refine wpAny_newObj_type (newEnv_comp ?_)
  -- the new dict
  generalize hD : s2.heap.objs.size = D
  have nD : H2 D = none := I2.hok.fresh (Nat.le_of_eq hD)
  have big : s2.heap.objs.size ≠ sysModules := Ne.symm (Nat.ne_of_lt I2.big)
  generalize hz : ({ s2 with heap := s2.heap.push { cls := .type "dict", data := .dict #[] } } : Shared) = z
  have hzh : z.heap = s2.heap.push { cls := .type "dict", data := .dict #[] } := by rw [← hz]
  have I3 : L2.Inv X pins σ (upd H2 D (nestO X.w D [] [])) z := by
    subst hz hD
    refine I2.laid (a := s2.heap.objs.size) (t' := s2.toks) (fun _ _ q => Heap.get?_push_of_some _ q) (Nat.le_refl _) ⟨⟨Nat.zero_le _, beq_eq_false_iff_ne.mpr big, rfl, List.nodup_nil, [], .nil, _, #[], 0, Heap.get?_push_size _ rfl, ⟨rfl, rfl, rfl⟩, rfl, rfl⟩, ⟨_, Heap.get?_push_size _ rfl⟩, ?_⟩
    rintro h1 h2 ⟨q1, q2, q3, q4, us, q5, o, es, ep, q6, q7⟩ k
    exact ⟨q1, q2, q3, q4, us, q5, o, es, ep, k o q6, q7⟩
  generalize hG : upd H2 D (nestO X.w D [] []) = G at I3
  have g0 : Grow H2 G := by subst hG; exact .new nD
  have m0 : RM (X.am W.Tb) (ρ ++ [D]) G (M ++ [.dN []]) := by
    subst hG
    exact rm.push nD ⟨[], [], upd_same, .nil, .nil, fun _ z => by cases z⟩
  have hl0 : (ρ ++ [D])[M.length]? = some D := by rw [← rm.len]; simp
  have old : ∀ b ∈ fp, b < s2.heap.objs.size := fun b hb => by
    obtain ⟨o, e, _⟩ := T.obj _ _ st2 b hb
    exact Heap.lt_size e
  have fG : ∀ b ∈ fp, FpOk X pins G b ∧ b < z.heap.objs.size := fun b hb => by
    refine ⟨⟨?_, (f2 b hb).2⟩, by rw [hzh, Heap.size_push]; exact Nat.lt_succ_of_lt (old b hb)⟩
    rw [← hG, upd_ne (by rw [← hD]; exact Nat.ne_of_lt (old b hb))]
    exact (f2 b hb).1
  have I4 := block_start I3 ok hN fG
  have stz : tn 0 z.heap := T.keep _ _ _ st2 fun b _ o e => by rw [hzh]; exact Heap.get?_push_of_some _ e
  have ag := hg z G z.heap.objs.size (cellsFrom (z.heap.objs.size + 1) scope.names (cloFrom X.env.cells scope.names [])) fp
  have at' := ht z G z.heap.objs.size (cellsFrom (z.heap.objs.size + 1) scope.names (cloFrom X.env.cells scope.names [])) fp
  have ak := hk z G z.heap.objs.size (cellsFrom (z.heap.objs.size + 1) scope.names (cloFrom X.env.cells scope.names [])) fp
  have av := he z G z.heap.objs.size (cellsFrom (z.heap.objs.size + 1) scope.names (cloFrom X.env.cells scope.names [])) fp
  show codeAny _ _ (.compStart (.DictComp kx vx [⟨tg, iter, ifs, 0⟩] scope pos) 0 (.ref it) (.ref D) (compEnvC scope (cellsFrom (z.heap.objs.size + 1) scope.names (cloFrom X.env.cells scope.names [])) z.heap.objs.size X.env)) (compPost (model X.prog X.w) X.A X.xe use Qf (.ref D) z.heap.objs.size) { z with heap := pushCells (z.heap.push { cls := .type "dict", data := .dict #[] }) scope.names }
  generalize hce : compEnvC scope (cellsFrom (z.heap.objs.size + 1) scope.names (cloFrom X.env.cells scope.names [])) z.heap.objs.size X.env = ce at I4 ag at' ak av ⊢
  have ceL : ce.locals = z.heap.objs.size := by subst hce; rfl
  generalize hy : ({ z with heap := pushCells (z.heap.push { cls := .type "dict", data := .dict #[] }) scope.names } : Shared) = y at I4 ⊢
  have sty : tn 0 y.heap := T.keep _ _ _ stz fun b _ o e => by rw [← hy]; exact pushCells_keeps _ _ _ _ (Heap.get?_push_of_some _ e)
  have nG : ∀ b ∈ fp, G b = none := fun b hb => (fG b hb).1.1
  have r : RE (X.gx W.Tb) W σ ρ H2 Is (dcA src t ft fk fe M.length (wipeA τ (own.map (·.2))) (src.size M) 0 (M ++ [.dN []])) Q := r
  generalize hM : M.length = l at r hl0
  generalize M ++ [Cell.dN []] = M0 at r m0
  have fpo : ∀ {σ' : L2.St} {H' : Hp} {s' : Shared}, L2.Inv (X.blk z G scope ce fp) [] σ' H' s' → (∀ b ∈ fp, H' b = none) → ∀ b ∈ fp, FpOk (X.blk z G scope ce fp) [] H' b := by
    intro σ' H' s' I' hn b hb
    refine ⟨hn b hb, (I'.ok.exf b hb).1, I'.ok.exfs b hb, .inl hb, fun x c e => (I'.ok.exf b hb).2 x c e, fun p hp => ?_⟩
    exact absurd (show p ∈ ([] : List (Addr × Obj)) ++ [] from hp) (by simp)
  have loop : codeAny (model X.prog X.w) X.A (.compLoop (.DictComp kx vx [⟨tg, iter, ifs, 0⟩] scope pos) 0 (.ref it) (.ref D) ce) (compPost (model X.prog X.w) X.A X.xe use Qf (.ref D) z.heap.objs.size) y := by
    refine compLoop_anyD (fun n s' => ∃ i H' M' ρ', L2.Inv (X.blk z G scope ce fp) [] (L2.wipe σ (own.map (·.2))) H' s' ∧ tn i s'.heap ∧ (∀ b ∈ fp, H' b = none) ∧ Ext (ρ ++ [D]) ρ' ∧ Grow H2 H' ∧ RM (X.am W.Tb) ρ' H' M' ∧ RE (X.gx W.Tb) W σ ρ' H' Is (dcA src t ft fk fe l (wipeA τ (own.map (·.2))) n i M') Q)
      ?_ (src.size M) ⟨0, G, M0, ρ ++ [D], I4, sty, nG, .refl _, g0, m0, RE.mono r (.snoc _ _) g0⟩
    rintro n s5 ⟨i, H5, M5, ρ5, I5, st5, n5, x5, g5, m5, r5⟩
    have xx : Ext ρ ρ5 := (Ext.snoc ρ D).trans x5
    cases n with
    | zero => exact r5.elim
    | succ n =>
      unfold dcA at r5
      have jj := ij ρ5 H5 M5 i xx g5 m5
      cases ea : src.at M5 i with
      | none => rw [ea] at r5; exact r5.elim
      | some o =>
        cases o with
        | none =>
          rw [ea] at r5 jj
          have td := T.done (X.blk z G scope ce fp) rfl rfl rfl hc i [] s5 _ H5 (fun _ _ => False) I5 (fpo I5 n5) st5 jj
          refine thnF td fun rr s6 ⟨hr, I6⟩ => ?_
          subst hr
          have I7 : L2.Inv X pins σ H5 s6 := I3.call' (ch := fp) I6.os I6.base I6.hok I6.bare fun b hb => by
            obtain ⟨⟨f0, f1, f2, f3, f4, f5⟩, _⟩ := fG b hb
            exact ⟨f3, f1, f4, f5⟩
          have nC : H5 z.heap.objs.size = none := by
            have q : H5 ce.locals = none := I6.free
            rwa [ceL] at q
          obtain ⟨mm, hn, _⟩ := I6.loc
          have hn : s6.heap.Ns ce.locals mm := hn
          rw [ceL] at hn
          exact hend D z.heap.objs.size s6 mm H5 I7 (RE.okv (a := A.dct l) (M := M5) (rel := Is) r5 (.refl _) (.refl _) m5 (.dct (x5.get hl0))) hn (I3.fpOk (Nat.le_refl _) nC)
        | some a =>
          rw [ea] at r5 jj
          obtain ⟨go, yy⟩ := jj
          dsimp only at r5
          have ti := T.item (X.blk z G scope ce fp) rfl rfl rfl hc i [] s5 _ H5 (fun _ _ => False) I5 (fpo I5 n5) st5 go
          refine thnF ti fun rr s6 ⟨u, hr, h6⟩ => ?_
          subst hr
          refine thnF h6 fun _ s7 ⟨x, H7, I7, r7, y7, st7, n7⟩ => ?_
          obtain ⟨g7, m7, ia⟩ := yy x H7 y7
          have P7 := I7.pinned (fpo I7 n7) (T.obj _ _ st7)
          have g57 := g5.trans g7
          cases et : t.set a (wipeA τ (own.map (·.2))) with
          | none => rw [et] at r5; exact r5.elim
          | some τ1 =>
            rw [et] at r5
            dsimp only at r5
            have r5 := RE.mono r5 (.refl _) g7
            refine thnF (ag.run _ s7 _ H7 x u (fun σ1 H' => H' = H7 ∧ RS W.nx ρ5 H7 τ1 σ1 ∧ L2.wipe σ1 (own.map (·.2)) = L2.wipe σ (own.map (·.2))) P7 r7 ?_) fun _ s8 ⟨σ1, H8, I8, e8, rs1, ew⟩ => ?_
            · refine ⟨a, wipeA τ (own.map (·.2)), ρ5, τ1, ia, ((rs.mono xx g57).wipe _).s, et, fun σ1 q1 sb => ⟨rfl, ⟨(rs.mono xx g57).ext, (rs.mono xx g57).grow, q1⟩, ?_⟩⟩
              rw [sb.wipe ho]
              exact wipe_wipe σ _
            subst e8
            -- a turn's end
            have fin : ∀ {s' : Shared} {H' : Hp} {M' : Store} {ρ' : List Addr}, L2.Inv (X.blk z G scope ce fp) ([] ++ pinsAt fp s7.heap) σ1 H' s' → Ext (ρ ++ [D]) ρ' → Grow H2 H' → RM (X.am W.Tb) ρ' H' M' → RE (X.gx W.Tb) W σ ρ' H' Is (dcA src t ft fk fe l (wipeA τ (own.map (·.2))) n (i + 1) M') Q →
                ∃ m, m < n + 1 ∧ ∃ i H' M' ρ', L2.Inv (X.blk z G scope ce fp) [] (L2.wipe σ (own.map (·.2))) H' s' ∧ tn i s'.heap ∧ (∀ b ∈ fp, H' b = none) ∧ Ext (ρ ++ [D]) ρ' ∧ Grow H2 H' ∧ RM (X.am W.Tb) ρ' H' M' ∧ RE (X.gx W.Tb) W σ ρ' H' Is (dcA src t ft fk fe l (wipeA τ (own.map (·.2))) m i M') Q := by
              intro s' H' M' ρ' I' x' g' m' r'
              have pin' : ∀ b ∈ fp, ∀ o, s7.heap.get? b = some o → s'.heap.get? b = some o ∧ H' b = none := fun b hb o e => by
                have q := I'.pin (b, o) (List.mem_append_right _ (List.mem_append_right _ (mem_pinsAt hb e)))
                exact ⟨q.1, q.2.1⟩
              refine ⟨n, Nat.lt_succ_self n, i + 1, H', M', ρ', (I'.unpinned (pins := [])).weak (by rw [← ew, wipe_length]) (fun j v e => ?_), T.keep _ _ _ st7 (fun b hb o e => (pin' b hb o e).1), fun b hb => ?_, x', g', m', r'⟩
              · rw [← ew] at e
                exact (wipe_some e).1
              · obtain ⟨o, e, _⟩ := T.obj _ _ st7 b hb
                exact (pin' b hb o e).2
            refine thnF (at'.run _ s8 σ1 H8 (fun k H' => ∃ M' ρ', ft τ1 M5 = .ok k M' ∧ Ext ρ5 ρ' ∧ Grow H8 H' ∧ RM (X.am W.Tb) ρ' H' M') I8 ?_) fun k s9 ⟨H9, I9, M9, ρ9, e9, x9, g9, m9⟩ => ?_
            · refine ⟨τ1, M5, ρ5, rs1, m7, ?_⟩
              cases e1 : ft τ1 M5 with
              | ok k M1 =>
                intro k' H' ρ' x g m ik
                have ik : k = k' := ik
                subst ik
                exact ⟨M1, ρ', rfl, x, g, m⟩
              | ex en M1 => rw [e1] at r5; exact r5.elim
              | bad => rw [e1] at r5; exact r5.elim
            rw [e9] at r5
            cases k with
            | false =>
              simp only [Bool.false_eq_true, if_false]
              dsimp only at r5
              exact fin I9 (x5.trans x9) (g57.trans g9) m9 (RE.mono r5 x9 g9)
            | true =>
              simp only [if_true]
              dsimp only at r5
              refine thnF (ak.run _ s9 σ1 H9 (fun kv H' => ∃ k M' ρ', fk τ1 M9 = .ok k M' ∧ Ext ρ9 ρ' ∧ Grow H9 H' ∧ RM (X.am W.Tb) ρ' H' M' ∧ Is ρ' H' k kv) I9 ?_) fun u1 sa ⟨kv, Ha, Ia, ra, k, Ma, ρa, ea', xa, ga, ma, ik⟩ => ?_
              · refine ⟨τ1, M9, ρ9, rs1.mono x9 g9, m9, ?_⟩
                cases e1 : fk τ1 M9 with
                | ok k M1 =>
                  intro k' H' ρ' x g m ik
                  exact ⟨k, M1, ρ', rfl, x, g, m, ik⟩
                | ex en M1 => rw [e1] at r5; exact r5.elim
                | bad => rw [e1] at r5; exact r5.elim
              rw [ea'] at r5
              dsimp only at r5
              refine thnF (av.run _ sa σ1 Ha (fun yv H' => ∃ y M' ρ', fe τ1 Ma = .ok y M' ∧ Ext ρa ρ' ∧ Grow Ha H' ∧ RM (X.am W.Tb) ρ' H' M' ∧ Is ρ' H' y yv) Ia ?_) fun u2 sb ⟨yv, Hb, Ib, rb, yA, Mb, ρb, eb, xb, gb, mb, iy⟩ => ?_
              · refine ⟨τ1, Ma, ρa, (rs1.mono x9 g9).mono xa ga, ma, ?_⟩
                cases e1 : fe τ1 Ma with
                | ok k M1 =>
                  intro k' H' ρ' x g m ik
                  exact ⟨k, M1, ρ', rfl, x, g, m, ik⟩
                | ex en M1 => rw [e1] at r5; exact r5.elim
                | bad => rw [e1] at r5; exact r5.elim
              rw [eb] at r5
              dsimp only at r5
              cases ep : nPut Mb l k yA with
              | none => rw [ep] at r5; exact r5.elim
              | some Mc =>
                rw [ep] at r5
                dsimp only at r5
                have hbD : ρb[l]? = some D := xb.get (xa.get (x9.get (x5.get hl0)))
                refine n_put (X := X.blk z G scope ce fp) hu Ib mb hbD (ik.mono xb gb) iy ra rb ep fun Hc sc Ic gc mc _ => ?_
                exact fin Ic (x5.trans (x9.trans (xa.trans xb))) ((((g57.trans g9).trans ga).trans gb).trans gc) mc (RE.mono r5 (x9.trans (xa.trans xb)) (((g9.trans ga).trans gb).trans gc))
  exact codeAny_compStart_dict loop (T.self X.A 0 _ _ _ sty loop)
theorem ae_dc (own : List (Str × Nat)) {kx vx tg iter : Expr} {ifs : List Expr} {scope : Scope} {fi : EI} {t : Tgt} {ft : EFb} {fk fe : EF} (hu : X.A.units + 9 < cLine) (hc : X.calm = true) (hN : X.N.Nodup) (ok : BlkOk X.N X.env.scope scope own) (ho : ∀ i ∈ t.own, i ∈ own.map (·.2)) (hi : AI X W tg iter fi)
    (hg : ∀ (s : Shared) (H : Hp) (C : Addr) (cl : List (Str × Addr)) (fp : List Addr), AG (X.blk s H scope (compEnvC scope cl C X.env) fp) tg t) (ht : ∀ (s : Shared) (H : Hp) (C : Addr) (cl : List (Str × Addr)) (fp : List Addr), ATs (X.blk s H scope (compEnvC scope cl C X.env) fp) W.nx ifs ft)
    (hk : ∀ (s : Shared) (H : Hp) (C : Addr) (cl : List (Str × Addr)) (fp : List Addr), AE (X.blk s H scope (compEnvC scope cl C X.env) fp) W.nx kx fk)
    (he : ∀ (s : Shared) (H : Hp) (C : Addr) (cl : List (Str × Addr)) (fp : List Addr), AE (X.blk s H scope (compEnvC scope cl C X.env) fp) W.nx vx fe) (hs : ∀ x, foldedSetIterable iter X.env x = pure x := by intro _; rfl) :
    AE X W (.DictComp kx vx [⟨tg, iter, ifs, 0⟩] scope pos) (eDc fi t ft fk fe (own.map (·.2))) := ⟨fun pins s σ H Q I h => by
  rw [arm_eval_DictComp]
  refine dc_core_n own hu hc hN ok ho hi hg ht hk he hs I h fun D C s' m H' I' q hn f => ⟨m, hn, fun h'' sb => ?_⟩
  obtain ⟨f0, f1, f2, f3, f4, f5⟩ := f
  exact ⟨.ref D, H', I'.turned (t' := s'.toks) (fun b o hb e => (sb.2 b hb).trans e) f0 f1 f3 f4 f5, rfl, q⟩⟩
theorem sw_trueD {kx vx : Expr} {gs : List Comprehension} {scope : Scope} {pos py : Pos} {y : Str} {l : Nat} {env : Env} (hk : env.scope.kind = .function) (hy : env.scope.names.lookup y = some .local) (hl : (py.line == pos.line) = true)
    (ha : (scope.names.any fun (n, k) => n == y && (k == .local || k == .cell)) = false) : swapsWith (.DictComp kx vx gs scope pos) (some (.Name y py)) l env = pure true := by
  have k1 : env.kindOf y = some .local := hy
  have k2 : env.blockKind = .function := by unfold Env.blockKind; rw [hk]; rfl
  unfold swapsWith
  simp only [k2, k1, ha, Expr.pos, hl]
  rfl
theorem as_setDc (i : Nat) (own : List (Str × Nat)) {y : Str} {py spos : Pos} {kx vx tg iter : Expr} {ifs : List Expr} {scope : Scope} {fi : EI} {t : Tgt} {ft : EFb} {fk fe : EF} (hu : X.A.units + 9 < cLine) (hc : X.calm = true) (hN : X.N.Nodup) (hsw : swapsWith (.DictComp kx vx [⟨tg, iter, ifs, 0⟩] scope pos) (some (.Name y py)) spos.line X.env = pure true) (ok : BlkOk X.N X.env.scope scope own) (ho : ∀ i ∈ t.own, i ∈ own.map (·.2)) (hi : AI X W tg iter fi)
    (hg : ∀ (s : Shared) (H : Hp) (C : Addr) (cl : List (Str × Addr)) (fp : List Addr), AG (X.blk s H scope (compEnvC scope cl C X.env) fp) tg t) (ht : ∀ (s : Shared) (H : Hp) (C : Addr) (cl : List (Str × Addr)) (fp : List Addr), ATs (X.blk s H scope (compEnvC scope cl C X.env) fp) W.nx ifs ft)
    (hk : ∀ (s : Shared) (H : Hp) (C : Addr) (cl : List (Str × Addr)) (fp : List Addr), AE (X.blk s H scope (compEnvC scope cl C X.env) fp) W.nx kx fk)
    (he : ∀ (s : Shared) (H : Hp) (C : Addr) (cl : List (Str × Addr)) (fp : List Addr), AE (X.blk s H scope (compEnvC scope cl C X.env) fp) W.nx vx fe) (hy : X.N[i]? = some y := by rfl) (hyl : X.env.scope.names.lookup y = some .local := by rfl) (hs : ∀ x, foldedSetIterable iter X.env x = pure x := by intro _; rfl) :
    AS X W (.Assign [.Name y py] (.DictComp kx vx [⟨tg, iter, ifs, 0⟩] scope pos) spos) (sAsg (.nm i) (eDc fi t ft fk fe (own.map (·.2)))) := ⟨fun pins s σ H D I h => by
  have h1 := asg_tK h
  rw [exec_Assign_Name_used _ _ _ _ hsw]
  refine wpAny_bind (wpAny_standAt (wpAny_bind ?_))
  show wpAny _ X.A (do let _ ← comprehension (.DictComp kx vx [⟨tg, iter, ifs, 0⟩] scope pos) scope X.env (firstIterPos [⟨tg, iter, ifs, 0⟩] pos) newDict false (eval iter X.env) (some (assign (.Name y py) X.env))) _ _ s
  refine wpAny_bind (thn (dc_core_n (Qf := fun _ s' => SP X pins D .next s') own hu hc hN ok ho hi hg ht hk he hs I h1 fun L C s' m H' I' q hn f => ?_) fun _ s' hq => wpAny_pure (wpAny_pure hq))
  show wpAny _ _ (assign (.Name y py) X.env (.ref L)) _ _ _
  obtain ⟨a, τ, ρ, τ', ia, rs, e, q⟩ := q
  simp only [Tgt.set] at e
  cases e
  refine wpAny_assign_Name (store_ok2 (v := V.ref L) I' hN hy (.inl hyl) rfl (fun s2 I2 ⟨b, sb, hb⟩ => ?_) (.inr hyl))
  obtain ⟨f0, f1, f2, f3, f4, f5⟩ := f
  have nb : C ≠ b := by
    rcases hb with z | z
    · rw [z]; exact f1
    · exact fun e => f4 y b z e.symm
  refine ⟨m, hn.sameBut sb nb, fun h3 sb3 => ?_⟩
  refine ⟨_, H', I2.turned (t' := s2.toks) (fun b o hb e => (sb3.2 b hb).trans e) f0 f1 f3 f4 f5, q _ (rs.set ia i) ⟨by simp, fun j hj => ?_⟩⟩
  rw [List.getElem?_set_ne (by intro z; exact hj (by simp [Tgt.own, z]))]⟩
end
end AB
/-! AB20: enumerate(t, start=k), t a tuple -/
namespace EK
open PySem PySem.Spec PyProof.Rows L2
end EK
namespace AB
open PySem PySem.Spec PyProof.Rows L2
section
variable {X : Cx} {W : WR} {pos : Pos} {e v : Expr} {f g : EF}
end
end AB
/-! AB21: len(set(..)) of a list or a tuple of ints -/
namespace AB
open PySem PySem.Spec PyProof.Rows L2
def dd : List Int → List Int
  | [] => []
  | x :: xs => if x ∈ xs then dd xs else x :: dd xs
theorem mem_dd {y : Int} : ∀ {xs : List Int}, y ∈ dd xs ↔ y ∈ xs
  | [] => Iff.rfl
  | x :: xs => by
    unfold dd
    by_cases h : x ∈ xs
    · rw [if_pos h, mem_dd, List.mem_cons]
      exact ⟨.inr, fun z => z.elim (fun e => by rw [e]; exact h) id⟩
    · rw [if_neg h, List.mem_cons, List.mem_cons, mem_dd]
theorem nodup_dd : ∀ xs : List Int, (dd xs).Nodup
  | [] => List.nodup_nil
  | x :: xs => by
    unfold dd
    by_cases h : x ∈ xs
    · rw [if_pos h]; exact nodup_dd xs
    · rw [if_neg h]; exact List.nodup_cons.mpr ⟨fun z => h (mem_dd.mp z), nodup_dd xs⟩
theorem len_le_of_sub : ∀ {xs ys : List Int}, xs.Nodup → (∀ y ∈ xs, y ∈ ys) → xs.length ≤ ys.length
  | [], _, _, _ => Nat.zero_le _
  | x :: xs, ys, h, s => by
    obtain ⟨h1, h2⟩ := List.nodup_cons.mp h
    have hx : x ∈ ys := s x List.mem_cons_self
    have := len_le_of_sub (ys := ys.erase x) h2 fun y hy => (List.mem_erase_of_ne (show y ≠ x from fun e => h1 (by rw [← e]; exact hy))).mpr (s y (List.mem_cons_of_mem _ hy))
    rw [List.length_erase_of_mem hx] at this
    have := List.length_pos_of_mem hx
    simp only [List.length_cons]; omega
theorem len_dd {xs ys : List Int} (h : ys.Nodup) (m : ∀ y, y ∈ xs ↔ y ∈ ys) : (dd xs).length = ys.length :=
  Nat.le_antisymm (len_le_of_sub (nodup_dd xs) fun y hy => (m y).mp (mem_dd.mp hy)) (len_le_of_sub h fun y hy => mem_dd.mpr ((m y).mpr hy))
section
variable {X : Cx} {W : WR} {pos : Pos} {a : Expr} {f : EF}
def oLenSetX : O1 := fun x M => match x with
  | .lst l => match listAt M l with
    | some xs => match ints? xs with
      | some is => if is.length ≤ 4000 then some (.int ((dedup is).length : Nat), M) else none
      | none => none
    | none => none
  | .tup xs => match ints? xs with
    | some is => if is.length ≤ 4000 then some (.int ((dd is).length : Nat), M) else none
    | none => none
  | _ => none
theorem ae_lenSetX {p p2 q : Pos} (hm : X.mg "len" = none) (hm2 : X.mg "set" = none) (ha : AE X W a f) (hc : X.calm = true := by rfl) (hg : Gl X "len" := by rfl) (hg2 : Gl X "set" := by rfl)
    (na : starEach [a] X.env = (false, eval a X.env) :: starEach [] X.env := by rfl) : AE X W (.Call (.Name "len" p) [.Call (.Name "set" p2) [a] [] q] [] pos) (eUn oLenSetX f) := by
  refine ⟨fun pins s σ H Q I h => ?_⟩
  have h2 := seqG (G := (X.gx W.Tb)) (W := W) Is h
  refine Call_ (ld_blt I hg hm boot_len ?_)
  refine PyProof.Rows.callWith_builtin1 (PyProof.Rows.args_cons ?_ rfl) rfl rfl
  refine Call_ (ld_blt I hg2 hm2 boot_set ?_)
  refine PyProof.Rows.callWith_type1 (PyProof.Rows.args_cons (thn (ha.run pins s σ H _ I h2) fun v s1 ⟨x, H1, I1, r1, q1⟩ => PyProof.Rows.args_nil ?_) na) na rfl
  obtain ⟨τ, M, ρ, y, rs, rm', i, r⟩ := q1
  have ro : RO (X.am W.Tb) ρ H1 (oLenSetX y M) Q := RO.of r
  unfold oLenSetX at ro
  cases i with
  | lst hl =>
    dsimp only at ro
    split at ro
    · rename_i xs el
      split at ro
      · rename_i is ei
        split at ro
        · rename_i hz4
          obtain ⟨vs, hq, iv⟩ := rm'.list hl el
          rw [ints_of ei] at iv
          rw [iv.ints] at hq
          cases r1
          obtain ⟨its, r, pl, hz⟩ := I1.list hq
          have hlen : its.toArray.size = is.length := by rw [List.size_toArray, ← r.length, List.length_map]
          refine call_set_list (ns := is) (I1.ok.hd hc) pl.isList (by simpa using intsAre_of r) (by rw [hlen]; unfold scanBound; omega) fun h' tk hS hk => ?_
          refine PyProof.Rows.args_nil ?_
          rw [hlen, firstMet_all] at hS
          obtain ⟨o, es, ep, t, ho, hex, hd, _, _, _, hf, hn⟩ := hS
          have I2 : L2.Inv X pins σ H1 { s1 with heap := h', toks := tk } := I1.kept fun b o e => hk b o (Heap.lt_size e) e
          have hdl : (dedup is).length ≤ is.length := by rw [← firstMet_all]; exact PyProof.Rows.firstMet_length_le _ _
          exact call_len_set ho hex hd hf (by rw [hn] <;> omega) ⟨.int (dedup is).length, H1, I2.tok _, ⟨_, by rw [hn]⟩, ro.val rm' (.int _)⟩
        · exact ro.elim
      · exact ro.elim
    · exact ro.elim
  | tup ht it =>
    rename_i ad ts0 vs0
    dsimp only at ro
    split at ro
    · rename_i is ei
      split at ro
      · rename_i hz4
        rw [ints_of ei] at it
        have ht : H1 ad = some (.tup (is.map V.int)) := by rw [it.ints] at ht; exact ht
        cases r1
        obtain ⟨its, r, pl, hz⟩ := I1.tuple (show SqT X.K H1 ad (is.map V.int) from .inl (.inl ht))
        refine L2.call_set_tupI is (I1.ok.hd hc) (show s1.heap.IsTuple _ its.toArray from pl) (by simpa using intsAre_of r) (by unfold scanBound; omega) fun h' tk c R hc' hk => ?_
        refine PyProof.Rows.args_nil ?_
        obtain ⟨o, es, ep, t, ho, hex, hd, hge, hnd, hmem, _, hf, hn, _⟩ := R
        have I2 : L2.Inv X pins σ H1 { s1 with heap := h', toks := tk } := I1.kept fun b o e => hk b o e
        have hl : (dd is).length = es.size := by
          rw [len_dd hnd fun y => ?_]
          · simp
          · rw [← hmem y]; simp
        refine call_len_set ho hex hd hf (by rw [hn]; omega) ⟨.int (dd is).length, H1, I2.tok _, ⟨_, by rw [hl]⟩, ro.val rm' (.int _)⟩
      · exact ro.elim
    · exact ro.elim
  | _ => exact ro.elim
end
end AB
/-! AB22: backward steps for AB16 to AB21 -/
namespace AB
open PySem PySem.Spec PyProof.Rows L2
section
variable {α β : Type} {τ : Sl} {M : Store} {Q : A → Store → Prop} {Qs : List A → Store → Prop} {Qb : Bool → Store → Prop} {N : Sl → Store → Prop} {R : A → Store → Prop} {P : Src → Store → Prop} {Pk : List Str → Store → Prop}
end
end AB
local macro_rules | `(tactic| walk_at "wt") => `(tactic| first
  | walk_at "ws" | with_reducible refine AB.w_kC ?_ | with_reducible refine AB.w_kIx ?_ | with_reducible refine AB.w_inK ?_ | with_reducible refine AB.w_inT ?_ | with_reducible refine AB.w_iK ?_ | with_reducible refine AB.w_iPerm ?_ | with_reducible refine AB.w_enumK ?_ | with_reducible refine AB.w_pNil ?_ | with_reducible refine AB.w_pCons ?_ | with_reducible refine AB.w_dispN ?_ | with_reducible refine AB.w_get2 ?_)
/-! AB23: xs[::-1] of a list -/
namespace AB
open PySem PySem.Spec PyProof.Rows L2
theorem IsAll.rev {ρ : List Addr} {H : Hp} : ∀ {ts : List A} {vs : List V}, IsAll ρ H ts vs → IsAll ρ H ts.reverse vs.reverse
  | [], _, .nil => .nil
  | t :: ts, _, .cons r rs => by
    rw [List.reverse_cons, List.reverse_cons]
    exact (IsAll.rev rs).append (.cons r .nil)
section
variable {X : Cx} {W : WR} {pos : Pos} {a : Expr} {f : EF}
end
end AB
/-! AB24: {k for .. in ..}, ints; its len -/
namespace AB
open PySem PySem.Spec PyProof.Rows L2
section
variable {X : Cx} {W : WR} {pos : Pos} {pins : List (Addr × Obj)} {σ : L2.St} {H : Hp} {s : Shared} {ρ : List Addr} {M M' : Store} {E : Value → Shared → Prop}
def sPut (M : Store) (l : Nat) (y : A) : Option Store := match M[l]?, y with
  | some (.st xs), .int k => if xs.length + 1 < scanBound then some (M.set l (.st (if k ∈ xs then xs else xs ++ [k]))) else none
  | _, _ => none
theorem s_put {l : Nat} {p : Addr} {y : A} {yv : V} {u2 : Value} (I : L2.Inv X pins σ H s) (m : RM (X.am W.Tb) ρ H M) (hp : ρ[l]? = some p) (iy : Is ρ H y yv) (ry : RelV yv u2)
    (e : sPut M l y = some M') : wpAny (model X.prog X.w) X.A (call (.builtin "set.add") [.ref p, u2]) (fun _ s' => ∃ H', L2.Inv X pins σ H' s' ∧ Grow H H' ∧ RM (X.am W.Tb) ρ H' M') X.xe s := by
  unfold sPut at e
  split at e
  · rename_i xs k ec
    split at e
    · rename_i hz
      cases e
      cases iy
      obtain ⟨S, hS, hk⟩ := m.at_ _ _ _ hp ec
      refine thn (mt_sadd pins s σ H (.ref p) [.int k] (.ref p) [u2] (fun _ H' => Grow H H' ∧ RM (X.am W.Tb) ρ H' (M.set l (.st (if k ∈ xs then xs else xs ++ [k])))) I rfl (.cons ry .nil) ⟨p, k, S, xs.length, rfl, rfl, hS, hz, m.growSet hp ec, ?_⟩) fun u s' ⟨z, H', I', _, g, m'⟩ => ⟨H', I', g, m'⟩
      refine m.set hp ec ⟨fun j => S j || decide (j = k), ?_, fun j => ?_⟩
      · rw [upd_same]
        congr 2
        by_cases h : k ∈ xs
        · rw [if_pos (by rw [hk]; simpa using h), if_pos h]
        · rw [if_neg (by rw [hk]; simpa using h), if_neg h]; simp
      · show (S j || decide (j = k)) = _
        rw [hk]
        by_cases h : k ∈ xs
        · rw [if_pos h]
          by_cases e : j = k
          · subst e; simp [h]
          · simp [e]
        · rw [if_neg h]; simp
    · cases e
  · cases e
def scA (src : Src) (t : Tgt) (ft : EFb) (fe : EF) (l : Nat) (τ : Sl) : Nat → Nat → Store → EO A
  | 0, _, _ => .bad
  | n + 1, i, M => match src.at M i with
    | none => .bad
    | some none => .ok (.dct l) M
    | some (some x) => match t.set x τ with
      | none => .bad
      | some τ1 => match ft τ1 M with
        | .ok true M1 => match fe τ1 M1 with
          | .ok y M3 => match sPut M3 l y with
            | some M4 => scA src t ft fe l τ n (i + 1) M4
            | none => .bad
          | _ => .bad
        | .ok false M1 => scA src t ft fe l τ n (i + 1) M1
        | _ => .bad
def eSc (fi : EI) (t : Tgt) (ft : EFb) (fe : EF) (own : List Nat) : EF := fun τ M => (fi τ M).bind fun src M1 => scA src t ft fe M1.length (wipeA τ own) (src.size M1) 0 (M1 ++ [.st []])
theorem sc_core_i (own : List (Str × Nat)) {vx tg iter : Expr} {ifs : List Expr} {scope : Scope} {fi : EI} {t : Tgt} {ft : EFb} {fe : EF} {pos' : Pos} {use : Option (Value → Sem Unit)} {Qf : Value → Shared → Prop} {Q : VK} (hc : X.calm = true) (hN : X.N.Nodup) (ok : BlkOk X.N X.env.scope scope own) (ho : ∀ i ∈ t.own, i ∈ own.map (·.2)) (hi : AI X W tg iter fi)
    (hg : ∀ (s : Shared) (H : Hp) (C : Addr) (cl : List (Str × Addr)) (fp : List Addr), AG (X.blk s H scope (compEnvC scope cl C X.env) fp) tg t) (ht : ∀ (s : Shared) (H : Hp) (C : Addr) (cl : List (Str × Addr)) (fp : List Addr), ATs (X.blk s H scope (compEnvC scope cl C X.env) fp) W.nx ifs ft)
    (he : ∀ (s : Shared) (H : Hp) (C : Addr) (cl : List (Str × Addr)) (fp : List Addr), AE (X.blk s H scope (compEnvC scope cl C X.env) fp) W.nx vx fe) (hs : ∀ x, foldedSetIterable iter X.env x = pure x)
    (I : L2.Inv X pins σ H s) (h : tG (X.gx W.Tb) W Is (eSc fi t ft fe (own.map (·.2))) σ H Q)
    (hend : ∀ D C s' m H', L2.Inv X pins σ H' s' → Q (.ref D) H' → s'.heap.Ns C m → FpOk X pins H' C → compPost (model X.prog X.w) X.A X.xe use Qf (.ref D) C (.ok .next) s') :
    wpAny (model X.prog X.w) X.A (comprehension (.SetComp vx [⟨tg, iter, ifs, 0⟩] scope pos) scope X.env pos' (newSet (.type "set")) false (eval iter X.env) use) Qf X.xe s := by
  have fr : ∀ y ∈ scope.names, y.2 = .free → ∃ c, X.env.cells.lookup y.1 = some c := by
    intro y hy e
    exact (ok.free y hy e).elim (fun k => I.ok.has _ (.inl k)) fun k => I.ok.has _ (.inr k)
  refine wpAny_comprehension_free (use := use) rfl hs (closure_ok fr) ok.kind (fun y hy e => by rw [ok.uniq y hy, e]) (thn (hi.run pins s σ H _ I (seqG (relJ (X.am W.Tb)) h)) fun xv s1 hx => thn hx fun itv s2 h2 => ?_)
  obtain ⟨it, fp, tn, J, H2, rfl, I2, T, st2, f2, τ, M, ρ, src, rs, rm, ij, r⟩ := h2
  refine PpSet.newSet_ok (newEnv_comp ?_)
  generalize hD : s2.heap.objs.size = D
  have nD : H2 D = none := I2.hok.fresh (Nat.le_of_eq hD)
  generalize hz : ({ s2 with heap := s2.heap.push { cls := .type "set", dict := none, data := .set #[] 0 (.fresh 0 0 (!X.w.params.followText "set-order")) } } : Shared) = z
  have hzh : z.heap = s2.heap.push { cls := .type "set", dict := none, data := .set #[] 0 (.fresh 0 0 (!X.w.params.followText "set-order")) } := by rw [← hz]
  have I3 : L2.Inv X pins σ (upd H2 D (SetO X.w D (fun _ => false) 0)) z := by
    subst hz hD
    exact I2.laid (a := s2.heap.objs.size) (t' := s2.toks) (fun _ _ q => Heap.get?_push_of_some _ q) (Nat.le_refl _) (setO_new (setR_fresh X.w))
  generalize hG : upd H2 D (SetO X.w D (fun _ => false) 0) = G at I3
  have g0 : Grow H2 G := by subst hG; exact .new nD
  have m0 : RM (X.am W.Tb) (ρ ++ [D]) G (M ++ [.st []]) := by
    subst hG
    exact rm.push nD ⟨_, upd_same, fun _ => by simp⟩
  have hl0 : (ρ ++ [D])[M.length]? = some D := by rw [← rm.len]; simp
  have old : ∀ b ∈ fp, b < s2.heap.objs.size := fun b hb => by
    obtain ⟨o, e, _⟩ := T.obj _ _ st2 b hb
    exact Heap.lt_size e
  have fG : ∀ b ∈ fp, FpOk X pins G b ∧ b < z.heap.objs.size := fun b hb => by
    refine ⟨⟨?_, (f2 b hb).2⟩, by rw [hzh, Heap.size_push]; exact Nat.lt_succ_of_lt (old b hb)⟩
    rw [← hG, upd_ne (by rw [← hD]; exact Nat.ne_of_lt (old b hb))]
    exact (f2 b hb).1
  have I4 := block_start I3 ok hN fG
  have stz : tn 0 z.heap := T.keep _ _ _ st2 fun b _ o e => by rw [hzh]; exact Heap.get?_push_of_some _ e
  have ag := hg z G z.heap.objs.size (cellsFrom (z.heap.objs.size + 1) scope.names (cloFrom X.env.cells scope.names [])) fp
  have at' := ht z G z.heap.objs.size (cellsFrom (z.heap.objs.size + 1) scope.names (cloFrom X.env.cells scope.names [])) fp
  have av := he z G z.heap.objs.size (cellsFrom (z.heap.objs.size + 1) scope.names (cloFrom X.env.cells scope.names [])) fp
  show codeAny _ _ (.compStart (.SetComp vx [⟨tg, iter, ifs, 0⟩] scope pos) 0 (.ref it) (.ref D) (compEnvC scope (cellsFrom (z.heap.objs.size + 1) scope.names (cloFrom X.env.cells scope.names [])) z.heap.objs.size X.env)) (compPost (model X.prog X.w) X.A X.xe use Qf (.ref D) z.heap.objs.size) { z with heap := pushCells (z.heap.push { cls := .type "dict", data := .dict #[] }) scope.names }
  generalize hce : compEnvC scope (cellsFrom (z.heap.objs.size + 1) scope.names (cloFrom X.env.cells scope.names [])) z.heap.objs.size X.env = ce at I4 ag at' av ⊢
  have ceL : ce.locals = z.heap.objs.size := by subst hce; rfl
  generalize hy : ({ z with heap := pushCells (z.heap.push { cls := .type "dict", data := .dict #[] }) scope.names } : Shared) = y at I4 ⊢
  have sty : tn 0 y.heap := T.keep _ _ _ stz fun b _ o e => by rw [← hy]; exact pushCells_keeps _ _ _ _ (Heap.get?_push_of_some _ e)
  have nG : ∀ b ∈ fp, G b = none := fun b hb => (fG b hb).1.1
  have r : RE (X.gx W.Tb) W σ ρ H2 Is (scA src t ft fe M.length (wipeA τ (own.map (·.2))) (src.size M) 0 (M ++ [.st []])) Q := r
  generalize hM : M.length = l at r hl0
  generalize M ++ [Cell.st []] = M0 at r m0
  have fpo : ∀ {σ' : L2.St} {H' : Hp} {s' : Shared}, L2.Inv (X.blk z G scope ce fp) [] σ' H' s' → (∀ b ∈ fp, H' b = none) → ∀ b ∈ fp, FpOk (X.blk z G scope ce fp) [] H' b := by
    intro σ' H' s' I' hn b hb
    refine ⟨hn b hb, (I'.ok.exf b hb).1, I'.ok.exfs b hb, .inl hb, fun x c e => (I'.ok.exf b hb).2 x c e, fun p hp => ?_⟩
    exact absurd (show p ∈ ([] : List (Addr × Obj)) ++ [] from hp) (by simp)
  have loop : codeAny (model X.prog X.w) X.A (.compLoop (.SetComp vx [⟨tg, iter, ifs, 0⟩] scope pos) 0 (.ref it) (.ref D) ce) (compPost (model X.prog X.w) X.A X.xe use Qf (.ref D) z.heap.objs.size) y := by
    refine PpSet.compLoopS_any (fun n s' => ∃ i H' M' ρ', L2.Inv (X.blk z G scope ce fp) [] (L2.wipe σ (own.map (·.2))) H' s' ∧ tn i s'.heap ∧ (∀ b ∈ fp, H' b = none) ∧ Ext (ρ ++ [D]) ρ' ∧ Grow H2 H' ∧ RM (X.am W.Tb) ρ' H' M' ∧ RE (X.gx W.Tb) W σ ρ' H' Is (scA src t ft fe l (wipeA τ (own.map (·.2))) n i M') Q)
      ?_ (src.size M) ⟨0, G, M0, ρ ++ [D], I4, sty, nG, .refl _, g0, m0, RE.mono r (.snoc _ _) g0⟩
    rintro n s5 ⟨i, H5, M5, ρ5, I5, st5, n5, x5, g5, m5, r5⟩
    have xx : Ext ρ ρ5 := (Ext.snoc ρ D).trans x5
    cases n with
    | zero => exact r5.elim
    | succ n =>
      unfold scA at r5
      have jj := ij ρ5 H5 M5 i xx g5 m5
      cases ea : src.at M5 i with
      | none => rw [ea] at r5; exact r5.elim
      | some o =>
        cases o with
        | none =>
          rw [ea] at r5 jj
          have td := T.done (X.blk z G scope ce fp) rfl rfl rfl hc i [] s5 _ H5 (fun _ _ => False) I5 (fpo I5 n5) st5 jj
          refine thnF td fun rr s6 ⟨hr, I6⟩ => ?_
          subst hr
          have I7 : L2.Inv X pins σ H5 s6 := I3.call' (ch := fp) I6.os I6.base I6.hok I6.bare fun b hb => by
            obtain ⟨⟨f0, f1, f2, f3, f4, f5⟩, _⟩ := fG b hb
            exact ⟨f3, f1, f4, f5⟩
          have nC : H5 z.heap.objs.size = none := by
            have q : H5 ce.locals = none := I6.free
            rwa [ceL] at q
          obtain ⟨mm, hn, _⟩ := I6.loc
          have hn : s6.heap.Ns ce.locals mm := hn
          rw [ceL] at hn
          exact hend D z.heap.objs.size s6 mm H5 I7 (RE.okv (a := A.dct l) (M := M5) (rel := Is) r5 (.refl _) (.refl _) m5 (.dct (x5.get hl0))) hn (I3.fpOk (Nat.le_refl _) nC)
        | some a =>
          rw [ea] at r5 jj
          obtain ⟨go, yy⟩ := jj
          dsimp only at r5
          have ti := T.item (X.blk z G scope ce fp) rfl rfl rfl hc i [] s5 _ H5 (fun _ _ => False) I5 (fpo I5 n5) st5 go
          refine thnF ti fun rr s6 ⟨u, hr, h6⟩ => ?_
          subst hr
          refine thnF h6 fun _ s7 ⟨x, H7, I7, r7, y7, st7, n7⟩ => ?_
          obtain ⟨g7, m7, ia⟩ := yy x H7 y7
          have P7 := I7.pinned (fpo I7 n7) (T.obj _ _ st7)
          have g57 := g5.trans g7
          cases et : t.set a (wipeA τ (own.map (·.2))) with
          | none => rw [et] at r5; exact r5.elim
          | some τ1 =>
            rw [et] at r5
            dsimp only at r5
            have r5 := RE.mono r5 (.refl _) g7
            refine thnF (ag.run _ s7 _ H7 x u (fun σ1 H' => H' = H7 ∧ RS W.nx ρ5 H7 τ1 σ1 ∧ L2.wipe σ1 (own.map (·.2)) = L2.wipe σ (own.map (·.2))) P7 r7 ?_) fun _ s8 ⟨σ1, H8, I8, e8, rs1, ew⟩ => ?_
            · refine ⟨a, wipeA τ (own.map (·.2)), ρ5, τ1, ia, ((rs.mono xx g57).wipe _).s, et, fun σ1 q1 sb => ⟨rfl, ⟨(rs.mono xx g57).ext, (rs.mono xx g57).grow, q1⟩, ?_⟩⟩
              rw [sb.wipe ho]
              exact wipe_wipe σ _
            subst e8
            -- a turn's end
            have fin : ∀ {s' : Shared} {H' : Hp} {M' : Store} {ρ' : List Addr}, L2.Inv (X.blk z G scope ce fp) ([] ++ pinsAt fp s7.heap) σ1 H' s' → Ext (ρ ++ [D]) ρ' → Grow H2 H' → RM (X.am W.Tb) ρ' H' M' → RE (X.gx W.Tb) W σ ρ' H' Is (scA src t ft fe l (wipeA τ (own.map (·.2))) n (i + 1) M') Q →
                ∃ m, m < n + 1 ∧ ∃ i H' M' ρ', L2.Inv (X.blk z G scope ce fp) [] (L2.wipe σ (own.map (·.2))) H' s' ∧ tn i s'.heap ∧ (∀ b ∈ fp, H' b = none) ∧ Ext (ρ ++ [D]) ρ' ∧ Grow H2 H' ∧ RM (X.am W.Tb) ρ' H' M' ∧ RE (X.gx W.Tb) W σ ρ' H' Is (scA src t ft fe l (wipeA τ (own.map (·.2))) m i M') Q := by
              intro s' H' M' ρ' I' x' g' m' r'
              have pin' : ∀ b ∈ fp, ∀ o, s7.heap.get? b = some o → s'.heap.get? b = some o ∧ H' b = none := fun b hb o e => by
                have q := I'.pin (b, o) (List.mem_append_right _ (List.mem_append_right _ (mem_pinsAt hb e)))
                exact ⟨q.1, q.2.1⟩
              refine ⟨n, Nat.lt_succ_self n, i + 1, H', M', ρ', (I'.unpinned (pins := [])).weak (by rw [← ew, wipe_length]) (fun j v e => ?_), T.keep _ _ _ st7 (fun b hb o e => (pin' b hb o e).1), fun b hb => ?_, x', g', m', r'⟩
              · rw [← ew] at e
                exact (wipe_some e).1
              · obtain ⟨o, e, _⟩ := T.obj _ _ st7 b hb
                exact (pin' b hb o e).2
            refine thnF (at'.run _ s8 σ1 H8 (fun k H' => ∃ M' ρ', ft τ1 M5 = .ok k M' ∧ Ext ρ5 ρ' ∧ Grow H8 H' ∧ RM (X.am W.Tb) ρ' H' M') I8 ?_) fun k s9 ⟨H9, I9, M9, ρ9, e9, x9, g9, m9⟩ => ?_
            · refine ⟨τ1, M5, ρ5, rs1, m7, ?_⟩
              cases e1 : ft τ1 M5 with
              | ok k M1 =>
                intro k' H' ρ' x g m ik
                have ik : k = k' := ik
                subst ik
                exact ⟨M1, ρ', rfl, x, g, m⟩
              | ex en M1 => rw [e1] at r5; exact r5.elim
              | bad => rw [e1] at r5; exact r5.elim
            rw [e9] at r5
            cases k with
            | false =>
              simp only [Bool.false_eq_true, if_false]
              dsimp only at r5
              exact fin I9 (x5.trans x9) (g57.trans g9) m9 (RE.mono r5 x9 g9)
            | true =>
              simp only [if_true]
              dsimp only at r5
              refine thnF (av.run _ s9 σ1 H9 (fun yv H' => ∃ y M' ρ', fe τ1 M9 = .ok y M' ∧ Ext ρ9 ρ' ∧ Grow H9 H' ∧ RM (X.am W.Tb) ρ' H' M' ∧ Is ρ' H' y yv) I9 ?_) fun u2 sb ⟨yv, Hb, Ib, rb, yA, Mb, ρb, eb, xb, gb, mb, iy⟩ => ?_
              · refine ⟨τ1, M9, ρ9, rs1.mono x9 g9, m9, ?_⟩
                cases e1 : fe τ1 M9 with
                | ok k M1 =>
                  intro k' H' ρ' x g m ik
                  exact ⟨k, M1, ρ', rfl, x, g, m, ik⟩
                | ex en M1 => rw [e1] at r5; exact r5.elim
                | bad => rw [e1] at r5; exact r5.elim
              rw [eb] at r5
              dsimp only at r5
              cases ep : sPut Mb l yA with
              | none => rw [ep] at r5; exact r5.elim
              | some Mc =>
                rw [ep] at r5
                dsimp only at r5
                have hbD : ρb[l]? = some D := xb.get (x9.get (x5.get hl0))
                refine thnF (s_put (X := X.blk z G scope ce fp) Ib mb hbD iy rb ep) fun _ sc ⟨Hc, Ic, gc, mc⟩ => ?_
                exact fin Ic (x5.trans (x9.trans xb)) (((g57.trans g9).trans gb).trans gc) mc (RE.mono r5 (x9.trans xb) ((g9.trans gb).trans gc))
  exact PpSet.codeAny_compStart_set loop (T.self X.A 0 _ _ _ sty loop)
theorem ae_sc (own : List (Str × Nat)) {vx tg iter : Expr} {ifs : List Expr} {scope : Scope} {fi : EI} {t : Tgt} {ft : EFb} {fe : EF} (hc : X.calm = true) (hN : X.N.Nodup) (ok : BlkOk X.N X.env.scope scope own) (ho : ∀ i ∈ t.own, i ∈ own.map (·.2)) (hi : AI X W tg iter fi)
    (hg : ∀ (s : Shared) (H : Hp) (C : Addr) (cl : List (Str × Addr)) (fp : List Addr), AG (X.blk s H scope (compEnvC scope cl C X.env) fp) tg t) (ht : ∀ (s : Shared) (H : Hp) (C : Addr) (cl : List (Str × Addr)) (fp : List Addr), ATs (X.blk s H scope (compEnvC scope cl C X.env) fp) W.nx ifs ft)
    (he : ∀ (s : Shared) (H : Hp) (C : Addr) (cl : List (Str × Addr)) (fp : List Addr), AE (X.blk s H scope (compEnvC scope cl C X.env) fp) W.nx vx fe) (hs : ∀ x, foldedSetIterable iter X.env x = pure x := by intro _; rfl) :
    AE X W (.SetComp vx [⟨tg, iter, ifs, 0⟩] scope pos) (eSc fi t ft fe (own.map (·.2))) := ⟨fun pins s σ H Q I h => by
  rw [PpSet.eval_SetComp]
  refine sc_core_i own hc hN ok ho hi hg ht he hs I h fun D C s' m H' I' q hn f => ⟨m, hn, fun h'' sb => ?_⟩
  obtain ⟨f0, f1, f2, f3, f4, f5⟩ := f
  exact ⟨.ref D, H', I'.turned (t' := s'.toks) (fun b o hb e => (sb.2 b hb).trans e) f0 f1 f3 f4 f5, rfl, q⟩⟩
def oLenSt : On := fun as M => match as with
  | [.dct l] => match M[l]? with
    | some (.st xs) => if xs.length < 1000000 then some (.int (xs.length : Nat), M) else none
    | _ => none
  | _ => none
theorem cr_lenSt : CallR X (.builtin "len") (rn (X.am W.Tb) oLenSt) := by
  intro pins s σ H xs us Q I r h
  obtain ⟨as, M, ρ, is, m, ro⟩ := h
  unfold oLenSt at ro
  split at ro
  · rename_i l
    split at ro
    · rename_i zs ec
      split at ro
      · rename_i hz
        cases is with
        | cons i1 is =>
          cases is
          cases i1 with
          | dct hl =>
            obtain ⟨S, hS, hk⟩ := m.at_ _ _ _ hl ec
            obtain ⟨o, es, ep, t, ho, hex, hd, _, _, _, _, hf, hn, _⟩ := setO_get I hS
            cases r with
            | cons r1 r2 =>
              cases r2
              cases r1
              exact call_len_set ho hex hd hf (by rw [hn]; omega) ⟨.int zs.length, H, I.tok _, ⟨_, by rw [hn]⟩, ro.val m (.int _)⟩
      · exact ro.elim
    · exact ro.elim
  · exact ro.elim
end
end AB
/-! AB25: t[::-1] of a list or a tuple -/
namespace AB
open PySem PySem.Spec PyProof.Rows L2
section
variable {prog : Program} {w : World} {Ar : Around} {E : Value → Shared → Prop} {s : Shared}
theorem places_rev (n : Nat) : Builtin.Slice.slicePlaces ((n : Int) - 1) (-1) (-1) = n := by
  unfold Builtin.Slice.slicePlaces
  rw [if_neg (by omega)]
  by_cases h : (n : Int) - 1 > -1
  · rw [if_pos h, show (- -1 : Int) = 1 from rfl, Int.ediv_one]; omega
  · rw [if_neg h]; omega
theorem applied_rev {sl : Addr} {vl vu vs : Value} {n : Nat} {Q : Int × Int × Nat → Shared → Prop} (hs : s.heap.IsSliceOf sl vl vu vs) (pl : IsPart vl none) (pu : IsPart vu none) (ps : IsPart vs (some (-1))) (h : Q ((n : Int) - 1, -1, n) s) :
    wpAny (model prog w) Ar (Builtin.Slice.sliceApplied (.ref sl) (pure (n : Int))) Q E s := by
  obtain ⟨oz, ho1, ho2, ho3⟩ := hs
  unfold Builtin.Slice.sliceApplied Builtin.Slice.sliceFields
  refine wpAny_bind (wpAny_bind (wpAny_field ho1 ho3 (x := vl) rfl (wpAny_bind (wpAny_field ho1 ho3 (x := vu) rfl (wpAny_bind (wpAny_field ho1 ho3 (x := vs) rfl (wpAny_pure ?_)))))))
  refine wpAny_bind (HT.slicePart_ ps ?_)
  show wpAny _ _ (if ((-1 : Int) == 0) = true then _ else _) _ _ s
  rw [if_neg (show ¬ ((-1 : Int) == 0) = true by decide)]
  refine wpAny_bind (HT.slicePart_ pl (wpAny_bind (HT.slicePart_ pu (wpAny_bind (wpAny_pure ?_)))))
  show wpAny _ _ (pure ((n : Int) - 1, (-1 : Int), Builtin.Slice.slicePlaces ((n : Int) - 1) (-1) (-1))) _ _ s
  rw [places_rev]; exact wpAny_pure h
theorem fm_some {α β : Type} {f : α → Option β} {g : α → β} : ∀ l : List α, (∀ k ∈ l, f k = some (g k)) → l.filterMap f = l.map g
  | [], _ => rfl
  | k :: l, h => by
    rw [List.filterMap_cons, h k (by simp), List.map_cons, fm_some l fun j hj => h j (by simp [hj])]
theorem pick_rev (xs : Array Value) : ((List.range xs.size).filterMap fun (k : Nat) => xs[((xs.size : Int) - 1 + (k : Int) * -1).toNat]?).toArray = xs.toList.reverse.toArray := by
  congr 1
  refine List.ext_getElem? fun i => ?_
  have e : ((List.range xs.size).filterMap fun (k : Nat) => xs[((xs.size : Int) - 1 + (k : Int) * -1).toNat]?) = (List.range xs.size).map fun k => (xs.toList.reverse)[k]?.getD .none := by
    refine fm_some _ fun k hk => ?_
    have hk := List.mem_range.mp hk
    have e1 : ((xs.size : Int) - 1 + (k : Int) * -1).toNat = xs.size - 1 - k := by omega
    rw [e1, List.getElem?_reverse (by simpa using hk)]
    have : xs.size - 1 - k < xs.size := by omega
    simp [this]
  rw [e, List.getElem?_map]
  by_cases hi : i < xs.size
  · rw [List.getElem?_range hi]
    have : i < xs.toList.reverse.length := by simpa using hi
    simp only [Option.map_some, List.getElem?_eq_getElem this, Option.getD_some]
  · rw [List.getElem?_eq_none (by simpa using hi), List.getElem?_eq_none (by simpa using hi)]
    rfl
theorem getItem_rev {t sl : Addr} {items : Array Value} {vl vu vs : Value} {Q : Value → Shared → Prop} (ht : IsTup s.heap t items) (hs : s.heap.IsSliceOf sl vl vu vs) (pl : IsPart vl none) (pu : IsPart vu none) (ps : IsPart vs (some (-1)))
    (h : Q (.ref s.heap.objs.size) { s with heap := s.heap.push { cls := .type "tuple", data := .seq items.toList.reverse.toArray } })
    (hz : items.size ≤ sizeLine) : wpAny (model prog w) Ar (getItem (.ref t) (.ref sl)) Q E s := by
  have hz2 : sizeOk (.seq items.toList.reverse.toArray) := by
    show items.toList.reverse.toArray.size ≤ sizeLine
    simpa using hz
  have hT : s.TypeIs (.ref sl) "slice" := by
    obtain ⟨oz, ho1, ho2, _⟩ := hs
    exact ⟨oz, ho1, ho2⟩
  unfold getItem
  try with_reducible refine wpAny_holding ?_
  first | refine wpAny_bind (wpAny_pure ?_) | skip
  refine wpAny_bind (wpAny_sequenceKey ht.typeIs (by decide) (wpAny_bind (wpAny_callSpecial?_slot (name := Str.ofString "__getitem__") ht.typeIs PyProof.Rows.slot_tuple_getitem
    (wpAny_call_entry PyProof.Rows.slot_tuple_getitem ht.typeIs entry_tuple_getitem ?_ (args_tuple_getitem _ _)))))
  show wpAny _ _ (Builtin.Tuple.tupleItemsOf (.ref t) >>= _) _ _ s
  refine wpAny_bind (tupleItemsOf_ ht (wpAny_bind (wpAny_typeOf hT ?_)))
  rw [if_pos (show (Value.type "slice" == Value.type "slice") = true by decide)]
  refine wpAny_bind (applied_rev hs pl pu ps ?_)
  have hno : ¬ ((((items.size : Int) - 1) == 0 && (-1 : Int) == 1 && items.size == items.size) = true) := by simp
  show wpAny _ _ (if (((items.size : Int) - 1) == 0 && (-1 : Int) == 1 && items.size == items.size) = true then _ else _) _ _ s
  rw [if_neg hno, pick_rev]
  first
    | exact wpAny_bind (m := Builtin.Tuple.tupleExact _) (wpAny_newObj_type (wpAny_pure ⟨_, rfl, wpAny_pure h⟩) hz2)
    | exact wpAny_bind (m := Builtin.Tuple.tupleExact _) (wpAny_newObj_type (wpAny_bind (wpAny_pure (wpAny_pure ⟨_, rfl, wpAny_pure h⟩))) hz2)
    | exact wpAny_bind (wpAny_bind (m := Builtin.Tuple.tupleExact _) (wpAny_newObj_type (wpAny_pure (wpAny_pure ⟨_, rfl, wpAny_pure h⟩)) hz2))
    | exact wpAny_bind (wpAny_bind (m := Builtin.Tuple.tupleExact _) (wpAny_newObj_type (wpAny_pure ⟨_, rfl, wpAny_pure h⟩) hz2))
end
/-! ### x[::-1] -/
def tRevA (K : PySem.W.Frag) (te : TE) : TE := fun σ H Q => te σ H fun x H1 => ∃ a xs, x = .ref a ∧ ((SqL K H1 a xs ∧ ∀ p, H1 p = none → Q (.ref p) (upd H1 p (.lst xs.reverse))) ∨ (SqT K H1 a xs ∧ ∀ p, H1 p = none → Q (.ref p) (upd H1 p (.tup xs.reverse))))
section
variable {X : Cx} {W : WR} {pos : Pos} {a : Expr} {f : EF}
theorem pe_revA {e : Expr} {te : TE} {k : Nat} {p1 p2 p3 pos : Pos} (he : PE X e te) : PE X (.Subscript e (.Slice none none (some (.UnaryOp .USub (.Constant (.int 1) k p1) p2)) p3) pos) (tRevA X.K te) := by
  refine ⟨fun pins s σ H Q I h => Subscript_ (thn (he.run pins s σ H _ I h) fun v s1 ⟨x, H1, I1, r1, a, xs, ex, hx⟩ => ?_)⟩
  subst ex
  cases r1
  have hst : PO X (some (.UnaryOp .USub (.Constant (.int 1) k p1) p2)) (tPart (tUn (rU fun i => .int (-i)) (tC (.int 1)))) := po_some (pe_un un_neg pe_int)
  refine wpAny_Slice (thn (po_none.run pins s1 σ H1 (fun o H2 => o = none ∧ H2 = H1) I1 ⟨rfl, rfl⟩) fun vl s2 ⟨l, H2, I2, pl, el, e2⟩ => thn (po_none.run pins s2 σ H2 (fun o H3 => o = none ∧ H3 = H2) I2 ⟨rfl, rfl⟩) fun vu s3 ⟨u, H3, I3, pu, eu, e3⟩ => ?_)
  subst el e2 eu e3
  refine thn (hst.run pins s3 σ H3 (fun o H4 => o = some (-1) ∧ H4 = H3) I3 ⟨1, rfl, -1, rfl, rfl, rfl⟩) fun vs s4 ⟨o, H4, I4, ps, eo, e4⟩ => ?_
  subst eo e4
  generalize hs5 : ({ s4 with heap := s4.heap.push { cls := .type "slice", data := .fields #[vl, vu, vs] } } : Shared) = s5
  have I5 : L2.Inv X pins σ H4 s5 := by
    rw [← hs5]
    exact I4.kept (t' := s4.toks) fun b ob q => Heap.get?_push_of_some _ q
  have hsl : s5.heap.IsSliceOf s4.heap.objs.size vl vu vs := by rw [← hs5]; exact Heap.IsSliceOf.new _ vl vu vs
  show wpAny (model X.prog X.w) X.A (subscriptTail e (.Slice none none (some (.UnaryOp .USub (.Constant (.int 1) k p1) p2)) p3) (.ref a) (.ref s4.heap.objs.size)) (EP X pins σ Q) X.xe _
  generalize s4.heap.objs.size = sl at hsl
  rcases hx with ⟨hx, q⟩ | ⟨hx, q⟩
  · obtain ⟨its, r, ht, hz⟩ := I5.list hx
    have hlen := r.length
    refine tail_any (ops := [.ref a, .ref sl]) ht.isList.typeIs (PySem.slot_list_getitem.lookup) (wpAny_getItem_list_slice ht.isList hsl pl pu ps (by decide) ?_ (by rw [List.size_toArray]; omega)) (by with_unfolding_all rfl)
    rw [PySem.W.krv_pick]
    exact ⟨.ref _, _, I5.laid (t' := s5.toks) (o := .lst xs.reverse) (fun b ob q => Heap.get?_push_of_some _ q) (Nat.le_refl _) ⟨by rw [List.length_reverse]; exact hz, _, 0, r.reverse, Heap.get?_push_size _ rfl⟩, rfl, q _ (I5.hok.fresh (Nat.le_refl _))⟩
  · obtain ⟨its, r, ht, hz⟩ := I5.tuple hx
    have hlen : its.toArray.size = xs.length := by rw [List.size_toArray]; exact r.length.symm
    refine tail_any (ops := [.ref a, .ref sl]) ht.typeIs (PyProof.Rows.slot_tuple_getitem.lookup) (getItem_rev ht hsl pl pu ps ?_ (by rw [hlen]; exact hz)) (by with_unfolding_all rfl)
    exact ⟨.ref _, _, I5.laid (t' := s5.toks) (o := .tup xs.reverse) (fun b ob q => Heap.get?_push_of_some _ q) (Nat.le_refl _) ⟨by rw [List.length_reverse]; exact hz, _, r.reverse, IsTup.new _ _⟩, rfl, q _ (I5.hok.fresh (Nat.le_refl _))⟩
def oRev : O1 := fun a M => match a with
  | .lst l => (listAt M l).map fun xs => (.lst M.length, M ++ [.lst xs.reverse])
  | .tup xs => some (.tup xs.reverse, M)
  | _ => none
theorem ae_rev {k : Nat} {p1 p2 p3 : Pos} (ha : AE X W a f) : AE X W (.Subscript a (.Slice none none (some (.UnaryOp .USub (.Constant (.int 1) k p1) p2)) p3) pos) (eUn oRev f) := (pe_revA ha).pre fun σ H Q h => by
  refine (seqG (G := (X.gx W.Tb)) (W := W) Is h).imp fun x H1 h1 => ?_
  obtain ⟨τ, M, ρ, y, rs, rm, i, r⟩ := h1
  have ro : RO (X.am W.Tb) ρ H1 (oRev y M) Q := RO.of r
  unfold oRev at ro
  cases i with
  | lst ha =>
    simp only at ro
    cases e1 : listAt M _ with
    | none => rw [e1] at ro; exact ro.elim
    | some xs =>
      rw [e1] at ro
      obtain ⟨vs, hq, is⟩ := rm.list ha e1
      exact ⟨_, vs, rfl, .inl ⟨hq, fun p hp => RO.newL (M := M) ro rm is.rev hp⟩⟩
  | tup ha qa =>
    have ro : RO (X.am W.Tb) ρ H1 (some (.tup (List.reverse _), M)) Q := ro
    exact ⟨_, _, rfl, .inr ⟨.inl (.inl ha), fun p hp => RO.newT (M := M) ro rm qa.rev hp⟩⟩
  | _ => exact ro.elim
end
end AB
/-! AB26: backward steps for set comprehensions -/
namespace AB
open PySem PySem.Spec PyProof.Rows L2
section
variable {τ : Sl} {M : Store} {Q : A → Store → Prop}
end
end AB
/-! AB27: lambdas handed to a def and called there -/
namespace AB
open PySem PySem.Spec PyProof.Rows L2
/-! ### a lambda's names: its parameters, captured ones, globals -/
structure LamP (sc scope : Scope) (ps : List Str) : Prop where
  kind : scope.kind = .function
  co : scope.isCoroutine = false
  gen : scope.isGenerator = false
  cell : ∀ y ∈ scope.names, y.2 ≠ .cell
  own : ∀ y ∈ scope.names, y.2 = .local → y.1 ∈ ps
  par : ∀ x ∈ ps, scope.names.lookup x = some .local
  nd : ps.Nodup
  free : ∀ y ∈ scope.names, y.2 = .free → sc.names.lookup y.1 = some .cell ∨ sc.names.lookup y.1 = some .free
def lamPB (sc scope : Scope) (ps : List Str) : Bool :=
  decide (scope.kind = .function) && !scope.isCoroutine && !scope.isGenerator && (scope.names.all fun y => !decide (y.2 = .cell) && (!decide (y.2 = .local) || decide (y.1 ∈ ps)) && (!decide (y.2 = .free) || decide (sc.names.lookup y.1 = some .cell) || decide (sc.names.lookup y.1 = some .free))) &&
    (ps.all fun x => decide (scope.names.lookup x = some .local)) && decide ps.Nodup
theorem lamP_by {sc scope : Scope} {ps : List Str} (h : lamPB sc scope ps = true) : LamP sc scope ps := by
  unfold lamPB at h
  simp only [Bool.and_eq_true, Bool.or_eq_true, Bool.not_eq_true', decide_eq_true_eq, decide_eq_false_iff_not, List.all_eq_true] at h
  obtain ⟨⟨⟨⟨⟨h1, h2⟩, h3⟩, h4⟩, h5⟩, h6⟩ := h
  refine ⟨h1, h2, h3, fun y hy => (h4 y hy).1.1, fun y hy e => ?_, h5, h6, fun y hy e => ?_⟩
  · rcases (h4 y hy).1.2 with z | z
    · exact absurd e z
    · exact z
  · rcases (h4 y hy).2 with (z | z) | z
    · exact absurd e z
    · exact .inl z
    · exact .inr z
theorem LamP.has {X : Cx} {scope : Scope} {ps : List Str} (L : LamP X.env.scope scope ps) (ok : X.Ok) : ∀ y ∈ scope.names, y.2 = .free → ∃ c, X.env.cells.lookup y.1 = some c := fun y hy e => by
  rcases L.free y hy e with k | k
  · exact ok.has _ (.inl k)
  · exact ok.has _ (.inr k)
/-- the context of the lambda's body -/
abbrev lamCxP (X : Cx) (A : Around) (outer : List Env) (s : Shared) (H : Hp) (E : XK) (scope : Scope) (f c' : Addr) (ps : List Str) : Cx := { LamX.lamCx X A outer s H E scope f c' with N := X.N ++ ps }
/-- the lambda's object as it stands -/
def LamAt (X : Cx) (s : Shared) (H : Hp) (params : Arguments) (body : Expr) (scope : Scope) (f c' : Addr) (pm ctv : Value) : Prop :=
  s.heap.get? f = some (PySem.W.kla_obj "<lambda>" (X.env.qual ++ "<lambda>") params body scope (cloFrom X.env.cells scope.names []) pm c' ctv) ∧ H f = none ∧ f ∉ frs X.stack ∧ H c' = some (LamX.CodeO c' (X.env.qual ++ "<lambda>"))
section
variable {X : Cx} {pins : List (Addr × Obj)} {σ : L2.St} {H HZ : Hp} {s s1 : Shared}
theorem mem_reverse_lookup {ps : List Str} {us : List Value} (nd : ps.Nodup) (hl : us.length = ps.length) {i : Nat} {x : Str} {u : Value} (h1 : ps[i]? = some x) (h2 : us[i]? = some u) : (ps.zip us).reverse.lookup x = some u := by
  have hnd : ((ps.zip us).reverse.map (·.1)).Nodup := by
    rw [List.map_reverse, List.map_fst_zip (by omega)]
    exact (List.reverse_perm _).nodup_iff.mpr nd
  have hm : (x, u) ∈ (ps.zip us).reverse := by
    rw [List.mem_reverse]
    refine List.mem_of_getElem? (i := i) ?_
    rw [List.getElem?_zip_eq_some]
    exact ⟨h1, h2⟩
  generalize (ps.zip us).reverse = l at hnd hm
  induction l with
  | nil => cases hm
  | cons p l ih =>
    obtain ⟨y, z⟩ := p
    rw [List.map_cons, List.nodup_cons] at hnd
    rcases List.mem_cons.mp hm with e | e
    · cases e
      simp [List.lookup]
    · have ne : (x == y) = false := by
        rw [beq_eq_false_iff_ne]
        intro z'
        subst z'
        exact hnd.1 (List.mem_map.mpr ⟨_, e, rfl⟩)
      simp only [List.lookup, ne]
      exact ih hnd.2 e
/-- a captured name's cell is the maker's -/
theorem caught_of {cells : List (Str × Addr)} {names : List (Str × NameKind)} (all : ∀ y ∈ names, y.2 = .free → ∃ b, cells.lookup y.1 = some b) {z : Str} {b : Addr} (h : (cloFrom cells names []).lookup z = some b) : cells.lookup z = some b := by
  rcases cloFrom_mem (PySem.mem_of_lookup h) with none | ⟨isFree, eb⟩
  · exact absurd none List.not_mem_nil
  · obtain ⟨b', hb'⟩ := all _ isFree rfl
    have same : b = b' := by rw [eb, show cells.lookup z = some b' from hb']; rfl
    rw [same]
    exact hb'
/-- each captured name has one -/
theorem caught_has {cells : List (Str × Addr)} {names : List (Str × NameKind)} {z : Str} (h : names.lookup z = some .free) : ∃ b, (cloFrom cells names []).lookup z = some b :=
  mem_lookup (cloFrom_has (cells := cells) (acc := []) (PySem.mem_of_lookup h))
/-- the lambda's frame: its parameters, and what it captured as the maker left it -/
theorem lam_startP {A : Around} {outer : List Env} {E : XK} {scope : Scope} {f c' : Addr} {h₁ : Heap} {tk : Nat} {ps : List Str} {us : List Value} {vs : List V} (I : Inv X pins σ H s) (L : LamP X.env.scope scope ps) (e0 : Env0 X.prog X.w X.K X.mg X.base A outer s1 HZ) (hd : A.handled = none)
    (un : Un (frs X.stack) [] H HZ s.heap s1.heap) (hdis : ∀ x ∈ ps, x ∉ X.N) (hl : us.length = ps.length) (hv : Vals vs us) (hns : h₁.Ns s1.heap.objs.size fun y => (ps.zip us).reverse.lookup y) (kp : ∀ b o, s1.heap.get? b = some o → h₁.get? b = some o) :
    Inv (lamCxP X A outer s1 HZ E scope f c' ps) [] (σ ++ vs.map some) HZ { s1 with heap := h₁, toks := tk } := by
  have back : ∀ {z b}, (cloFrom X.env.cells scope.names []).lookup z = some b → X.env.cells.lookup z = some b := fun h => caught_of (L.has I.ok) h
  have still : ∀ {b : Addr} {v : Option Value}, H b = none → s.heap.IsCell b v → h₁.IsCell b v := fun {b v} untold ⟨ob, hob, hdat⟩ => by
    obtain ⟨slots, q⟩ := un.any hob untold (by simp)
    exact ⟨_, kp _ _ q, hdat⟩
  have nex : ∀ b : Addr, b ∉ (lamCxP X A outer s1 HZ E scope f c' ps).ex := fun b z => absurd (show b ∈ ([] : List Addr) from z) (by simp)
  have ok : (lamCxP X A outer s1 HZ E scope f c' ps).Ok :=
    { mod := e0.mod
      kind := L.kind
      glob := rfl
      blt := rfl
      above := Nat.le_refl _
      inj := fun y z b t1 t2 => I.ok.inj y z b (back t1) (back t2)
      has := fun y hy => by
        rcases (show scope.names.lookup y = some .cell ∨ scope.names.lookup y = some .free from hy) with t | t
        · exact absurd rfl (L.cell _ (PySem.mem_of_lookup t))
        · exact caught_has t
      cab := fun y b z _ => absurd (show false = true from z) (by simp)
      hd := fun _ => hd
      frames := Around.frames_deeper e0.frames
      stk := .inr ⟨rfl, rfl⟩
      exf := fun b z => absurd z (nex b)
      bs := e0.bs
      bsz := e0.bsz
      noex := fun b _ _ => nex b
      exfs := fun b z => absurd z (nex b)
      funs := e0.funs
      frf := e0.frf }
  have many : vs.length = ps.length := by rw [hv.length, hl]
  -- what a name that is seen holds
  have names : ∀ (i : Nat) (y : Str) (v : V), (X.N ++ ps)[i]? = some y → (σ ++ vs.map some)[i]? = some (some v) → Vis scope y →
      ∃ u, RelV v u ∧ Look (lamCxP X A outer s1 HZ E scope f c' ps).env h₁ (fun y => (ps.zip us).reverse.lookup y) y u := by
    intro i y v t1 t2 seen
    by_cases hi : i < X.N.length
    · -- one of the maker's
      rw [List.getElem?_append_left hi] at t1
      rw [List.getElem?_append_left (by rw [I.len]; exact hi)] at t2
      rcases seen with t | t | t
      · exact absurd (List.mem_of_getElem? t1) (hdis _ (L.own _ (PySem.mem_of_lookup t) rfl))
      · exact absurd rfl (L.cell _ (PySem.mem_of_lookup t))
      · have from_ := L.free _ (PySem.mem_of_lookup t) rfl
        obtain ⟨mm, _, told⟩ := I.loc
        obtain ⟨u, ru, how⟩ := told i y v t1 t2 (from_.elim (fun q => .inr (.inl q)) fun q => .inr (.inr q))
        obtain ⟨b, hb⟩ := caught_has (cells := X.env.cells) t
        have hb' := back hb
        refine ⟨u, ru, .inr ⟨.inr t, b, hb, ?_⟩⟩
        rcases how with ⟨loc, _⟩ | ⟨_, b2, hb2, isC⟩
        · have loc : X.env.scope.names.lookup y = some .local := loc
          rcases from_ with q | q
          · rw [show X.env.scope.names.lookup y = _ from q] at loc; cases loc
          · rw [show X.env.scope.names.lookup y = _ from q] at loc; cases loc
        · rw [hb'] at hb2
          cases hb2
          exact still (I.freeC y _ hb') isC
    · -- a parameter
      rw [List.getElem?_append_right (by omega)] at t1
      rw [List.getElem?_append_right (by rw [I.len]; omega), I.len, List.getElem?_map] at t2
      obtain ⟨v', hv', ev⟩ := Option.map_eq_some_iff.mp t2
      cases ev
      obtain ⟨u, hu, ru⟩ := hv.get hv'
      exact ⟨u, ru, .inl ⟨L.par _ (List.mem_of_getElem? t1), mem_reverse_lookup L.nd hl t1 hu⟩⟩
  exact
    { ok := ok
      os := rfl
      bare := e0.bare
      base := Un.kept kp
      loc := ⟨_, hns, names⟩
      cell := fun y b t => by
        obtain ⟨v, isC⟩ := I.cell y b (back t)
        exact ⟨v, still (I.freeC y b (back t)) isC⟩
      free := e0.hok.fresh (Nat.le_refl _)
      freeC := fun y b t => by
        obtain ⟨v, ob, hob, _⟩ := I.cell y b (back t)
        exact un.free b ob hob (I.freeC y b (back t)) (by simp)
      pin := fun q hq => absurd (show q ∈ ([] : List (Addr × Obj)) from hq) (by simp)
      hok := e0.hok.kept kp
      len := by
        show (σ ++ vs.map some).length = (X.N ++ ps).length
        rw [List.length_append, List.length_append, List.length_map, I.len, many] }
end
/-! ### what is called -/
/-- act(..): slot i holds the object of number l -/
def eAct (i l n : Nat) (act : On') (fs : EFs) : EF := fun τ M => match τ[i]? with
  | some (some (.obj j)) => if j = l then (fs τ M).bind fun as M1 => if as.length = n then act as M1 else .bad else .bad
  | _ => .bad
/-- in Z a call of what stands at number l does act -/
def ActOk (Z : Cx) (Tb : Tbl) (r : List Addr) (h : Hp) (l n : Nat) (act : On') : Prop :=
  ∀ (W : WR) (pn : List (Addr × Obj)) (xe : Value → Shared → Prop) (a : Str) (i : Nat) (p1 p2 : Pos) (es : List Expr) (fs : EFs), W.Tb = Tb → W.r = r → W.h = h → Takes (Z.tr pn xe) W.w → AA (Z.tr pn xe) W es fs → Z.N[i]? = some a → Vis Z.env.scope a →
    (a == ("__debug__" : Str)) = false → (a == ("__classdict__" : Str)) = false →
    ((es = [] ∧ fs = eNil) ∨ ∃ e es', es = e :: es' ∧ starEach (e :: es') Z.env = (false, eval e Z.env) :: starEach es' Z.env ∧ (backTo p2 (starEach es' Z.env)).any (·.1) = false) → AE (Z.tr pn xe) W (.Call (.Name a p1) es [] p2) (eAct i l n act fs)
/-- a lambda's call, its slots those of its maker and its arguments -/
def lamA (τ : Sl) (f : EF) : On' := fun as M => f (τ ++ as.map some) M
section
variable {X : Cx} {pins : List (Addr × Obj)} {σ : L2.St} {H HZ : Hp} {s s1 : Shared}
theorem RS0.app {ρ : List Addr} {H : Hp} {τ : Sl} {σ : L2.St} (r : RS0 ρ H τ σ) {as : List A} {vs : List V} (i : IsAll ρ H as vs) : RS0 ρ H (τ ++ as.map some) (σ ++ vs.map some) := by
  induction r with
  | nil =>
    induction as generalizing vs with
    | nil => cases i; exact .nil
    | cons a as ih =>
      cases i with
      | cons i is => exact .yes i (ih is)
  | no _ ih => exact .no ih
  | yes j _ ih => exact .yes j ih
theorem RE.conv {α β : Type} {G : Gx} {W W' : WR} {σ σ' : L2.St} {ρ : List Addr} {H : Hp} {rel : Rel α β} {o : EO α} {Q : β → Hp → Prop} (h : ∀ cls d H', W cls d σ H' → W' cls d σ' H') (r : RE G W σ ρ H rel o Q) : RE G W' σ' ρ H rel o Q := by
  cases o with
  | ok a M => exact r
  | ex e M => exact fun c d H2 ρ2 x2 g2 m i => h _ _ _ (r c d H2 ρ2 x2 g2 m i)
  | bad => exact r
/-- nothing of the frame's beginning is asked -/
abbrev wE (E : XK) (Tb : Tbl) : WR := ⟨fun cls d _ H => E cls d H, Tb, [], fun _ => none⟩
theorem RS.base {E : XK} {Tb : Tbl} {ρ : List Addr} {H : Hp} {τ : Sl} {σ : L2.St} (r : RS0 ρ H τ σ) : RS (wE E Tb) ρ H τ σ := ⟨⟨ρ, rfl⟩, fun _ _ _ z => (nomatch z), r⟩
theorem act_ok {Eg : XK} {Ng : List Str} {qg : Str} {sg : Scope} {g f c' : Addr} {cdg pm ctv : Value} {params : Arguments} {body : Expr} {scope : Scope} {k l : Nat} {ps : List Str} {Tb : Tbl} {r ρm : List Addr} {τ : Sl} {flam : EF}
    (I : Inv X pins σ H s) (L : LamP X.env.scope scope ps) (hla : LamAt X s H params body scope f c' pm ctv) (hdis : ∀ x ∈ ps, x ∉ X.N) (hx : Ext ρm r) (hl : r[l]? = some f) (hs : RS0 ρm H τ σ)
    (hbind : ∀ us : List Value, us.length = ps.length → bindArgs (PySem.W.kla_fn "<lambda>" (X.env.qual ++ "<lambda>") params body scope (cloFrom X.env.cells scope.names []) pm (.ref c') ctv) ⟨us, []⟩ = pure (ps.zip us))
    (hr : Room (k + 1) (X.A.deeper (envOfC qg sg s.heap.objs.size g cdg)))
    (hbody : ∀ (A : Around) (outer : List Env) (s : Shared) (H : Hp) (E : XK), Room k (A.deeper (LamX.lamEnv X scope s.heap.objs.size f c')) → AE (lamCxP X A outer s H E scope f c' ps) (wE E Tb) body flam) :
    ActOk (cxOf (L2.CX X.prog X.w) X.prog X.w X.K X.mg X.base Ng qg sg g cdg X.A X.stack s H Eg) Tb r H l ps.length (lamA τ flam) := by
  intro W pn xe a i p1 p2 es fs hT hWr hWh tk ha hN hv hd hcd hsh
  refine ⟨fun pinsZ sZ σZ HZ Q IZ h => ?_⟩
  obtain ⟨hf, hfn, hfr, hco⟩ := hla
  obtain ⟨τZ, M, ρ, rs, rm, rr⟩ := h
  unfold eAct at rr
  split at rr
  · rename_i j ej
    split at rr
    · rename_i ejl
      subst ejl
      obtain ⟨v0, hv0, iv⟩ := rs.get ej
      have ef : v0 = .ref f := by
        cases iv with
        | obj hj =>
          have q := rs.ext
          rw [hWr] at q
          have := q.get hl
          rw [hj] at this
          cases this
          rfl
      subst ef
      refine wpAny_Call_Name_kw (thn ((pe_var (X := (cxOf (L2.CX X.prog X.w) X.prog X.w X.K X.mg X.base Ng qg sg g cdg X.A X.stack s H Eg).tr pn xe) (pos := p1) (i := i) hN hv hd hcd).run pinsZ sZ σZ HZ (fun v H1 => v = .ref f ∧ H1 = HZ) IZ ⟨.ref f, hv0, rfl, rfl⟩) fun u s1 ⟨v, H1, I1, r1, q1⟩ => ?_)
      obtain ⟨ev, eH⟩ := q1
      subst ev
      rw [eH] at I1
      obtain rfl : u = Value.ref f := r1
      have ofn : ∀ {s1 : Shared} {H1 : Hp}, Inv ((cxOf (L2.CX X.prog X.w) X.prog X.w X.K X.mg X.base Ng qg sg g cdg X.A X.stack s H Eg).tr pn xe) pinsZ σZ H1 s1 → s1.heap.get? f = some (PySem.W.kla_obj "<lambda>" (X.env.qual ++ "<lambda>") params body scope (cloFrom X.env.cells scope.names []) pm c' ctv) :=
        fun I1 => I1.base.keep f _ hf hfn hfr (fun z => nomatch (show f ∈ ([] : List Addr) from z))
      -- the call itself
      have fin : ∀ (us : List Value) (vs : List V) (s2 : Shared) (H2 : Hp) (as : List A) (M2 : Store) (ρ2 : List Addr), Inv ((cxOf (L2.CX X.prog X.w) X.prog X.w X.K X.mg X.base Ng qg sg g cdg X.A X.stack s H Eg).tr pn xe) pinsZ σZ H2 s2 → Vals vs us →
          RS W ρ2 H2 τZ σZ → RM (X.am W.Tb) ρ2 H2 M2 → IsAll ρ2 H2 as vs → RE (X.gx W.Tb) W σZ ρ2 H2 Is (if as.length = ps.length then lamA τ flam as M2 else .bad) Q →
          wpAny (model X.prog X.w) (X.A.deeper (envOfC qg sg s.heap.objs.size g cdg)) (call (.ref f) us) (EP ((cxOf (L2.CX X.prog X.w) X.prog X.w X.K X.mg X.base Ng qg sg g cdg X.A X.stack s H Eg).tr pn xe) pinsZ σZ Q) xe s2 := by
        intro us vs s2 H2 as M2 ρ2 I2 rv rs2 rm2 ia rr2
        split at rr2
        · rename_i hn
          have of2 := ofn I2
          have hul : us.length = ps.length := by rw [← rv.length, ← ia.length]; exact hn
          have un : Un (frs X.stack) [] H H2 s.heap s2.heap := I2.base
          have hg := rs2.grow
          rw [hWh] at hg
          have hx2 := rs2.ext
          rw [hWr] at hx2
          have hc2 : H2 c' = some (LamX.CodeO c' (X.env.qual ++ "<lambda>")) := hg _ _ (.code _ _) hco
          obtain ⟨⟨oc, ws, t, hoc, hdc, hvc⟩, _, _⟩ := I2.hok c' _ hc2
          have rc : codeAny (model X.prog X.w) (X.A.deeper (envOfC qg sg s.heap.objs.size g cdg)) (.call (.ref f) ⟨us, []⟩) (CR (L2.CX X.prog X.w) (envOfC qg sg s.heap.objs.size g cdg :: X.stack) X.prog X.w H2 s2 Q (fun cls d H' => W cls d σZ H')) s2 := by
            refine PySem.W.kla_callFunE hr.depth of2 rfl L.co L.gen rfl ⟨c', oc, ws, t, rfl, hoc, hdc, hvc⟩ ?_
            rw [hbind us hul]
            refine wpAny_pure (wpAny_newFunctionEnv (fun y hy => L.cell y hy) (fun y hy => L.par _ (List.of_mem_zip (show (y.1, y.2) ∈ ps.zip us from hy)).1) (fun h₁ hns hsb => ⟨I2.nolimit.fresh _ hsb, ?_⟩) L.kind)
            show codeAny _ _ (.expr body (LamX.lamEnv X scope s2.heap.objs.size f c')) _ _
            have kp : ∀ b o, s2.heap.get? b = some o → h₁.get? b = some o := fun b o e => hsb.extBut b o (Nat.ne_of_lt (Heap.lt_size e)) (Heap.get?_push_of_some _ e)
            have J : Inv (lamCxP X (X.A.deeper (envOfC qg sg s.heap.objs.size g cdg)) (envOfC qg sg s.heap.objs.size g cdg :: X.stack) s2 H2 (fun cls d H' => W cls d σZ H') scope f c' ps) [] (σ ++ vs.map some) H2 { s2 with heap := h₁, toks := s2.toks + (ps.zip us).length } :=
              lam_startP I L I2.env0 hr.hd un hdis hul rv hns kp
            refine PySem.W.kla_codeExpr (wpAny_mono ((hbody _ _ s2 H2 (fun cls d H' => W cls d σZ H') (hr.deeper _)).run [] _ _ H2 Q J ?_) (fun v s' hq => ?_) fun e s' hq => hq)
            · refine ⟨τ ++ as.map some, M2, ρ2, RS.base (RS0.app (hs.mono (hx.trans hx2) hg) ia), by rw [← hT]; exact rm2, ?_⟩
              subst hT
              exact RE.conv (fun _ _ _ h => h) rr2
            · obtain ⟨w', H', J', rv, q⟩ := hq
              exact ⟨w', H', J'.os, J'.bare, J'.base, J'.hok, rv, q⟩
          refine wpAny_call (codeAny_mono rc fun r' s' hq => ?_)
          cases r' with
          | error e => exact tk e s' (XE.of_call I2 (fun _ _ _ h => h) hq)
          | ok fl =>
            cases fl with
            | ret u => exact I2.after hq
            | next => exact False.elim hq
            | brk => exact False.elim hq
            | cont => exact False.elim hq
        · exact rr2.elim
      rcases hsh with ⟨e1, e2⟩ | ⟨e, es', e1, e2, e3⟩
      · subst e1 e2
        refine PySem.W.callWith_F0 ⟨_, _, _, _, ofn I1⟩ ?_
        exact fin [] [] s1 HZ [] M ρ I1 .nil rs rm .nil rr
      · subst e1
        have hta : tG (X.gx W.Tb) W IsAll fs σZ HZ (fun vs H2 => ∃ as M2 ρ2, RS W ρ2 H2 τZ σZ ∧ RM (X.am W.Tb) ρ2 H2 M2 ∧ IsAll ρ2 H2 as vs ∧ RE (X.gx W.Tb) W σZ ρ2 H2 Is (if as.length = ps.length then lamA τ flam as M2 else .bad) Q) := by
          refine ⟨τZ, M, ρ, rs, rm, ?_⟩
          cases ef : fs τZ M with
          | ok as M2 =>
            rw [ef] at rr
            exact fun vs H2 ρ2 x2 g2 m2 i2 => ⟨as, M2, ρ2, rs.mono x2 g2, m2, i2, RE.mono rr x2 g2⟩
          | ex en M2 => rw [ef] at rr; exact rr
          | bad => rw [ef] at rr; exact rr
        refine PySem.W.callWith_F ⟨_, _, _, _, ofn I1⟩ (thn (ha.run p2 pinsZ s1 σZ HZ _ I1 hta) fun us s2 ⟨vs, H2, I2, rv, as, M2, ρ2, rs2, rm2, ia, rr2⟩ => ⟨⟨_, _, _, _, ofn I2⟩, ?_⟩) e2 e3
        exact fin us vs s2 H2 as M2 ρ2 I2 rv rs2 rm2 ia rr2
    · exact rr.elim
  · exact rr.elim
/-! ### the def that is handed a lambda (its last parameter) -/
structure FnL (P : Program) (w : World) (K : PySem.W.Frag) (mg : Str → Option Value) (Tb : Tbl) (base : Heap) (x : Str) (k n m len : Nat) (S : Nat → On' → SF) : Prop where
  ex : ∃ (fa : Addr) (fd : FuncData) (st : Stmt) (N ps : List Str), Fun K x x st fa fd ∧ FnScope N ps (defScope st) ∧ mg x = some (.ref fa) ∧ N.length = len ∧ ps.length = n ∧ Binds K fd ps [] ∧
    ∀ (cdv : Value) (A : Around) (outer : List Env) (s₀ : Shared) (H : Hp) (E : XK) (l : Nat) (r : List Addr) (act : On'), Room k (A.deeper (envOfC x (defScope st) s₀.heap.objs.size fa cdv)) →
      ActOk (cxOf (L2.CX P w) P w K mg base N x (defScope st) fa cdv A outer s₀ H E) Tb r H l m act →
      ASs (cxOf (L2.CX P w) P w K mg base N x (defScope st) fa cdv A outer s₀ H E) ⟨fun cls d _ H => E cls d H, Tb, r, H⟩ (defBody st) (S l act)
/-- where the maker's code object and its table stand -/
structure LamI (X : Cx) (Tb : Tbl) (c P : Addr) : Prop where
  code : X.env.code = .ref c
  tb : LamX.TabB X.base X.mg c P
  mem : (P, X.env.qual ++ "<lambda>") ∈ Tb
  un : ∀ p ∈ Tb, p.1 = P → p.2 = X.env.qual ++ "<lambda>"
def eLam (n len : Nat) (S : Nat → On' → SF) (flam : EF) (fs : EFs) : EF := fun τ M => (fs τ M).bind fun as M1 =>
  if as.length + 1 = n then defA len (S M1.length (lamA τ flam)) (as ++ [.obj M1.length]) (M1 ++ [.obj]) else .bad
/-- arguments and behind them the lambda -/
structure PLm (X : Cx) (Tb : Tbl) (es : List Expr) (params : Arguments) (body : Expr) (scope : Scope) (t : TA) : Prop where
  run : ∀ (pos : Pos) (pins : List (Addr × Obj)) (s : Shared) (σ : L2.St) (H : Hp) (Q : List V → Hp → Prop), Inv X pins σ H s → t σ H (fun vs H1 => LamX.Tabs Tb H1 ∧ Q vs H1) →
    wpAny (model X.prog X.w) X.A (spliced (backTo pos (starEach es X.env))) (fun us s2 => ∃ us0 f c' pm ctv vs H1 H2, us = us0 ++ [.ref f] ∧ Vals vs us0 ∧ Inv X pins σ H2 s2 ∧ LamX.ExtN H1 H2 ∧ LamX.Tabs Tb H2 ∧ LamAt X s2 H2 params body scope f c' pm ctv ∧ Q vs H1) X.xe s
theorem plm_nil {Tb : Tbl} {c P : Addr} {params : Arguments} {body : Expr} {scope : Scope} {ps : List Str} {lpos : Pos} (LI : LamI X Tb c P) (L : LamP X.env.scope scope ps) (hdef : defaultsOf params X.env = ([], []) := by rfl) :
    PLm X Tb [.Lambda params body scope lpos] params body scope tNil := by
  refine ⟨fun pos pins s σ H Q I h => ?_⟩
  obtain ⟨hT, q⟩ := h
  show wpAny _ _ (spliced ((false, eval (.Lambda params body scope lpos) X.env) :: backTo pos (starEach [] X.env))) _ _ s
  exact Calls.spliced_cons (LamX.lam_make2 I LI.tb LI.code LI.mem LI.un hT hdef (L.has I.ok) fun f c' pm' ctv H1 s' I1 eN T1 hf hfn hfr hco =>
    Calls.spliced_nil ⟨[], f, c', pm', ctv, [], H, H1, rfl, .nil, I1, eN, T1, ⟨hf, hfn, hfr, hco⟩, q⟩)
theorem plm_cons {Tb : Tbl} {params : Arguments} {body : Expr} {scope : Scope} {e : Expr} {es : List Expr} {te : TE} {t : TA} (ha : PE X e te) (hr : PLm X Tb es params body scope t) (hs : starEach (e :: es) X.env = (false, eval e X.env) :: starEach es X.env := by rfl) : PLm X Tb (e :: es) params body scope (tCons te t) := by
  refine ⟨fun pos pins s σ H Q I h => ?_⟩
  rw [hs]
  show wpAny _ _ (spliced ((false, eval e X.env) :: backTo pos (starEach es X.env))) _ _ s
  refine Calls.spliced_cons (thn (ha.run pins s σ H _ I h) fun u s1 ⟨x, H1, I1, r1, q1⟩ => ?_)
  refine thn (hr.run pos pins s1 σ H1 (fun vs H2 => Q (x :: vs) H2) I1 q1) fun us s2 ⟨us0, f, c', pm, ctv, vs, H1', H2, e1, rv, I2, eN, T2, la, q⟩ => ?_
  exact ⟨u :: us0, f, c', pm, ctv, x :: vs, H1', H2, by rw [e1]; rfl, .cons r1 rv, I2, eN, T2, la, q⟩
theorem PLm.pre {Tb : Tbl} {es : List Expr} {params : Arguments} {body : Expr} {scope : Scope} {t t' : TA} (h : PLm X Tb es params body scope t) (w : ∀ σ H Q, t' σ H Q → t σ H Q) : PLm X Tb es params body scope t' :=
  ⟨fun pos pins s σ H Q I q => h.run pos pins s σ H Q I (w _ _ _ q)⟩
def ALm (X : Cx) (W : WR) (es : List Expr) (params : Arguments) (body : Expr) (scope : Scope) (fs : EFs) : Prop := PLm X W.Tb es params body scope (tG (X.gx W.Tb) W IsAll fs)
theorem alm_nil {W : WR} {c P : Addr} {params : Arguments} {body : Expr} {scope : Scope} {ps : List Str} {lpos : Pos} (LI : LamI X W.Tb c P) (L : LamP X.env.scope scope ps) (hdef : defaultsOf params X.env = ([], []) := by rfl) :
    ALm X W [.Lambda params body scope lpos] params body scope eNil := (plm_nil LI L hdef).pre fun σ H Q h => by
  obtain ⟨τ, M, ρ, rs, rm, r⟩ := h
  exact r.okv (.refl _) (.refl _) rm .nil
theorem alm_cons {W : WR} {params : Arguments} {body : Expr} {scope : Scope} {e : Expr} {es : List Expr} {f : EF} {g : EFs} (h1 : AE X W e f) (h2 : ALm X W es params body scope g) (hs : starEach (e :: es) X.env = (false, eval e X.env) :: starEach es X.env := by rfl) : ALm X W (e :: es) params body scope (eCons f g) :=
  (plm_cons h1 h2 hs).pre fun σ H Q h => by
    refine (seqG Is h).imp fun x H1 h1 => ?_
    refine (seqK Is Is.ext IsAll h1).imp fun xs H2 h2 => ?_
    obtain ⟨τ, M, ρ, a, as, rs, rm, i, is, r⟩ := h2
    exact r.okv (.refl _) (.refl _) rm (.cons i is)
/-- x(e, .., lambda ..: body) -/
theorem ae_lam {W : WR} {x : Str} {kG kl k n m len : Nat} {S : Nat → On' → SF} {params : Arguments} {body : Expr} {scope : Scope} {ps : List Str} {p pos : Pos} {e : Expr} {es : List Expr} {fs : EFs} {flam : EF}
    (G : FnL X.prog X.w X.K X.mg W.Tb X.base x kG n m len S) (hr : Room k X.A) (tk : Takes X W.w) (hm : ps.length = m) (L : LamP X.env.scope scope ps)
    (ha : ALm X W (e :: es) params body scope fs)
    (hbody : ∀ (A : Around) (outer : List Env) (s s' : Shared) (H : Hp) (E : XK) (f c' : Addr), Room kl (A.deeper (LamX.lamEnv X scope s'.heap.objs.size f c')) → AE (lamCxP X A outer s' H E scope f c' ps) (wE E W.Tb) body flam)
    (hdis : ∀ x ∈ ps, x ∉ X.N) (hk1 : kG + 1 ≤ k := by omega) (hk2 : kl + 1 ≤ kG := by omega)
    (hbind : ∀ (qq : Str) (cl : List (Str × Addr)) (pm cv ctv : Value) (us : List Value), us.length = ps.length → bindArgs (PySem.W.kla_fn "<lambda>" qq params body scope cl pm cv ctv) ⟨us, []⟩ = pure (ps.zip us))
    (hg : Gl X x := by rfl) (hdb : (x == ("__debug__" : Str)) = false := by decide) (he : starEach (e :: es) X.env = (false, eval e X.env) :: starEach es X.env := by rfl) (hpl : (backTo pos (starEach es X.env)).any (·.1) = false := by rfl) :
    AE X W (.Call (.Name x p) (e :: es) [] pos) (eLam n len S flam fs) := by
  obtain ⟨fa, fd, st, N, qs, F, Sc, hmg, hlen, hn, hb, hS⟩ := G.ex
  refine ⟨fun pins s σ H Q I h => ?_⟩
  refine wpAny_Call_Name_kw (ld_glob I hg hmg ?_ hdb)
  have h2 : tG (X.gx W.Tb) W IsAll fs σ H (fun vs H1 => LamX.Tabs W.Tb H1 ∧ ∃ τ M ρ as, RS W ρ H1 τ σ ∧ RM (X.am W.Tb) ρ H1 M ∧ IsAll ρ H1 as vs ∧ RE (X.gx W.Tb) W σ ρ H1 Is (if as.length + 1 = n then defA len (S M.length (lamA τ flam)) (as ++ [.obj M.length]) (M ++ [.obj]) else .bad) Q) := by
    obtain ⟨τ, M, ρ, rs, rm, r⟩ := h
    refine ⟨τ, M, ρ, rs, rm, ?_⟩
    unfold eLam at r
    cases ef : fs τ M with
    | ok as M1 =>
      rw [ef] at r
      exact fun vs H1 ρ1 x1 g1 m1 i1 => ⟨m1.tabs, τ, M1, ρ1, as, rs.mono x1 g1, m1, i1, RE.mono r x1 g1⟩
    | ex en M1 => rw [ef] at r; exact r
    | bad => rw [ef] at r; exact r
  refine PySem.W.callWith_K (h₀ := X.base) I.ok.mod.kin F.kp (thn (ha.run pos pins s σ H _ I h2) fun us s1 ⟨us0, f, c', pm, ctv, vs, H1, H2, e1, rv, I2, eN, T2, la, τ, M, ρ, as, rs, rm, i, r⟩ => ⟨I2.kIn, ?_⟩) he hpl
  subst e1
  split at r
  · rename_i hn2
    have g12 : Grow H1 H2 := .ofT eN
    have rm2 : RM (X.am W.Tb) (ρ ++ [f]) H2 (M ++ [.obj]) := (rm.growT eN T2).name f
    have i2 : IsAll (ρ ++ [f]) H2 (as ++ [.obj M.length]) (vs ++ [.ref f]) := (i.mono (.snoc _ _) g12).append (.cons (.obj (by rw [← rm.len]; simp)) .nil)
    have rv2 : Vals (vs ++ [.ref f]) (us0 ++ [.ref f]) := rv.append (.cons rfl .nil)
    have hvl : (vs ++ [V.ref f]).length = qs.length := by rw [List.length_append, List.length_singleton, ← i.length, hn2, hn]
    obtain ⟨oc, od, kV, doc, pm2, an, cdv, ct, osl, rfl, lk, hcd⟩ := F.ex
    have rc : codeAny (model X.prog X.w) X.A (.call (.ref fa) ⟨us0 ++ [.ref f], []⟩) (CR (L2.CX X.prog X.w) X.stack X.prog X.w H2 s1 Q (fun cls d H' => W cls d σ H')) s1 := by
      have bt := hb s1 (us0 ++ [.ref f]) I2.kIn (by rw [List.append_nil, ← rv2.length]; exact hvl)
      rw [List.append_nil] at bt
      refine LamX.run_ofS (k := kG) lk hcd Sc (hr.mono hk1) I2.env0 bt rv2 hvl fun hr' => ?_
      have act := act_ok (Eg := fun cls d H' => W cls d σ H') (Ng := N) (qg := x) (sg := defScope st) (g := fa) (cdg := cdv) (l := M.length) (r := ρ ++ [f]) (Tb := W.Tb) I2 L la hdis (.snoc ρ f) (by rw [← rm.len]; simp) (rs.mono (.refl _) g12).s (fun us hl => hbind _ _ _ _ _ us hl) (hr'.mono hk2) fun A outer s' H' E' hr2 => hbody A outer s1 s' H' E' f c' hr2
      subst hm
      refine ⟨_, hS cdv X.A X.stack s1 H2 _ M.length (ρ ++ [f]) (lamA τ flam) hr' act, startA N.length (as ++ [A.obj M.length]), M ++ [Cell.obj], ρ ++ [f], ⟨.refl _, .refl _, start_ok i2 N⟩, rm2, ?_⟩
      have r2 := RE.mono r (.snoc ρ f) g12
      unfold defA at r2
      rw [hlen]
      cases eS : S M.length (lamA τ flam) (startA len (as ++ [.obj M.length])) (M ++ [.obj]) with
      | nx τ1 M1 => rw [eS] at r2; exact fun σ' H' ρ' x g m _ => r2 .non H' ρ' x g m .non
      | rt a M1 => rw [eS] at r2; exact r2
      | ex en τ1 M1 => rw [eS] at r2; exact fun c d σ' H' ρ' x g m _ ix => r2 c d H' ρ' x g m ix
      | bk τ1 M1 => rw [eS] at r2; exact r2.elim
      | ct τ1 M1 => rw [eS] at r2; exact r2.elim
      | bad => rw [eS] at r2; exact r2.elim
    refine wpAny_call (codeAny_mono rc fun r s2 hq => ?_)
    cases r with
    | error e => exact tk e s2 (XE.of_call I2 (fun _ _ _ h => h) hq)
    | ok fl =>
      cases fl with
      | ret u => exact I2.after hq
      | next => exact False.elim hq
      | brk => exact False.elim hq
      | cont => exact False.elim hq
  · exact r.elim
end
end AB
namespace AB
open PySem PySem.Spec PyProof.Rows L2
section
variable {P : Program} {w : World} {K : PySem.W.Frag} {mg : Str → Option Value} {Tb : Tbl} {base : Heap}
/-- where a def's lambdas lie -/
structure LamB (mg : Str → Option Value) (Tb : Tbl) (base : Heap) (fd : FuncData) (q : Str) (c P : Addr) : Prop where
  code : fd.code = .ref c
  tb : LamX.TabB base mg c P
  mem : (P, q) ∈ Tb
  un : ∀ p ∈ Tb, p.1 = P → p.2 = q
/-- a def that makes lambdas -/
theorem fn_AL {x : Str} {st : Stmt} {fa c Pt : Addr} {fd : FuncData} {N ps : List Str} {k : Nat} {s : SF} (F : Fun K x x st fa fd) (S : FnScope N ps (defScope st)) (B : LamB mg Tb base fd ((x ++ ".<locals>.") ++ "<lambda>") c Pt)
    (hbody : ∀ (cdv : Value) (A : Around) (outer : List Env) (s₀ : Shared) (H : Hp) (E : XK), Room k (A.deeper (envOfC x (defScope st) s₀.heap.objs.size fa cdv)) → LamI (cxOf (L2.CX P w) P w K mg base N x (defScope st) fa cdv A outer s₀ H E) Tb c Pt →
      ASs (cxOf (L2.CX P w) P w K mg base N x (defScope st) fa cdv A outer s₀ H E) ⟨fun cls d _ H => E cls d H, Tb, [], fun _ => none⟩ (defBody st) s) :
    FnOk P w K mg base (L2.CX P w) (k + 1) fa fd ps (spA ⟨mg, ⟨w, K, mg, Tb⟩⟩ ps.length (defA N.length s)) := by
  obtain ⟨oc, od, kV, doc, pm, an, cdv, ct, osl, rfl, lk, hcd⟩ := F.ex
  refine fn_of lk hcd S (fun vs H Q E h => ?_) fun A outer s₀ H vs Q E hr h => ⟨_, hbody cdv A outer s₀ H E hr ⟨B.code, B.tb, B.mem, B.un⟩, ?_⟩
  · obtain ⟨as, M, ρ, i, rm, hn, _⟩ := h
    rw [← i.length]; exact hn
  · obtain ⟨as, M, ρ, i, rm, hn, r⟩ := h
    refine ⟨startA N.length as, M, ρ, RS.base (E := E) (start_ok i N), rm, ?_⟩
    unfold defA at r
    cases e : s (startA N.length as) M with
    | nx τ M1 => rw [e] at r; exact fun σ' H' ρ' x g m _ => r .non H' ρ' x g m .non
    | rt a M1 => rw [e] at r; exact r
    | ex en τ M1 => rw [e] at r; exact fun c d σ' H' ρ' x g m _ ix => r c d H' ρ' x g m ix
    | bk τ M1 => rw [e] at r; exact r.elim
    | ct τ M1 => rw [e] at r; exact r.elim
    | bad => rw [e] at r; exact r.elim
/-- a def with defaults -/
theorem fn_AD {x qual : Str} {st : Stmt} {fa : Addr} {fd : FuncData} {N ps : List Str} {k : Nat} {s : SF} {dvs : List V} (F : FunD K x qual (defArgs st) (defBody st) (defScope st) dvs [] fa fd) (S : FnScope N ps (defScope st))
    (hbody : ∀ (cdv : Value) (A : Around) (outer : List Env) (s₀ : Shared) (H : Hp) (E : XK), Room k (A.deeper (envOfC qual (defScope st) s₀.heap.objs.size fa cdv)) →
      ASs (cxOf (L2.CX P w) P w K mg base N qual (defScope st) fa cdv A outer s₀ H E) ⟨fun cls d _ H => E cls d H, Tb, [], fun _ => none⟩ (defBody st) s) :
    FnOk P w K mg base (L2.CX P w) (k + 1) fa fd ps (spA ⟨mg, ⟨w, K, mg, Tb⟩⟩ ps.length (defA N.length s)) := by
  refine F.ok S (fun vs H Q E h => ?_) (fun cdv A outer s₀ H vs Q E hr h => ⟨_, hbody cdv A outer s₀ H E hr, ?_⟩)
  · obtain ⟨as, M, ρ, i, rm, hn, _⟩ := h
    rw [← i.length]; exact hn
  · obtain ⟨as, M, ρ, i, rm, hn, r⟩ := h
    refine ⟨startA N.length as, M, ρ, RS.base (E := E) (start_ok i N), rm, ?_⟩
    unfold defA at r
    cases e : s (startA N.length as) M with
    | nx τ M1 => rw [e] at r; exact fun σ' H' ρ' x g m _ => r .non H' ρ' x g m .non
    | rt a M1 => rw [e] at r; exact r
    | ex en τ M1 => rw [e] at r; exact fun c d σ' H' ρ' x g m _ ix => r c d H' ρ' x g m ix
    | bk τ M1 => rw [e] at r; exact r.elim
    | ct τ M1 => rw [e] at r; exact r.elim
    | bad => rw [e] at r; exact r.elim
end
section
variable {X : Cx} {W : WR} {pos : Pos}
theorem ae_act (i : Nat) {l n : Nat} {act : On'} {a : Str} {p1 : Pos} {e : Expr} {es : List Expr} {fs : EFs} (ha : ActOk X W.Tb W.r W.h l n act) (tk : Takes X W.w) (h : AA X W (e :: es) fs) (hN : X.N[i]? = some a := by rfl) (hv : Vis X.env.scope a := by first | exact Or.inl rfl | exact Or.inr (Or.inl rfl) | exact Or.inr (Or.inr rfl))
    (hd : (a == ("__debug__" : Str)) = false := by decide) (hcd : (a == ("__classdict__" : Str)) = false := by decide)
    (he : starEach (e :: es) X.env = (false, eval e X.env) :: starEach es X.env := by rfl) (hpl : (backTo pos (starEach es X.env)).any (·.1) = false := by rfl) : AE X W (.Call (.Name a p1) (e :: es) [] pos) (eAct i l n act fs) :=
  ha W X.pn X.xe a i p1 pos (e :: es) fs rfl rfl rfl tk h hN hv hd hcd (.inr ⟨e, es, rfl, he, hpl⟩)
end
end AB
/-! AB28: the end of a law over tables of code objects -/
namespace AB
open PySem PySem.Spec PyProof.Rows L2
/-- the code object of the def called x and its table, as the top has left them -/
def TabX (mg : Str → Option Value) (h : Heap) (x : Str) (f c P : Addr) : Prop :=
  ∃ (o : Obj) (fd : FuncData), mg x = some (.ref f) ∧ h.get? f = some o ∧ o.data = .func fd ∧ fd.code = .ref c ∧ PySem.W.CodeHd h c P ∧ h.get? P = some { cls := .none, data := .fields #[] }
theorem lookup_out {α : Type} {l : List (Addr × α)} {b : Addr} : (l.map (·.1)).contains b = false → l.lookup b = none := by
  induction l with
  | nil => intro _; rfl
  | cons p l ih =>
    obtain ⟨x, y⟩ := p
    intro h
    rw [List.map_cons, List.contains_cons, Bool.or_eq_false_iff] at h
    rw [List.lookup_cons, h.1]
    exact ih h.2
/-- what the head's part doesn't hold -/
theorem km_out {K : Params → PySem.W.Frag} {as : List Addr} {e : ∀ P, as = (K P).map (·.1)} {ts : List Addr} {w : World} {h : Heap} (Y : (PySem.W.kmHook K as e ts).says w h) {b : Addr} (hb : as.contains b = false) : (K w.params).lookup b = none :=
  lookup_out (by rw [← e w.params]; exact hb)
theorem walk_ofX {l : PySem.W.OpenLaw} {n k : Nat} {q : Program} {loose : List Str} {XP : (Str → Option Value) → Heap → Prop} {YP : World → Heap → Prop} {d : DefRec} {K : Params → PySem.W.Frag} {CX : World → CXT} {x : Str} (makers : List Str)
    (hn : l.most = some n) (hz : n ≤ sizeLine) (hdf : d.params.defaults = []) (hr : Room k callerA) (hmk : (makers.all fun y => (recsOf q).any fun e => e.name == y) = true) (hY : ∀ (w : World) (h : Heap), YP w h → (K w.params).In h)
    (F : ∀ (w : World) (mg : Str → Option Value) (fa : Addr) (h : Heap), YP w h → (K w.params).In h → h.Ns mainGlobals mg → mg d.name = some (.ref fa) → (∀ y ∈ makers, ∃ f c P, TabX mg h y f c P) → LamX.LawAtS l w (K w.params) (CX w) k n x mg fa h)
    (hCX : ∀ (w : World) (H : Hp) (s : Shared) (e : Value) (s' : Shared), CX w [] H s (fun _ _ _ => False) e s' → False) :
    PySem.W.WalkO q loose XP YP l.row.toRowW d [] (fun f vs => PySem.call f vs) := by
  refine Att.attach_callB hn hdf fun w z0 z1 mg mb fa ob pm cdv dc a vs ns Gr Yh h1 h2 h3 hfa h4 h5 h6 hbits h7 => ?_
  have inK := hY w _ Yh
  have found : ∀ y ∈ makers, ∃ f c P, TabX mg z1.heap y f c P := fun y hy => by
    obtain ⟨e, he, en⟩ := List.any_eq_true.mp (List.all_eq_true.mp hmk y hy)
    obtain ⟨f, of, fd, c, P, t1, t2, t3, t4, t5, t6⟩ := Gr.T.tab e he
    have ey : e.name = y := eq_of_beq en
    subst ey
    exact ⟨f, c, P, of, fd, t1, t2, t3, t4, .of t5 t6, t6.2⟩
  obtain ⟨fd, cs, sp, tb1, tb2, tb3, bd, sat, ok⟩ := F w mg fa _ Yh inK Gr.T.g hfa found
  exact LamX.law_callTs inK Gr.T.g Gr.T.b Gr.T.builtins Gr.T.nolimit h7 tb1 tb2 tb3 Gr.T.bmain h4 h5 (Nat.le_trans h6 hz) hr ok bd (fun H t1 t2 => sat H a ns h6 hbits t1 t2) fun H e s' => hCX w H z1 e s'
end AB
/-! AB29: backward steps for lambdas -/
namespace AB
open PySem PySem.Spec PyProof.Rows L2
section
variable {τ : Sl} {M : Store} {Q : A → Store → Prop}
end
end AB
/-! PM4: list(permutations(range(n))) -/
namespace PM
open PySem PySem.Spec PyProof.Rows L2
open Sem (wp)
theorem pm_noL : typeLookup (.type "itertools.permutations") "__len__" = pure none := by rw [typeLookup_type, builtinLookup_eq_fast]; kernel_rfl
theorem pm_noH : typeLookup (.type "itertools.permutations") "__length_hint__" = pure none := by rw [typeLookup_type, builtinLookup_eq_fast]; kernel_rfl
/-- the row's object -/
def RowAt (h : Heap) (n j : Nat) (a : Addr) : Prop := ∃ ts : List Tok, ts.length = n ∧ h.get? a = some { cls := .type "tuple", data := .seq (row n j ts).toArray }
abbrev lstO (acc : Array Value) (c : Nat) : Obj := { cls := .type "list", dict := none, data := .seq acc c, slots := #[] }
/-- what stands behind i turns -/
structure Rows (h : Heap) (n S : Nat) (as : List Addr) : Prop where
  rise : as.Pairwise (· < ·)
  top : ∀ a ∈ as, S < a
  row : ∀ (j : Nat) (a : Addr), as[j]? = some a → RowAt h n j a
section
variable {prog : Program} {w : World} {A : Around} {E : Value → Shared → Prop} {R : Result → Shared → Prop} {s : Shared} {n : Nat} {S it pool : Addr} {h₁ : Heap}
theorem Rows.keep {h h' : Heap} {as : List Addr} (r : Rows h n S as) (k : ∀ b o, b ≠ S → b ≠ it → h.get? b = some o → h'.get? b = some o) (hi : it < S) : Rows h' n S as :=
  ⟨r.rise, r.top, fun j a e => let ⟨ts, l, q⟩ := r.row j a e; have t := r.top a (List.mem_of_getElem? e); ⟨ts, l, k a _ (Nat.ne_of_gt t) (Nat.ne_of_gt (Nat.lt_trans hi t)) q⟩⟩
theorem fct6 (n : Nat) : fct n ≤ 6 := by unfold fct; split <;> omega
theorem lp (hh : A.handled = none) (h1 : 1 ≤ n) (h3 : n ≤ 3) (hi : it < S) (hp : pool < S) (res : Value)
    (hR : ∀ (h' : Heap) (tk : Nat) (acc : Array Value) (c : Nat) (as : List Addr), (∀ b o, b ≠ S → b ≠ it → h₁.get? b = some o → h'.get? b = some o) → h'.get? S = some (lstO acc c) → as.length = fct n → Rows h' n S as → acc.toList = as.map Value.ref → R (.ok (.ret res)) { s with heap := h', toks := tk }) :
    ∀ (k i : Nat) (h : Heap) (tk c : Nat) (acc : Array Value) (as : List Addr), fct n = i + k → At h it pool n i → (∀ b o, b ≠ S → b ≠ it → h₁.get? b = some o → h.get? b = some o) → h.get? S = some (lstO acc c) → acc.toList = as.map Value.ref → as.length = i → Rows h n S as → codeAny (model prog w) A (.builtin "list.extend.loop" ⟨[.ref S, .ref it, res], []⟩) R { s with heap := h, toks := tk } := by
  have ne1 : S ≠ it := Nat.ne_of_gt hi
  have ne2 : pool ≠ S := Nat.ne_of_lt hp
  have ne3 : it ≠ S := Nat.ne_of_lt hi
  intro k
  induction k with
  | zero =>
    intro i h tk c acc as hk hat kp hS hacc hal hr; refine codeAny_builtin PySem.F.entry_extend_loop ?_
    rw [Around.under_plainId PySem.F.plain_extend_loop _]; show wpAny _ A.in1 (pyNext (.ref it) >>= _) _ _ _
    have hin : i = fct n := by omega
    subst hin
    refine wpAny_bind ?_
    unfold pyNext
    refine wpAny_bind (wpAny_attempt (pm_stop (A := A.in1) (s := { s with heap := h, toks := tk }) hh n h1 h3 hat fun h' e kk hx => ?_))
    obtain ⟨o, ho, hcl⟩ := hx
    have hTe : (⟨h', s.gens, s.drawn, tk, s.os⟩ : Shared).TypeIs (.ref e) "StopIteration" := ⟨_, ho, hcl⟩
    refine wpAny_bind (wpAny_isInstance (b := true) hTe (by rw [isSubtype_type]; kernel_rfl) ?_)
    exact wpAny_pure (wpAny_pure (hR h' tk acc c as (fun b o z1 z2 e => kk b o z2 (kp b o z1 z2 e)) (kk S _ ne1 hS) (by omega) (hr.keep (fun b o _ z2 e => kk b o z2 e) hi) hacc))
  | succ k ih =>
    intro i h tk c acc as hk hat kp hS hacc hal hr; refine codeAny_builtin PySem.F.entry_extend_loop ?_
    rw [Around.under_plainId PySem.F.plain_extend_loop _]; show wpAny _ A.in1 (pyNext (.ref it) >>= _) _ _ _
    refine wpAny_bind ?_
    unfold pyNext
    refine wpAny_bind (wpAny_attempt (pm_item (s := { s with heap := h, toks := tk }) n i (by omega) hat fun h' ts t ht hl a' kk hT => ?_))
    have hS2 : S < h.objs.size := Heap.lt_size hS
    have hsz : acc.size = i := by rw [← Array.length_toList, hacc, List.length_map, hal]
    have h6 := fct6 n
    have hS' := kk S _ ne1 hS
    have up : ∀ b o, b ≠ S → h'.get? b = some o → (h'.update S (Obj.mapSeq (·.push (Value.ref t)))).get? b = some o := fun b o hb e => (Heap.get?_update_other _ _ (Ne.symm hb)).trans e
    refine wpAny_pure ?_
    show wpAny _ A.in1 (updateSeq S (·.push (Value.ref t)) >>= _) _ _ _
    have big : 16 ≤ sizeLine := by rw [sizeLine_eq]; decide
    refine wpAny_bind (wpAny_updateSeq hS' rfl (wpAny_pure ⟨plainId_quiet PySem.F.plain_extend_loop _, ?_⟩) (by rw [hsz]; omega) (by show (acc.push (Value.ref t)).size ≤ sizeLine + 1; rw [Array.size_push, hsz]; omega))
    refine ih (i + 1) _ tk _ (acc.push (Value.ref t)) (as ++ [t]) (by omega) (a'.keep fun b hb o e => up b o (by rcases (by simpa using hb : b = it ∨ b = pool) with rfl | rfl <;> assumption) e) (fun b o z1 z2 e => up b o z1 (kk b o z2 (kp b o z1 z2 e))) (Heap.get?_update_self _ hS' rfl) (by rw [Array.toList_push, hacc, List.map_append]; rfl) (by rw [List.length_append, hal]; rfl) ⟨?_, ?_, ?_⟩
    · refine List.pairwise_append.mpr ⟨hr.rise, List.pairwise_singleton _ _, fun a ha b hb => ?_⟩
      rw [List.mem_singleton.mp hb, ht]
      obtain ⟨j, hj⟩ := List.mem_iff_getElem?.mp ha
      obtain ⟨ts', _, q⟩ := hr.row j a hj
      exact Heap.lt_size q
    · intro a ha
      rcases List.mem_append.mp ha with ha | ha
      · exact hr.top a ha
      · rw [List.mem_singleton.mp ha, ht]; exact hS2
    · intro j a hj
      rcases Nat.lt_trichotomy j as.length with z | z | z
      · rw [List.getElem?_append_left z] at hj
        obtain ⟨ts', l', q⟩ := hr.row j a hj
        have t' := hr.top a (List.mem_of_getElem? hj)
        exact ⟨ts', l', up a _ (Nat.ne_of_gt t') (kk a _ (Nat.ne_of_gt (Nat.lt_trans hi t')) q)⟩
      · subst z
        have hb : t = a := by simpa using hj
        subst hb
        rw [hal]
        exact ⟨ts, hl, up t _ (by rw [ht]; exact Nat.ne_of_gt hS2) hT⟩
      · rw [List.getElem?_eq_none (by rw [List.length_append, List.length_singleton]; omega)] at hj; cases hj
/-- list(it) -/
theorem call_lp {Q : Value → Shared → Prop} (hh : A.handled = none) (h1 : 1 ≤ n) (h3 : n ≤ 3) (hat : At s.heap it pool n 0)
    (hQ : ∀ (h' : Heap) (tk : Nat) (acc : Array Value) (c : Nat) (as : List Addr), (∀ b o, b ≠ it → s.heap.get? b = some o → h'.get? b = some o) → h'.get? s.heap.objs.size = some (lstO acc c) → as.length = fct n → Rows h' n s.heap.objs.size as → acc.toList = as.map Value.ref → Q (.ref s.heap.objs.size) { s with heap := h', toks := tk }) :
    wpAny (model prog w) A (call (.type "list") [.ref it]) Q E s := by
  refine callType_codes (Q₁ := fun obj s₁ => obj = .ref s.heap.objs.size ∧ s₁ = { s with heap := s.heap.push { cls := .type "list", data := .seq #[] } }) PySem.F.called_list (PySem.F.typeCall_list_1 _) PySem.F.entry_list_init (code_list_new _ ⟨rfl, rfl⟩) fun obj s₁ e₁ => ?_
  obtain ⟨rfl, rfl⟩ := e₁
  have hS : (s.heap.push { cls := .type "list", data := .seq #[] }).get? s.heap.objs.size = some (lstO #[] 0) := Heap.get?_push_size _ rfl
  have li : it < s.heap.objs.size := let ⟨_, _, _, _, e, _⟩ := hat; Heap.lt_size e
  have lpo : pool < s.heap.objs.size := let ⟨_, _, _, _, _, e⟩ := hat; Heap.lt_size e
  have ne1 : s.heap.objs.size ≠ it := Nat.ne_of_gt li
  have ne3 : it ≠ s.heap.objs.size := Nat.ne_of_lt li
  have ne2 : pool ≠ s.heap.objs.size := Nat.ne_of_lt lpo
  refine ⟨⟨_, hS, rfl⟩, PySem.F.args_list_init_2 _ _, ?_⟩
  show wpAny _ _ (Builtin.List.listItems (.ref s.heap.objs.size) >>= fun old => Builtin.List.listUpdate (.ref s.heap.objs.size) (fun _ => #[]) >>= fun _ => letGo old.toList.reverse >>= fun _ => Builtin.List.listExtendWith (.ref s.heap.objs.size) (.ref it) .none) _ _ _
  refine wpAny_bind ?_
  unfold Builtin.List.listItems; refine wpAny_bind (wpAny_seqItems hS rfl (wpAny_pure ?_))
  show wpAny _ _ (updateSeq s.heap.objs.size (fun _ => #[]) >>= fun _ => letGo (#[] : Array Value).toList.reverse >>= fun _ => Builtin.List.listExtendWith (.ref s.heap.objs.size) (.ref it) .none) _ _ _
  refine wpAny_bind (wpAny_updateSeq hS rfl (wpAny_bind (wpAny_letGo ?_)))
  have hS2 := Heap.get?_update_self (Obj.mapSeq (fun _ => (#[] : Array Value))) hS rfl
  generalize hg2 : (s.heap.push { cls := .type "list", data := .seq #[] }).update s.heap.objs.size (Obj.mapSeq (fun _ => (#[] : Array Value))) = g2 at hS2 ⊢
  have k2 : ∀ b o, b ≠ s.heap.objs.size → s.heap.get? b = some o → g2.get? b = some o := fun b o hb e => by
    rw [← hg2]; exact (Heap.get?_update_other _ _ (Ne.symm hb)).trans (Heap.get?_push_of_some _ e)
  have at2 : At g2 it pool n 0 := hat.keep fun b hb o e => k2 b o (by rcases (by simpa using hb : b = it ∨ b = pool) with rfl | rfl <;> assumption) e
  have key : ∀ (g : Heap) (c : Nat), (∀ b o, b ≠ s.heap.objs.size → g2.get? b = some o → g.get? b = some o) → g.get? s.heap.objs.size = some (lstO #[] c) → codeAny (model prog w) A.in1 (.builtin "list.extend.loop" ⟨[.ref s.heap.objs.size, .ref it, .none], []⟩) (wants (fun r s₂ => r = .none ∧ Q (.ref s.heap.objs.size) s₂) E) { s with heap := g, toks := s.toks } := fun g c kg hg => by
    refine lp (h₁ := s.heap) (A := A.in1) (s := s) hh h1 h3 li lpo .none (fun h' tk acc c' as kk q1 q2 q3 q4 => ?_) (fct n) 0 g s.toks c #[] [] (by omega) (at2.keep fun b hb o e => kg b o (by rcases (by simpa using hb : b = it ∨ b = pool) with rfl | rfl <;> assumption) e)
      (fun b o z1 _ e => kg b o z1 (k2 b o z1 e)) hg rfl rfl ⟨List.Pairwise.nil, (fun _ ha => nomatch ha), fun j a hj => by simp at hj⟩
    exact ⟨rfl, hQ h' tk acc c' as (fun b o z e => kk b o (Nat.ne_of_lt (Heap.lt_size e)) z e) q1 q2 q3 q4⟩
  obtain ⟨l0, ts0, _, _, hit2, _⟩ := id at2
  have hT2 : (⟨g2, s.gens, s.drawn, s.toks, s.os⟩ : Shared).TypeIs (.ref it) "itertools.permutations" := ⟨_, hit2, rfl⟩
  unfold Builtin.List.listExtendWith
  refine wpAny_bind (wpAny_typeOf hT2 ?_)
  have q1 : Builtin.List.listSameRef (.ref s.heap.objs.size) (.ref it) = false := by simp [Builtin.List.listSameRef, ne1]
  simp only [q1, show (Value.type "itertools.permutations" == Value.type "list") = false by decide, show (Value.type "itertools.permutations" == Value.type "tuple") = false by decide, Bool.or_false, Bool.false_eq_true, if_false]
  refine wpAny_bind (pm_iter (s := ⟨g2, s.gens, s.drawn, s.toks, s.os⟩) at2 (wpAny_bind (wpAny_holding ?_)))
  unfold Builtin.List.listLengthHint
  refine wpAny_bind (wpAny_specialOf hT2 pm_noL ?_)
  show wpAny _ _ (specialOf (Value.ref it) (Str.ofString "__length_hint__") >>= _) _ _ _
  refine wpAny_bind (wpAny_specialOf hT2 pm_noH (wpAny_pure ?_))
  show wpAny _ _ (rule "list.extend.makes-room" >>= fun _ => Builtin.List.listTouch (.ref s.heap.objs.size) >>= fun _ => again (.builtin "list.extend.loop" ⟨[.ref s.heap.objs.size, .ref it, .none], []⟩)) _ _ _
  refine wpAny_bind (wpAny_rule (wpAny_bind ?_))
  show wpAny _ _ (updateSeq s.heap.objs.size (·.push .none) >>= fun _ => updateSeq s.heap.objs.size (·.pop)) _ _ _
  refine wpAny_bind (wpAny_updateSeq hS2 rfl ?_)
  have hS3 := Heap.get?_update_self (Obj.mapSeq (·.push Value.none)) hS2 rfl
  refine wpAny_updateSeq (hz := by seq_fits) hS3 rfl (wpAny_pure ⟨plainId_quiet PySem.F.plain_extend_loop _, key _ _ (fun b o hb e => ?_) (Heap.get?_update_self (Obj.mapSeq (·.pop)) hS3 rfl)⟩)
  exact (Heap.get?_update_other _ _ (Ne.symm hb)).trans ((Heap.get?_update_other _ _ (Ne.symm hb)).trans e)
end
end PM
/-! AB30: list(permutations(range(n))) -/
namespace AB
open PySem PySem.Spec PyProof.Rows L2
/-- tuples tracked at their places -/
def setRows : Hp → List Addr → List (List V) → Hp
  | H, a :: as, r :: rs => setRows (upd H a (.tup r)) as rs
  | H, _, _ => H
theorem setRows_off {b : Addr} : ∀ (as : List Addr) (rs : List (List V)) (H : Hp), b ∉ as → setRows H as rs b = H b
  | [], _, _, _ => rfl
  | _ :: _, [], _, _ => rfl
  | a :: as, r :: rs, H, h => by
    have h1 : b ≠ a := fun z => h (z ▸ List.mem_cons_self)
    exact (setRows_off as rs (upd H a (.tup r)) fun z => h (List.mem_cons_of_mem _ z)).trans (upd_ne h1)
theorem setRows_at : ∀ (as : List Addr) (rs : List (List V)) (H : Hp) (j : Nat) (a : Addr) (r : List V), as.Nodup → as[j]? = some a → rs[j]? = some r → setRows H as rs a = some (.tup r)
  | [], _, _, _, _, _, _, h, _ => by simp at h
  | _ :: _, [], _, _, _, _, _, _, h => by simp at h
  | b :: as, q :: rs, H, 0, a, r, hn, h1, h2 => by
    simp at h1 h2; subst h1 h2
    exact (setRows_off as rs _ (List.nodup_cons.mp hn).1).trans upd_same
  | b :: as, q :: rs, H, j + 1, a, r, hn, h1, h2 => setRows_at as rs (upd H b (.tup q)) j a r (List.nodup_cons.mp hn).2 (by simpa using h1) (by simpa using h2)
theorem setRows_grow {w : Amb} {ρ : List Addr} {M : Store} : ∀ (as : List Addr) (rs : List (List V)) (H : Hp), as.Nodup → (∀ a ∈ as, H a = none) → RM w ρ H M → Grow H (setRows H as rs) ∧ RM w ρ (setRows H as rs) M
  | [], _, H, _, _, m => ⟨.refl H, m⟩
  | _ :: _, [], H, _, _, m => ⟨.refl H, m⟩
  | a :: as, r :: rs, H, hn, h, m => by
    have h0 : H a = none := h a List.mem_cons_self
    have hn := List.nodup_cons.mp hn
    have ih := setRows_grow as rs (upd H a (.tup r)) hn.2 (fun b hb => by rw [upd_ne (fun z : b = a => hn.1 (by rw [← z]; exact hb))]; exact h b (List.mem_cons_of_mem _ hb)) (m.new h0)
    exact ⟨(Grow.new h0).trans ih.1, ih.2⟩
theorem vals_refs : ∀ as : List Addr, Vals (as.map V.ref) (as.map Value.ref)
  | [] => .nil
  | _ :: r => .cons rfl (vals_refs r)
theorem isAll_rows {ρ : List Addr} {H : Hp} : ∀ (as : List Addr) (xs : List (List A)) (rs : List (List V)), as.length = xs.length → (∀ (j : Nat) (a : Addr) (x : List A), as[j]? = some a → xs[j]? = some x → ∃ r, H a = some (.tup r) ∧ IsAll ρ H x r) → IsAll ρ H (xs.map A.tup) (as.map V.ref)
  | [], [], _, _, _ => .nil
  | [], _ :: _, _, h, _ => by simp at h
  | _ :: _, [], _, h, _ => by simp at h
  | a :: as, x :: xs, rs, h, f => .cons (let ⟨r, h1, h2⟩ := f 0 a x rfl rfl; .tup h1 h2) (isAll_rows as xs rs (by simpa using h) fun j b y h1 h2 => f (j + 1) b y (by simpa using h1) (by simpa using h2))
section
variable {X : Cx} {W : WR} {pos : Pos} {pins : List (Addr × Obj)} {σ : L2.St} {H : Hp} {s : Shared} {n : Nat}
/-- the list and its rows, laid -/
theorem lp_laid {h' : Heap} {tk c S : Nat} {acc : Array Value} {as : List Addr} (I : L2.Inv X pins σ H s) (hk : ∀ b o, s.heap.get? b = some o → h'.get? b = some o) (newS : H S = none) (new : ∀ a ∈ as, H a = none) (low : ∀ b o, s.heap.get? b = some o → b ∉ as ∧ b ≠ S) (hS : h'.get? S = some (PM.lstO acc c)) (hl : as.length = PM.fct n) (hG : PM.Rows h' n S as) (hacc : acc.toList = as.map Value.ref) :
    S ∉ as ∧ as.Nodup ∧ L2.Inv X pins σ (upd (setRows H as ((List.range (PM.fct n)).map (PM.rowV n))) S (.lst (as.map V.ref))) { s with heap := h', toks := tk } := by
  generalize hrs : (List.range (PM.fct n)).map (PM.rowV n) = rs
  have hSn : S ∉ as := fun z => Nat.lt_irrefl _ (hG.top _ z)
  have nd : as.Nodup := hG.rise.imp fun h => Nat.ne_of_lt h
  refine ⟨hSn, nd, ?_⟩
  have off : ∀ b, b ∉ as → b ≠ S → upd (setRows H as rs) S (.lst (as.map V.ref)) b = H b := fun b z1 z2 => (upd_ne z2).trans (setRows_off as rs H z1)
  have kp : ∀ b u, H b = some u → upd (setRows H as rs) S (.lst (as.map V.ref)) b = some u := fun b u e => (off b (fun z => by rw [new b z] at e; cases e) fun z => by rw [z, newS] at e; cases e).trans e
  refine I.call' (ch := []) rfl ⟨fun b o q _ _ _ => hk b o q, fun b o q _ _ _ => ⟨o.slots, hk b o q⟩, fun b o q n _ => ?_, fun b o q _ => ⟨o, hk b o q⟩, fun b xs q => kp b _ q, fun b o u q => kp b _ q, fun b ps q => ⟨#[], by rw [kp b _ q]; simp⟩⟩ (fun b u q => ?_) I.bare fun b z => by simp at z
  · obtain ⟨z1, z2⟩ := low b o q
    rw [off b z1 z2]; exact n
  · by_cases hb2 : b = S
    · subst hb2
      rw [upd_same] at q
      cases q
      refine ⟨?_, acc.toList, c, by rw [hacc]; exact vals_refs as, by rw [Array.toArray_toList]; exact hS⟩
      have := PM.fct6 n
      rw [List.length_map, hl, sizeLine_eq]; omega
    · by_cases hb : b ∈ as
      · obtain ⟨j, hj⟩ := List.mem_iff_getElem?.mp hb
        have hj2 : j < PM.fct n := by rw [← hl]; exact (List.getElem?_eq_some_iff.mp hj).1
        have er : rs[j]? = some (PM.rowV n j) := by rw [← hrs]; simp [hj2]
        have q2 := setRows_at as rs H j b _ nd hj er
        rw [upd_ne hb2, q2] at q
        cases q
        obtain ⟨ts, l, e⟩ := hG.row j b hj
        have rl := PM.row_len (n := n) (i := j) ts
        have rv := PM.row_vals (i := j) l
        exact ⟨by rw [rv.length, sizeLine_eq]; omega, PM.row n j ts, rv, ⟨_, e, rfl, _, rfl⟩⟩
      · rw [off b hb hb2] at q
        exact (I.hok b u q).stay (fun d v _ y => hk d v y) (fun d y => kp d _ y) fun d xs y => kp d _ y
def lpOf (p : Int × Int) (M : Store) : EO A := if p.1 = 0 ∧ 1 ≤ p.2 ∧ p.2 ≤ 3 then .ok (.lst M.length) (M ++ [.lst (permA p.2.toNat)]) else .bad
def eListPerm (fr : ER) : EF := fun τ M => (fr τ M).bind lpOf
theorem ae_listPerm {e : Expr} {y : Str} {p q pos2 : Pos} {fr : ER} (hc : X.calm = true) (hl : X.mg "list" = none) (hm : X.mg y = some (.type "itertools.permutations")) (he : AR X W e fr) (hg2 : Gl X "list" := by rfl) (hg : Gl X y := by rfl) (hd : (y == ("__debug__" : Str)) = false := by decide)
    (na : starEach [e] X.env = (false, eval e X.env) :: starEach [] X.env := by rfl) (na2 : starEach [.Call (.Name y q) [e] [] pos2] X.env = (false, eval (.Call (.Name y q) [e] [] pos2) X.env) :: starEach [] X.env := by rfl) :
    AE X W (.Call (.Name "list" p) [.Call (.Name y q) [e] [] pos2] [] pos) (eListPerm fr) := by
  refine ⟨fun pins s σ H Q I h => ?_⟩
  have h1 := seqG relR h
  refine wpAny_Call_Name_kw (ld_blt I hg2 hl (by rfl) ?_)
  refine PyProof.Rows.callWith_type1 ?_ na2 rfl
  rw [na2]
  show wpAny _ _ (spliced ((false, eval (.Call (.Name y q) [e] [] pos2) X.env) :: backTo pos (starEach [] X.env))) _ _ s
  refine Calls.spliced_cons ?_
  refine Call_ (ld_glob I hg hm (PyProof.Rows.callWith_type1 (args_cons (thn (he pins s σ H (fun a b H1 => tK (X.gx W.Tb) W relR Is (fun τ => lpOf) σ Q (a, b) H1) I h1) fun xv s1 ⟨r, a, b, t, u, v, H1, ex, hr, I1, q⟩ => args_nil ?_) na) na) hd)
  obtain ⟨τ, M, ρ, c, rs, rm, i, r⟩ := q
  have i : c = (a, b) := i
  subst i ex
  have r2 : RE (X.gx W.Tb) W σ ρ H1 Is (if a = 0 ∧ 1 ≤ b ∧ b ≤ 3 then .ok (.lst M.length) (M ++ [.lst (permA b.toNat)]) else .bad) Q := r
  clear r
  split at r2
  · rename_i hz
    obtain ⟨rfl, h1, h3⟩ := hz
    obtain ⟨n, rfl⟩ : ∃ n : Nat, b = (n : Int) := ⟨b.toNat, by omega⟩
    refine PM.call_pm (I1.ok.hd hc) hr (by omega) (by omega) fun hm h' tk it pool k1 k2 l1 l2 at0 => ?_
    refine Calls.spliced_nil ?_
    refine PM.call_lp (s := { s1 with heap := h', toks := tk }) (I1.ok.hd hc) (by omega) (by omega) at0 fun h2 tk2 acc c as kk q1 q2 q3 q4 => ?_
    have hs : ∀ b o, s1.heap.get? b = some o → h2.get? b = some o := fun b o e => kk b o (fun z => by
      have t1 := Heap.lt_size (k1 b o e)
      rw [z] at t1
      exact Nat.lt_irrefl _ (Nat.lt_of_lt_of_le t1 l1)) (k2 b o (k1 b o e))
    have I2 : L2.Inv X pins σ H1 { s1 with heap := h', toks := tk } := I1.kept (t' := tk) fun b o e => k2 b o (k1 b o e)
    have e1 : H1 h'.objs.size = none := I2.hok.fresh (Nat.le_refl _)
    have e4 : ∀ a ∈ as, H1 a = none := fun a ha => I2.hok.fresh (Nat.le_of_lt (q3.top a ha))
    obtain ⟨e2, e3, J⟩ := lp_laid (tk := tk2) I1 hs e1 e4 (fun b o e => by
      have t := Heap.lt_size (k2 b o (k1 b o e))
      exact ⟨fun z => Nat.lt_asymm t (q3.top b z), Nat.ne_of_lt t⟩) q1 q2 q3 q4
    obtain ⟨g1, m1⟩ := setRows_grow as ((List.range (PM.fct n)).map (PM.rowV n)) H1 e3 e4 rm
    have eS : setRows H1 as ((List.range (PM.fct n)).map (PM.rowV n)) h'.objs.size = none := (setRows_off as _ H1 e2).trans e1
    refine ⟨.ref h'.objs.size, _, J, rfl, ?_⟩
    refine RE.okv r2 (ρ' := ρ ++ [h'.objs.size]) ⟨_, rfl⟩ (g1.trans (Grow.new eS)) (m1.push eS ⟨as.map V.ref, upd_same, ?_⟩) (.lst (by rw [← rm.len]; simp))
    have hx : permA ((n : Int).toNat) = ((List.range (PM.fct n)).map fun i => (PM.ix n i).map fun j : Nat => A.int (j : Int)).map A.tup := by unfold permA; rw [List.map_map]; rfl
    rw [hx]
    refine isAll_rows as _ ((List.range (PM.fct n)).map (PM.rowV n)) (by simp [q2]) fun j a x h1 h2 => ?_
    have hj2 : j < PM.fct n := by rw [← q2]; exact (List.getElem?_eq_some_iff.mp h1).1
    have ex : x = (PM.ix n j).map fun j : Nat => A.int (j : Int) := by simp [hj2] at h2; exact h2.symm
    subst ex
    have er : ((List.range (PM.fct n)).map (PM.rowV n))[j]? = some (PM.rowV n j) := by simp [hj2]
    refine ⟨PM.rowV n j, ?_, rowV_is n j⟩
    have na : a ≠ h'.objs.size := fun z => e2 (z ▸ List.mem_of_getElem? h1)
    exact (upd_ne na).trans (setRows_at as _ H1 j a _ e3 h1 er)
  · exact r2.elim
end
end AB
/-! AB31: sorted of a list of ints -/
namespace AB
open PySem PySem.Spec PyProof.Rows L2
section
variable {X : Cx} {Tb : Tbl}
end
end AB
/-! AB32: a tuple so many times -/
namespace AB
open PySem PySem.Spec PyProof.Rows L2
theorem tup_once (l : Addr) (items : Array Value) (n : Nat) (dd : Option Addr) (sl : Array (Option Value)) (u : Tok) (c1 : (items.isEmpty || (1 : Int) == 1) = true) :
    Meets (Builtin.«tuple.__mul__» ⟨[.ref l, .int 1 u], []⟩) (fun _ R s => s.heap.get? l = some { cls := .type "tuple", dict := dd, data := .seq items n, slots := sl } ∧ R (.ok (.ret (Value.ref l))) s) :=
  .of_wp fun prog w A R s h => by
    obtain ⟨hp, g, d, tk, os⟩ := s
    obtain ⟨hl, h⟩ := h
    have f1 := AutoSeq1.idx_int
    have hT : (⟨hp, g, d, tk, os⟩ : Shared).TypeIs (.ref l) "tuple" := ⟨_, hl, rfl⟩
    wp_walk using wpAny_loadPart' hl
    repeat (first
      | (refine wpAny_ite_false (by decide) ?_; wp_walk using wpAny_loadPart' hl)
      | (refine wpAny_ite_true (by simp) ?_; wp_walk using wpAny_loadPart' hl))
    exact ⟨_, rfl, h⟩
def oMulT : O2 := fun a b M => match a, b with
  | .tup xs, .int k => if xs ≠ [] ∧ 1 ≤ k ∧ k ≤ 1000 ∧ xs.length ≤ 1000 then some (.tup (List.replicate k.toNat xs).flatten, M) else none
  | _, _ => none
section
variable {X : Cx} {Tb : Tbl}
theorem op_mulT : OpR X (binaryOp .Mult) (r2 (X.am Tb) oMulT) := by
  intro pins s σ H x y v u Q I rx ry h
  obtain ⟨a, b, M, ρ, ia, ib, m, r⟩ := h
  unfold oMulT at r
  split at r
  · rename_i xs k
    cases ib
    split at r
    · rename_i hc
      obtain ⟨hne, h1, h2, hz⟩ := hc
      cases ia with
      | @tup l _ vs hl iv =>
        have hvl : xs.length = vs.length := iv.length
        by_cases hk : k = 1
        · subst hk
          obtain ⟨t, rfl⟩ := ry
          obtain rfl : v = .ref l := rx
          obtain ⟨its, r2, ⟨⟨cls, dd, data, sl⟩, ho, hc, n, hd⟩, hs⟩ := I.tuple (.inl (.inl hl))
          simp only at hc hd
          subst hc hd
          have rq : Q (.ref l) H := by
            have e : (List.replicate (1 : Int).toNat xs).flatten = xs := by simp
            rw [e] at r
            exact r.val m (.tup hl iv)
          refine wpAny_binaryOp_repeat_ref (T := "tuple") (U := "int") (by decide) ⟨_, ho, rfl⟩ (fun s' => typeIs_int s' 1 t) noFill_tuple_mul F.fills_int_mul F.slot_int_rmul repeat_tuple F.slot_int_index.lookup
            (call_meets F.slot_int_rmul (typeIs_int s 1 t) F.entry_int_rmul (F.args_int_rmul_2 _ _) (int_rmul_tuple 1 t l its.toArray n dd sl)
              ⟨ho, rfl, ⟨_, ho, rfl⟩, call_meets F.slot_tuple_mul ⟨_, ho, rfl⟩ F.entry_tuple_mul (F.args_tuple_mul_2 _ _) (tup_once l its.toArray n dd sl t (by simp)) ⟨ho, ?_⟩⟩)
          exact ⟨.ref l, H, I, rfl, rq⟩
        · exact op_repT pins s σ H _ _ v u Q I rx ry ⟨l, k, vs, rfl, rfl, .inl (.inl hl), fun z => hne (List.eq_nil_of_length_eq_zero (by rw [hvl, z]; rfl)), by omega, h2, by omega, fun p hp => r.newT m (iv.rep _) hp⟩
    · exact r.elim
  · exact r.elim
end
end AB
/-! AB33: [.. for .. in .. for .. in ..] -/
namespace AB
open PySem PySem.Spec PyProof.Rows L2
section
variable {X : Cx} {W : WR} {pos : Pos}
def lcB (src : Src) (t : Tgt) (ft : EFb) (fi1 : EI) (t1 : Tgt) (ft1 : EFb) (fe : EF) (l : Nat) (own1 : List Nat) (τ : Sl) : Nat → Nat → Store → EO A
  | 0, _, _ => .bad
  | n + 1, i, M => match src.at M i with
    | none => .bad
    | some none => .ok (.lst l) M
    | some (some x) => match t.set x τ with
      | none => .bad
      | some τ1 => match ft τ1 M with
        | .ok true M1 => match fi1 τ1 M1 with
          | .ok src1 M2 => (lcA src1 t1 ft1 fe l (wipeA τ1 own1) (src1.size M2) 0 M2).bind fun _ M3 => lcB src t ft fi1 t1 ft1 fe l own1 τ n (i + 1) M3
          | _ => .bad
        | .ok false M1 => lcB src t ft fi1 t1 ft1 fe l own1 τ n (i + 1) M1
        | _ => .bad
def eLc2 (fi : EI) (t : Tgt) (ft : EFb) (fi1 : EI) (t1 : Tgt) (ft1 : EFb) (fe : EF) (own own1 : List Nat) : EF := fun τ M => (fi τ M).bind fun src M1 => lcB src t ft fi1 t1 ft1 fe M1.length own1 (wipeA τ own) (src.size M1) 0 (M1 ++ [.lst []])
theorem lc2_tK {G : Gx} {fi fi1 : EI} {t t1 : Tgt} {ft ft1 : EFb} {fe : EF} {own own1 : List Nat} {σ : L2.St} {H : Hp} {Q : VK} (ho : ∀ i ∈ t.own, i ∈ own) (ho1 : ∀ i ∈ t1.own, i ∈ own1) (h : tG G W Is (eLc2 fi t ft fi1 t1 ft1 fe own own1) σ H Q) :
    tLc2 (tG G W (relJ G.w) fi) (tTgt t) (tG G W.nx relB ft) (tG G W.nx (relJ G.w) fi1) (tTgt t1) (tG G W.nx relB ft1) (tG G W.nx Is fe) own own1 σ H Q := by
  refine (seqG (relJ G.w) h).imp fun J H1 h1 => ?_
  obtain ⟨τ, M, ρ, src, rs, rm, ij, r⟩ := h1
  intro D hD
  have r : RE G W σ ρ H1 Is (lcB src t ft fi1 t1 ft1 fe M.length own1 (wipeA τ own) (src.size M) 0 (M ++ [.lst []])) Q := r
  have m0 : RM G.w (ρ ++ [D]) (upd H1 D (.lst [])) (M ++ [.lst []]) := rm.push hD ⟨[], upd_same, .nil⟩
  have hl0 : (ρ ++ [D])[M.length]? = some D := by rw [← rm.len]; simp
  have g0 : Grow H1 (upd H1 D (.lst [])) := .new hD
  generalize hl : M.length = l at r hl0
  generalize hM : (M ++ [Cell.lst []]) = M0 at r m0
  generalize hF : (fun (n i : Nat) (M : Store) => lcB src t ft fi1 t1 ft1 fe l own1 (wipeA τ own) n i M) = F
  have hFr : ∀ n i M, lcB src t ft fi1 t1 ft1 fe l own1 (wipeA τ own) n i M = F n i M := fun n i M => by rw [← hF]
  refine ⟨fun i m H => ∃ M ρ', Ext (ρ ++ [D]) ρ' ∧ Grow H1 H ∧ RM G.w ρ' H M ∧ RE G W σ ρ' H Is (F m i M) Q, ⟨_, M0, ρ ++ [D], .refl _, g0, m0, by rw [← hFr]; exact RE.mono r (.snoc _ _) g0⟩, ?_⟩
  clear r m0 hM
  rintro i m H ⟨M, ρ', x', g', rm', r⟩
  have xx : Ext ρ ρ' := (Ext.snoc ρ D).trans x'
  cases m with
  | zero => rw [← hFr] at r; exact r.elim
  | succ m =>
    rw [← hFr] at r
    unfold lcB at r
    have jj := ij ρ' H M i xx g' rm'
    cases ea : src.at M i with
    | none => rw [ea] at r; exact r.elim
    | some o =>
      cases o with
      | none =>
        rw [ea] at r jj
        exact .inl ⟨jj, r.okv (.refl _) (.refl _) rm' (.lst (x'.get hl0))⟩
      | some a =>
        rw [ea] at r jj
        obtain ⟨gg, yy⟩ := jj
        refine .inr ⟨gg, fun H => ∃ M ρ', Ext (ρ ++ [D]) ρ' ∧ Grow H1 H ∧ RM G.w ρ' H M ∧ RE G W σ ρ' H Is (F m (i + 1) M) Q, fun H' q => ⟨m, Nat.lt_succ_self m, q⟩, fun v H2 y => ?_⟩
        obtain ⟨g2, m2, ia⟩ := yy v H2 y
        dsimp only at r
        cases et : t.set a (wipeA τ own) with
        | none => rw [et] at r; exact r.elim
        | some τ1 =>
          rw [et] at r
          dsimp only at r
          have g12 := g'.trans g2
          refine ⟨a, wipeA τ own, ρ', τ1, ia, ((rs.mono xx g12).wipe own).s, et, fun σ1 rs1 sb => ⟨?_, ?_⟩⟩
          · rw [sb.wipe ho]
            exact wipe_wipe σ own
          have r := RE.mono r (.refl _) g2
          have rs1 : RS W.nx ρ' H2 τ1 σ1 := ⟨(rs.mono xx g12).ext, (rs.mono xx g12).grow, rs1⟩
          refine ⟨τ1, M, ρ', rs1, m2, ?_⟩
          cases e1 : ft τ1 M with
          | bad => rw [e1] at r; exact r.elim
          | ex en M1 => rw [e1] at r; exact r.elim
          | ok k M1 =>
            rw [e1] at r
            intro k' H3 ρ3 x3 g3 m3 ik
            have ik : k = k' := ik
            subst ik
            have r := RE.mono r x3 g3
            cases k with
            | false =>
              rw [if_neg Bool.false_ne_true]
              dsimp only at r
              rw [hFr] at r
              exact ⟨M1, ρ3, x'.trans x3, g12.trans g3, m3, r⟩
            | true =>
              rw [if_pos rfl]
              dsimp only at r
              refine ⟨τ1, M1, ρ3, rs1.mono x3 g3, m3, ?_⟩
              cases e2 : fi1 τ1 M1 with
              | bad => rw [e2] at r; exact r.elim
              | ex en M2 => rw [e2] at r; exact r.elim
              | ok src1 M2 =>
                rw [e2] at r
                intro J1 H4 ρ4 x4 g4 m4 ij1
                have r := RE.mono r x4 g4
                dsimp only at r
                have x04 : Ext (ρ ++ [D]) ρ4 := (x'.trans x3).trans x4
                have g04 : Grow H1 H4 := (g12.trans g3).trans g4
                have rs4 : RS W.nx ρ4 H4 τ1 σ1 := (rs1.mono x3 g3).mono x4 g4
                refine ⟨fun j k H => ∃ M ρ5, Ext ρ4 ρ5 ∧ Grow H4 H ∧ RM G.w ρ5 H M ∧ RE G W σ ρ5 H Is ((lcA src1 t1 ft1 fe l (wipeA τ1 own1) k j M).bind fun _ M3 => F m (i + 1) M3) Q, ⟨_, M2, ρ4, .refl _, .refl _, m4, by
                  have e : (fun (_ : A) (M3 : Store) => lcB src t ft fi1 t1 ft1 fe l own1 (wipeA τ own) m (i + 1) M3) = fun _ M3 => F m (i + 1) M3 := by funext _ M3; exact hFr _ _ _
                  rw [← e]; exact r⟩, ?_⟩
                clear r m2 m3 m4 e1 e2
                rintro j k H5 ⟨M, ρ5, x5, g5, m5, r⟩
                cases k with
                | zero => exact r.elim
                | succ k =>
                  unfold lcA at r
                  have jj := ij1 ρ5 H5 M j x5 g5 m5
                  cases ea1 : src1.at M j with
                  | none => rw [ea1] at r; exact r.elim
                  | some o =>
                    cases o with
                    | none =>
                      rw [ea1] at r jj
                      exact .inl ⟨jj, M, ρ5, x04.trans x5, g04.trans g5, m5, r⟩
                    | some a1 =>
                      rw [ea1] at r jj
                      obtain ⟨go1, yy1⟩ := jj
                      refine .inr ⟨go1, fun H => ∃ M ρ6, Ext ρ4 ρ6 ∧ Grow H4 H ∧ RM G.w ρ6 H M ∧ RE G W σ ρ6 H Is ((lcA src1 t1 ft1 fe l (wipeA τ1 own1) k (j + 1) M).bind fun _ M3 => F m (i + 1) M3) Q, fun H' q => ⟨k, Nat.lt_succ_self k, q⟩, fun v1 H6 y1 => ?_⟩
                      obtain ⟨g6, m6, ia1⟩ := yy1 v1 H6 y1
                      dsimp only at r
                      cases et1 : t1.set a1 (wipeA τ1 own1) with
                      | none => rw [et1] at r; exact r.elim
                      | some τ2 =>
                        rw [et1] at r
                        dsimp only at r
                        have g56 := g5.trans g6
                        refine ⟨a1, wipeA τ1 own1, ρ5, τ2, ia1, ((rs4.mono x5 g56).wipe own1).s, et1, fun σ3 rs3 sb3 => ⟨?_, ?_⟩⟩
                        · rw [sb3.wipe ho1]
                          exact wipe_wipe σ1 own1
                        have r := RE.mono r (.refl _) g6
                        have rs3 : RS W.nx ρ5 H6 τ2 σ3 := ⟨(rs4.mono x5 g56).ext, (rs4.mono x5 g56).grow, rs3⟩
                        refine ⟨τ2, M, ρ5, rs3, m6, ?_⟩
                        cases e3 : ft1 τ2 M with
                        | bad => rw [e3] at r; exact r.elim
                        | ex en M3 => rw [e3] at r; exact r.elim
                        | ok c M3 =>
                          rw [e3] at r
                          intro c' H7 ρ7 x7 g7 m7 ic
                          have ic : c = c' := ic
                          subst ic
                          have r := RE.mono r x7 g7
                          cases c with
                          | false =>
                            rw [if_neg Bool.false_ne_true]
                            exact ⟨M3, ρ7, x5.trans x7, g56.trans g7, m7, r⟩
                          | true =>
                            rw [if_pos rfl]
                            dsimp only at r
                            refine ⟨τ2, M3, ρ7, rs3.mono x7 g7, m7, ?_⟩
                            cases e4 : fe τ2 M3 with
                            | bad => rw [e4] at r; exact r.elim
                            | ex en M4 => rw [e4] at r; exact r.elim
                            | ok yv M4 =>
                              rw [e4] at r
                              intro w H8 ρ8 x8 g8 m8 iy
                              have r := RE.mono r x8 g8
                              dsimp only at r
                              have hb : ρ8[l]? = some D := x8.get (x7.get (x5.get (x04.get hl0)))
                              cases e5 : M4[l]? with
                              | none => rw [e5] at r; exact r.elim
                              | some cc =>
                                rw [e5] at r
                                cases cc with
                                | lst acc =>
                                  dsimp only at r
                                  obtain ⟨vs, hh, is⟩ := m8.lstM hb e5
                                  split at r
                                  · rename_i hz
                                    have g9 := m8.growSet (o := .lst (vs ++ [w])) hb e5
                                    exact ⟨vs, hh, by rw [← is.length]; exact hz, _, ρ8, x5.trans (x7.trans x8), ((g56.trans g7).trans g8).trans g9, m8.set (c' := .lst (acc ++ [yv])) hb e5 ⟨_, upd_same, (is.append (.cons iy .nil)).mono (.refl _) g9⟩, RE.mono r (.refl _) g9⟩
                                  · exact r.elim
                                | _ => exact r.elim
theorem ae_lc2 (own : List (Str × Nat)) (own1 : List Nat) {elt tg iter tg1 iter1 : Expr} {ifs ifs1 : List Expr} {scope : Scope} {fi fi1 : EI} {t t1 : Tgt} {ft ft1 : EFb} {fe : EF} (hc : X.calm = true) (hN : X.N.Nodup) (ok : BlkOk X.N X.env.scope scope own) (ho : ∀ i ∈ t.own, i ∈ own.map (·.2)) (ho1 : ∀ i ∈ t1.own, i ∈ own1) (hv : ∀ i ∈ own1, i ∈ own.map (·.2)) (hi : AI X W tg iter fi)
    (hg : ∀ (s : Shared) (H : Hp) (C : Addr) (cl : List (Str × Addr)) (fp : List Addr), AG (X.blk s H scope (compEnvC scope cl C X.env) fp) tg t) (ht : ∀ (s : Shared) (H : Hp) (C : Addr) (cl : List (Str × Addr)) (fp : List Addr), ATs (X.blk s H scope (compEnvC scope cl C X.env) fp) W.nx ifs ft)
    (hi1 : ∀ (s : Shared) (H : Hp) (C : Addr) (cl : List (Str × Addr)) (fp : List Addr), AI (X.blk s H scope (compEnvC scope cl C X.env) fp) W.nx tg1 iter1 fi1)
    (hg1 : ∀ (s : Shared) (H : Hp) (C : Addr) (cl : List (Str × Addr)) (fp : List Addr), AG (X.blk s H scope (compEnvC scope cl C X.env) fp) tg1 t1) (ht1 : ∀ (s : Shared) (H : Hp) (C : Addr) (cl : List (Str × Addr)) (fp : List Addr), ATs (X.blk s H scope (compEnvC scope cl C X.env) fp) W.nx ifs1 ft1)
    (he : ∀ (s : Shared) (H : Hp) (C : Addr) (cl : List (Str × Addr)) (fp : List Addr), AE (X.blk s H scope (compEnvC scope cl C X.env) fp) W.nx elt fe) (hs : ∀ x, foldedSetIterable iter X.env x = pure x := by intro _; rfl) (hs1 : ∀ env x, foldedSetIterable iter1 env x = pure x := by intro _ _; rfl) :
    AE X W (.ListComp elt [⟨tg, iter, ifs, 0⟩, ⟨tg1, iter1, ifs1, 0⟩] scope pos) (eLc2 fi t ft fi1 t1 ft1 fe (own.map (·.2)) own1) :=
  (pe_lc2 (tt := tG (X.gx W.Tb) W.nx relB ft) (wi1 := tG (X.gx W.Tb) W.nx (relJ (X.am W.Tb)) fi1) (tt1 := tG (X.gx W.Tb) W.nx relB ft1) (te := tG (X.gx W.Tb) W.nx Is fe) hc hN hi ok hv hg ht hi1 hg1 ht1 he hs hs1).pre fun _ _ _ h => lc2_tK ho ho1 h
end
end AB
/-! AB34: sum, max of tuples and lists of ints -/
namespace AB
open PySem PySem.Spec PyProof.Rows L2
section
variable {prog : Program} {w : World} {A : Around} {E : Value → Shared → Prop} {s : Shared} {l : Addr} {xs : Array (Int × Tok)} {its : List Value} {ns : List Int}
end
section
variable {X : Cx} {Tb : Tbl}
end
end AB
/-! AB35: list(d.items()), sorted(d.keys()) -/
namespace AB
open PySem PySem.Spec PyProof.Rows L2
def itemA (kv : Key × A) : A := .tup [keyA kv.1, kv.2]
section
variable {X : Cx} {W : WR} {pos : Pos} {e : Expr} {f : EF}
end
section
variable {τ : Sl} {M : Store} {Q : A → Store → Prop} {f : EF}
end
end AB
/-! AB36: x = [.. for .. in .. for .. in ..] -/
namespace AB
open PySem PySem.Spec PyProof.Rows L2
section
variable {X : Cx} {W : WR} {pos : Pos}
theorem as_setLc2 (i : Nat) (own : List (Str × Nat)) (own1 : List Nat) {y : Str} {py spos : Pos} {elt tg iter tg1 iter1 : Expr} {ifs ifs1 : List Expr} {scope : Scope} {fi fi1 : EI} {t t1 : Tgt} {ft ft1 : EFb} {fe : EF} (hc : X.calm = true) (hN : X.N.Nodup) (hsw : swapsWith (.ListComp elt [⟨tg, iter, ifs, 0⟩, ⟨tg1, iter1, ifs1, 0⟩] scope pos) (some (.Name y py)) spos.line X.env = pure true) (ok : BlkOk X.N X.env.scope scope own) (ho : ∀ i ∈ t.own, i ∈ own.map (·.2)) (ho1 : ∀ i ∈ t1.own, i ∈ own1) (hv : ∀ i ∈ own1, i ∈ own.map (·.2)) (hi : AI X W tg iter fi)
    (hg : ∀ (s : Shared) (H : Hp) (C : Addr) (cl : List (Str × Addr)) (fp : List Addr), AG (X.blk s H scope (compEnvC scope cl C X.env) fp) tg t) (ht : ∀ (s : Shared) (H : Hp) (C : Addr) (cl : List (Str × Addr)) (fp : List Addr), ATs (X.blk s H scope (compEnvC scope cl C X.env) fp) W.nx ifs ft)
    (hi1 : ∀ (s : Shared) (H : Hp) (C : Addr) (cl : List (Str × Addr)) (fp : List Addr), AI (X.blk s H scope (compEnvC scope cl C X.env) fp) W.nx tg1 iter1 fi1)
    (hg1 : ∀ (s : Shared) (H : Hp) (C : Addr) (cl : List (Str × Addr)) (fp : List Addr), AG (X.blk s H scope (compEnvC scope cl C X.env) fp) tg1 t1) (ht1 : ∀ (s : Shared) (H : Hp) (C : Addr) (cl : List (Str × Addr)) (fp : List Addr), ATs (X.blk s H scope (compEnvC scope cl C X.env) fp) W.nx ifs1 ft1)
    (he : ∀ (s : Shared) (H : Hp) (C : Addr) (cl : List (Str × Addr)) (fp : List Addr), AE (X.blk s H scope (compEnvC scope cl C X.env) fp) W.nx elt fe) (hy : X.N[i]? = some y := by rfl) (hyl : X.env.scope.names.lookup y = some .local := by rfl) (hs : ∀ x, foldedSetIterable iter X.env x = pure x := by intro _; rfl) (hs1 : ∀ env x, foldedSetIterable iter1 env x = pure x := by intro _ _; rfl) :
    AS X W (.Assign [.Name y py] (.ListComp elt [⟨tg, iter, ifs, 0⟩, ⟨tg1, iter1, ifs1, 0⟩] scope pos) spos) (sAsg (.nm i) (eLc2 fi t ft fi1 t1 ft1 fe (own.map (·.2)) own1)) :=
  (ps_setLc2 (tt := tG (X.gx W.Tb) W.nx relB ft) (wi1 := tG (X.gx W.Tb) W.nx (relJ (X.am W.Tb)) fi1) (tt1 := tG (X.gx W.Tb) W.nx relB ft1) (te := tG (X.gx W.Tb) W.nx Is fe) hc hN hy hyl hsw hi ok hv hg ht hi1 hg1 ht1 he hs hs1).pre fun D σ H h => by
    have h1 := asg_tK h
    refine lc2_tK ho ho1 (h1.imp fun x H1 q => ?_)
    obtain ⟨a, τ, ρ, τ', ia, rs, e, q⟩ := q
    simp only [Tgt.set] at e
    cases e
    refine q _ (rs.set ia i) ⟨by simp, fun j hj => ?_⟩
    rw [List.getElem?_set_ne (by intro z; exact hj (by simp [Tgt.own, z]))]
end
end AB
/-! AB37: for k in d, the dict locked meanwhile -/
namespace AB
open PySem PySem.Spec PyProof.Rows L2
/-- not a tuple -/
class NoTup (u : HO) : Prop where
  no : ∀ vs, u ≠ .tup vs
instance {x} : NoTup (.lst x) := ⟨fun _ h => by cases h⟩
instance {x} : NoTup (.dK x) := ⟨fun _ h => by cases h⟩
instance {x} : NoTup (.dT x) := ⟨fun _ h => by cases h⟩
section
variable {ρ : List Addr} {H : Hp} {a : Addr} {u : HO} {od : Obj} [NoTup u]
mutual
theorem Is.unl (h : H a = some (.frz od u)) : ∀ {t : A} {v : V}, Is ρ H t v → Is ρ (upd H a u) t v
  | _, _, .non => .non
  | _, _, .bl b => .bl b
  | _, _, .int i => .int i
  | _, _, .str s => .str s
  | _, _, .tup e r => .tup (by rw [upd_ne (fun z => by rw [z, h] at e; cases e)]; exact e) (IsAll.unl h r)
  | _, _, .lst e => .lst e
  | _, _, .dct e => .dct e
  | _, _, .ty n => .ty n
  | _, _, .obj e => .obj e
  | _, _, .rng e => .rng (by rw [upd_ne (fun z => by rw [z, h] at e; cases e)]; exact e)
  | _, _, .ftp e c d r => .ftp (by rw [upd_ne (fun z => by rw [z, h] at e; exact NoTup.no _ (HO.frz.inj (Option.some.inj e)).2)]; exact e) c d (IsAll.unl h r)
theorem IsAll.unl (h : H a = some (.frz od u)) : ∀ {ts : List A} {vs : List V}, IsAll ρ H ts vs → IsAll ρ (upd H a u) ts vs
  | _, _, .nil => .nil
  | _, _, .cons r rs => .cons (Is.unl h r) (IsAll.unl h rs)
end
theorem RS0.unl (h : H a = some (.frz od u)) : ∀ {τ : Sl} {σ : L2.St}, RS0 ρ H τ σ → RS0 ρ (upd H a u) τ σ
  | _, _, .nil => .nil
  | _, _, .no r => .no (RS0.unl h r)
  | _, _, .yes i r => .yes (i.unl h) (RS0.unl h r)
/-- a locked cell is let go -/
theorem RM.unl {w : Amb} {M : Store} {l : Nat} {c c' : Cell} (m : RM w ρ H M) (hl : ρ[l]? = some a) (hc : M[l]? = some c) (hF : c.isF = true) (h : H a = some (.frz od u)) (hM : c'.isM = true) (hF' : c'.isF = false) (hfz : ∀ xs, c' ≠ .frz xs) (hc' : RC w ρ (upd H a u) a c') : RM w ρ (upd H a u) (M.set l c') := by
  have hlt : l < M.length := (List.getElem?_eq_some_iff.mp hc).1
  have getM : ∀ (j : Nat) (d : Cell), (M.set l c')[j]? = Option.some d → (j = l ∧ d = c') ∨ (j ≠ l ∧ M[j]? = Option.some d) := fun j d e => by
    by_cases hj : j = l
    · subst hj
      rw [List.getElem?_set_self hlt] at e
      exact .inl ⟨rfl, (Option.some.inj e).symm⟩
    · rw [List.getElem?_set_ne (Ne.symm hj)] at e
      exact .inr ⟨hj, e⟩
  have noM : ∀ (j : Nat) (d : Cell), ρ[j]? = Option.some a → M[j]? = Option.some d → d.isM = true → False := fun j d h1 h2 h3 => by
    obtain ⟨o, e, lo⟩ := (m.at_ j a d h1 h2).there h3
    rw [h] at e
    exact lo.fz _ _ (Option.some.inj e).symm
  refine ⟨by simp [m.len], fun j k b d d' h1 h2 h3 h4 h5 h6 => ?_, fun j b d h1 h2 => ?_, ?_, fun j k b d xs h1 h2 h3 h4 h5 => ?_, fun j k b d d' h1 h2 h3 h4 h5 h6 => ?_⟩
  · rcases getM j d h3 with ⟨q1, _⟩ | ⟨q1, q2⟩
    · rcases getM k d' h4 with ⟨q3, _⟩ | ⟨q3, q4⟩
      · rw [q1, q3]
      · subst q1; rw [hl] at h1; obtain rfl := Option.some.inj h1
        exact (noM k d' h2 q4 h6).elim
    · rcases getM k d' h4 with ⟨q3, _⟩ | ⟨q3, q4⟩
      · subst q3; rw [hl] at h2; obtain rfl := Option.some.inj h2
        exact (noM j d h1 q2 h5).elim
      · exact m.nd j k b d d' h1 h2 q2 q4 h5 h6
  · rcases getM j d h2 with ⟨q1, q2⟩ | ⟨q1, q2⟩
    · subst q1 q2; rw [hl] at h1; obtain rfl := Option.some.inj h1
      exact hc'
    · have r := m.at_ j b d h1 q2
      by_cases hb : b = a
      · subst hb
        cases d with
        | obj => trivial
        | frz xs =>
          obtain ⟨vs, e, i⟩ := r
          rcases e with (⟨o, e⟩ | e) | e
          · exfalso
            rw [h] at e
            have := HO.frz.inj (Option.some.inj e)
            obtain ⟨_, hu⟩ := this
            cases c with
            | fk ks => obtain ⟨o1, v1, e1, _⟩ := m.at_ l b _ hl hc; rw [h] at e1; have := (HO.frz.inj (Option.some.inj e1)).2; rw [hu] at this; cases this
            | fT ks => obtain ⟨o1, v1, e1, _⟩ := m.at_ l b _ hl hc; rw [h] at e1; have := (HO.frz.inj (Option.some.inj e1)).2; rw [hu] at this; cases this
            | _ => cases hF
          · rw [h] at e; cases e
          · exact ⟨vs, .inr e, i.unl h⟩
        | fk ks => exact absurd (m.fu j l b _ c h1 hl q2 hc rfl hF) q1
        | fT ks => exact absurd (m.fu j l b _ c h1 hl q2 hc rfl hF) q1
        | _ => exact (noM j _ h1 q2 rfl).elim
      · have eb : upd H a u b = H b := upd_ne hb
        cases d with
        | lst xs => obtain ⟨vs, e, i⟩ := r; exact ⟨vs, eb.trans e, i.unl h⟩
        | frz xs =>
          obtain ⟨vs, e, i⟩ := r
          refine ⟨vs, ?_, i.unl h⟩
          rcases e with (⟨o, e⟩ | e) | e
          · exact .inl (.inl ⟨o, eb.trans e⟩)
          · exact .inl (.inr (eb.trans e))
          · exact .inr e
        | dK xs => obtain ⟨vs, e, i⟩ := r; exact ⟨vs, eb.trans e, i.unl h⟩
        | dT xs => obtain ⟨vs, e, i⟩ := r; exact ⟨vs, eb.trans e, i.unl h⟩
        | dN xs => obtain ⟨bs, vs, e, i, j, d⟩ := r; exact ⟨bs, vs, eb.trans e, i.unl h, j.unl h, d⟩
        | st xs => obtain ⟨S, e, i⟩ := r; exact ⟨S, eb.trans e, i⟩
        | obj => trivial
        | xd xs => obtain ⟨vs, e, i⟩ := r; exact ⟨vs, eb.trans e, i.unl h⟩
        | fk xs => obtain ⟨o, vs, e, i⟩ := r; exact ⟨o, vs, eb.trans e, i.unl h⟩
        | fT xs => obtain ⟨o, vs, e, i⟩ := r; exact ⟨o, vs, eb.trans e, i.unl h⟩
        | ins C fs => obtain ⟨Ca, dx, vs, h0, e, e2, i⟩ := r; exact ⟨Ca, dx, vs, h0, eb.trans e, by rw [upd_ne (fun z => by rw [z, h] at e2; cases e2)]; exact e2, i.unl h⟩
  · intro p hp
    obtain ⟨ps, t1, t2, t3⟩ := m.tabs p hp
    refine ⟨ps, ?_, t2, fun pos cv hcv => ?_⟩
    · rw [upd_ne (fun z => by rw [z, h] at t1; cases t1)]; exact t1
    · obtain ⟨c, e1, e2⟩ := t3 pos cv hcv
      refine ⟨c, e1, ?_⟩
      rw [upd_ne (fun z => by
        rw [z, h] at e2
        have := Option.some.inj e2
        unfold LamX.CodeO at this
        cases this)]
      exact e2
  · rcases getM k _ h4 with ⟨q3, q4⟩ | ⟨q3, q4⟩
    · exact absurd q4.symm (hfz xs)
    · rcases getM j d h3 with ⟨q1, q2⟩ | ⟨q1, q2⟩
      · subst q1; rw [hl] at h1; obtain rfl := Option.some.inj h1
        obtain ⟨vs, e, i⟩ := m.at_ k a _ h2 q4
        rcases e with (⟨o, e⟩ | e) | e
        · exfalso
          rw [h] at e
          obtain ⟨_, hu⟩ := HO.frz.inj (Option.some.inj e)
          cases c with
          | fk ks => obtain ⟨o1, v1, e1, _⟩ := m.at_ j a _ hl hc; rw [h] at e1; have := (HO.frz.inj (Option.some.inj e1)).2; rw [hu] at this; cases this
          | fT ks => obtain ⟨o1, v1, e1, _⟩ := m.at_ j a _ hl hc; rw [h] at e1; have := (HO.frz.inj (Option.some.inj e1)).2; rw [hu] at this; cases this
          | _ => cases hF
        · rw [h] at e; cases e
        · exact ⟨vs, e, i.unl h⟩
      · obtain ⟨vs, f1, f2⟩ := m.fz j k b d xs h1 h2 q2 q4 h5
        exact ⟨vs, f1, f2.unl h⟩
  · rcases getM j d h3 with ⟨q1, q2⟩ | ⟨q1, q2⟩
    · rw [q2, hF'] at h5; cases h5
    · rcases getM k d' h4 with ⟨q3, q4⟩ | ⟨q3, q4⟩
      · rw [q4, hF'] at h6; cases h6
      · exact m.fu j k b d d' h1 h2 q2 q4 h5 h6
end
def letGoS (l : Nat) : SO → SO
  | .nx τ M => match M[l]? with
    | some (.fk kvs) => .nx τ (M.set l (.dK kvs))
    | _ => .bad
  | .rt a M => match M[l]? with
    | some (.fk kvs) => .rt a (M.set l (.dK kvs))
    | _ => .bad
  | _ => .bad
def keyL (kvs : List (Key × A)) : List A := kvs.map fun kv => keyA kv.1
def sForD (i : Nat) (t : Tgt) (b : SF) : SF := fun τ M => match τ[i]? with
  | some (some (.dct l)) => match M[l]? with
    | some (.dK kvs) => letGoS l (forA (.snap (keyL kvs)) t b (kvs.length + 1) 0 τ (M.set l (.fk kvs)))
    | _ => .bad
  | _ => .bad
section
variable {X : Cx} {W : WR} {pos : Pos}
/-- the ends of what runs while d is locked -/
abbrev lockD (D : Ends) (d : Addr) (u : HO) (od : Obj) : Ends := ⟨fun σ' H' => H' d = some (.frz od u) ∧ D.nx σ' (upd H' d u), fun v H' => H' d = some (.frz od u) ∧ D.rt v (upd H' d u), fun σ' H' => H' d = some (.frz od u) ∧ D.bk σ' (upd H' d u), fun σ' H' => H' d = some (.frz od u) ∧ D.ct σ' (upd H' d u)⟩
theorem lock_conv {G : Gx} {D : Ends} {ρ : List Addr} {H : Hp} {d : Addr} {kz : List (Key × V)} {od : Obj} {l : Nat} {o : SO} (hl : ρ[l]? = some d) (hd : H d = some (.dK kz)) (hW : Grow W.h H) (r : RSO G W D ρ H (letGoS l o)) : RSO G W (lockD D d (.dK kz) od) ρ (upd H d (.frz od (.dK kz))) o := by
  have gg : ∀ {H' : Hp}, Grow (upd H d (.frz od (.dK kz))) H' → Grow H (upd H' d (.dK kz)) := fun {H'} g b w iw e => by
    have nb : b ≠ d := fun z => by
      subst z
      rw [hd] at e
      cases e
      generalize hz : HO.dK kz = z at iw
      cases iw with
      | code c q => unfold LamX.CodeO at hz; cases hz
      | _ => cases hz
    rw [upd_ne nb]
    exact g b w iw (by rw [upd_ne nb]; exact e)
  have mm : ∀ {H' : Hp} {ρ' : List Addr} {M : Store} {kvs : List (Key × A)}, Ext ρ ρ' → RM G.w ρ' H' M → H' d = some (.frz od (.dK kz)) → M[l]? = some (.fk kvs) → RM G.w ρ' (upd H' d (.dK kz)) (M.set l (.dK kvs)) := fun {H' ρ' M kvs} x m hf ec => by
    obtain ⟨o1, v1, e1, i1⟩ := m.at_ l d _ (x.get hl) ec
    rw [hf] at e1
    have hu := (HO.frz.inj (Option.some.inj e1)).2
    exact m.unl (x.get hl) ec rfl hf rfl rfl (fun xs z => by cases z) ⟨v1, by rw [upd_same, hu], i1.unl hf⟩
  cases o with
  | nx τ M =>
    intro σ' H' ρ' x g m i
    have hf := g d _ (.frz _ _) upd_same
    refine ⟨hf, ?_⟩
    have r : RSO G W D ρ H (match M[l]? with
      | some (.fk kvs) => .nx τ (M.set l (.dK kvs))
      | _ => .bad) := r
    cases ec : M[l]? with
    | none => rw [ec] at r; exact r.elim
    | some c =>
      rw [ec] at r
      cases c with
      | fk kvs => exact r σ' _ ρ' x (gg g) (mm x m hf ec) ⟨i.ext, hW.trans (gg g), i.s.unl hf⟩
      | _ => exact r.elim
  | rt a M =>
    intro v H' ρ' x g m i
    have hf := g d _ (.frz _ _) upd_same
    refine ⟨hf, ?_⟩
    have r : RSO G W D ρ H (match M[l]? with
      | some (.fk kvs) => .rt a (M.set l (.dK kvs))
      | _ => .bad) := r
    cases ec : M[l]? with
    | none => rw [ec] at r; exact r.elim
    | some c =>
      rw [ec] at r
      cases c with
      | fk kvs => exact r v _ ρ' x (gg g) (mm x m hf ec) (i.unl hf)
      | _ => exact r.elim
  | bk τ M => exact r.elim
  | ct τ M => exact r.elim
  | ex e τ M => exact r.elim
  | bad => exact r.elim
theorem as_forD {tg e : Expr} {body : List Stmt} {i : Nat} {t : Tgt} {fb : SF} (hp : PassesOwn (model X.prog X.w) X.A X.env X.xe) (hc : X.calm = true) (he : AE X W e (eVar i)) (hg : AG X tg t) (hb : ASs X W body fb)
    (hs : ∀ x, foldedSetIterable e X.env x = pure x := by intro _; rfl) : AS X W (.For tg e body [] pos) (sForD i t fb) := (ps_lock (ps_for hp hc (pi_keys he) hg hb hs)).pre fun D σ H h => by
  obtain ⟨τ, M, ρ, rs, rm, r⟩ := h
  unfold sForD at r
  split at r
  · rename_i l ei
    split at r
    · rename_i kvs ec
      obtain ⟨v, hv, iv⟩ := rs.get ei
      cases iv with
      | @dct _ d hl =>
        obtain ⟨vs, hH, iis⟩ := rm.at_ _ _ _ hl ec
        refine ⟨d, _, hH, trivial, fun od => ?_⟩
        have gL : Grow H (upd H d (.frz od (.dK ((kvs.map (·.1)).zip vs)))) := rm.growSet hl ec
        have mL : RM (X.gx W.Tb).w ρ (upd H d (.frz od (.dK ((kvs.map (·.1)).zip vs)))) (M.set l (.fk kvs)) := rm.set hl ec ⟨od, vs, upd_same, iis.mono (.refl _) gL⟩
        have rL := lock_conv (od := od) hl hH rs.grow r
        refine ⟨τ, M.set l (.fk kvs), ρ, rs.mono (.refl _) gL, mL, ?_⟩
        have ev : eVar i τ (M.set l (.fk kvs)) = .ok (.dct l) (M.set l (.fk kvs)) := by unfold eVar; rw [ei]
        rw [ev]
        intro b H1 ρ1 x1 g1 m1 i1
        cases i1 with
        | @dct _ d' hl1 =>
          rw [x1.get hl] at hl1
          obtain rfl := Option.some.inj hl1
          refine ⟨d, od, rfl, .inl ⟨_, g1 d _ (.frz _ _) upd_same, ?_⟩⟩
          have ij : SrcJ (X.am W.Tb) ρ1 H1 (.snap (keyL kvs)) (Itk d od ((kvs.map (·.1)).zip vs)) := by
            intro ρ2 H2 M2 j x g m
            have hf : H2 d = some (.frz od (.dK ((kvs.map (·.1)).zip vs))) := g d _ (.frz _ _) (g1 d _ (.frz _ _) upd_same)
            have hlen : (kvs.map (·.1)).length = vs.length := by have := iis.length; simpa using this
            have hzl : ((kvs.map (·.1)).zip vs).length = kvs.length := by rw [List.length_zip, ← hlen]; simp
            simp only [Src.at]
            cases e : (keyL kvs)[j]? with
            | none =>
              have := List.getElem?_eq_none_iff.mp e
              unfold keyL at this
              rw [List.length_map] at this
              exact ⟨hf, by rw [hzl]; exact this⟩
            | some y =>
              have hj := (List.getElem?_eq_some_iff.mp e).1
              unfold keyL at hj e
              rw [List.length_map] at hj
              refine ⟨⟨hf, by rw [hzl]; exact hj⟩, fun v H3 ⟨e3, k, w, e4, e5⟩ => ?_⟩
              subst e3 e5
              refine ⟨.refl _, m, ?_⟩
              have ek : (kvs.map (·.1))[j]? = some k := by
                have := congrArg (Option.map (·.1)) e4
                rw [← List.getElem?_map, map_zip_fst hlen] at this
                exact this
              rw [List.getElem?_map] at ek e
              cases ekv : kvs[j]? with
              | none => rw [ekv] at ek; cases ek
              | some kv =>
                rw [ekv] at ek e
                cases ek
                cases e
                exact keyA_is kv.1
          refine ⟨fun j m σ H => ∃ τ M ρ', Ext ρ1 ρ' ∧ Grow H1 H ∧ RS W ρ' H τ σ ∧ RM (X.am W.Tb) ρ' H M ∧ RSO (X.gx W.Tb) W (lockD D d (.dK ((kvs.map (·.1)).zip vs)) od) ρ' H (forA (.snap (keyL kvs)) t fb m j τ M), ⟨kvs.length + 1, τ, _, ρ1, .refl _, .refl _, (rs.mono (.refl _) gL).mono x1 g1, m1, RSO.mono rL x1 g1⟩, ?_⟩
          clear r rs rm rL mL m1
          rintro j m σ H ⟨τ, M, ρ', x', g', rs, rm, r⟩
          cases m with
          | zero => exact r.elim
          | succ m =>
            unfold forA at r
            have jj := ij ρ' H M j x' g' rm
            cases ea : (Src.snap (keyL kvs)).at M j with
            | none => rw [ea] at r; exact r.elim
            | some o =>
              cases o with
              | none =>
                rw [ea] at r jj
                exact .inl ⟨jj, r _ _ ρ' (.refl _) (.refl _) rm rs⟩
              | some a =>
                rw [ea] at r jj
                obtain ⟨go, yy⟩ := jj
                refine .inr ⟨go, fun σ' H' => ∃ τ M ρ', Ext ρ1 ρ' ∧ Grow H1 H' ∧ RS W ρ' H' τ σ' ∧ RM (X.am W.Tb) ρ' H' M ∧ RSO (X.gx W.Tb) W (lockD D d (.dK ((kvs.map (·.1)).zip vs)) od) ρ' H' (forA (.snap (keyL kvs)) t fb m (j + 1) τ M), fun σ' H' q => ⟨m, Nat.lt_succ_self m, q⟩, fun v H2 y => ?_⟩
                obtain ⟨g2, m2, ia⟩ := yy v H2 y
                have r : RSO (X.gx W.Tb) W (lockD D d (.dK ((kvs.map (·.1)).zip vs)) od) ρ' H (match t.set a τ with
                  | none => .bad
                  | some τ1 => match fb τ1 M with
                    | .nx τ2 M2 => forA (.snap (keyL kvs)) t fb m (j + 1) τ2 M2
                    | .ct τ2 M2 => forA (.snap (keyL kvs)) t fb m (j + 1) τ2 M2
                    | .bk τ2 M2 => .nx τ2 M2
                    | o => o) := r
                cases et : t.set a τ with
                | none => rw [et] at r; exact r.elim
                | some τ1 =>
                  rw [et] at r
                  refine ⟨a, τ, ρ', τ1, ia, (rs.mono (.refl _) g2).s, et, fun σ1 rs1 _ => ⟨τ1, M, ρ', (rs.mono (.refl _) g2).of rs1, m2, ?_⟩⟩
                  have r := RSO.mono r (.refl _) g2
                  have r : RSO (X.gx W.Tb) W (lockD D d (.dK ((kvs.map (·.1)).zip vs)) od) ρ' H2 (match fb τ1 M with
                    | .nx τ2 M2 => forA (.snap (keyL kvs)) t fb m (j + 1) τ2 M2
                    | .ct τ2 M2 => forA (.snap (keyL kvs)) t fb m (j + 1) τ2 M2
                    | .bk τ2 M2 => .nx τ2 M2
                    | o => o) := r
                  cases eb : fb τ1 M with
                  | nx τ2 M2 => rw [eb] at r; exact fun σ2 H3 ρ3 x g m i => ⟨τ2, M2, ρ3, x'.trans x, (g'.trans g2).trans g, i, m, RSO.mono r x g⟩
                  | ct τ2 M2 => rw [eb] at r; exact fun σ2 H3 ρ3 x g m i => ⟨τ2, M2, ρ3, x'.trans x, (g'.trans g2).trans g, i, m, RSO.mono r x g⟩
                  | bk τ2 M2 => rw [eb] at r; exact r
                  | rt a M2 => rw [eb] at r; exact r
                  | ex en τ2 M2 => rw [eb] at r; exact r
                  | bad => rw [eb] at r; exact r
    · exact r.elim
  · exact r.elim
end
end AB
/-! AB38: [.. for k in d], tuple keys, the dict locked meanwhile -/
namespace AB
open PySem PySem.Spec PyProof.Rows L2
section
variable {X : Cx} {W : WR} {pos : Pos}
end
end AB
/-! AB39: any(t), a tuple of ints -/
namespace AB
open PySem PySem.Spec PyProof.Rows L2
section
variable {X : Cx} {Tb : Tbl}
end
end AB
/-! AB40: an own exception class over an own class over ValueError: its __init__ says super().__init__(..), then lays its fields -/
namespace SI
open PySem PySem.Spec PyProof.Rows L2
section
variable {CX : CXT} {P : Program} {w : World} {K : PySem.W.Frag} {mg : Str → Option Value} {base : Heap} {ps : List Str} {qual : Str} {scope : Scope} {f cc : Addr} {cd : Value} {A : Around} {outer : List Env} {s : Shared} {H : Hp} {E : XK}
end
end SI
/-! AB41: C(v), C with one field, and its raise -/
namespace SI
open PySem PySem.Spec PyProof.Rows L2
section
variable {X : Cx}
end
end SI
namespace AB
open PySem PySem.Spec PyProof.Rows L2
section
variable {X : Cx} {W : WR} {pos : Pos} {e : Expr}
end
end AB
/-! AB42: try .. except X as n; in its suite isinstance(n, C) and n.f -/
namespace PySem.W
open PySem PySem.Spec PySem.Calls PyProof.Rows
section
variable {prog : Program} {w : World} {A : Around} {E : Value → Shared → Prop} {s : Shared} {K : Frag} {x D : Addr} {ox : Obj} {od : Option Obj}
end
end PySem.W
namespace L2
open PySem PySem.Spec PyProof.Rows
end L2
namespace AB
open PySem PySem.Spec PyProof.Rows L2
/-- which of the named classes are under the clause's class -/
def ExTab (K : PySem.W.Frag) (mg : Str → Option Value) (c : Value) (xs : List (Str × Bool)) : Prop := ∀ n b, xs.lookup n = some b → ∃ C, mg n = some (.ref C) ∧ PySem.W.exmOne K (.ref C) c = some b
section
variable {X : Cx} {W : WR} {pos : Pos}
end
/-! ### in the suite -/
section
variable {X : Cx} {pos : Pos} {a : Addr} {oe : Obj} {cls : Value} {d : Option Addr} {pn : List (Addr × Obj)} {e : Exn} {l : Nat} {r : List Addr} {h : Hp} {w : WX} {Tb : Tbl}
end
end AB
/-! AB43: raise C('..') of a class without __init__; the classes' facts together -/
namespace AB
open PySem PySem.Spec PyProof.Rows L2
/-- the facts of classes, put together -/
theorem exTab_nil {K : PySem.W.Frag} {mg : Str → Option Value} {c : Value} : ExTab K mg c [] := fun n b h => by cases h
/-! ### runs that may end in an exception -/
@[irreducible] def EO.WX {α : Type} (o : EO α) (E : Exn → Store → Prop) (Q : α → Store → Prop) : Prop := match o with
  | .ok a M => Q a M
  | .ex e M => E e M
  | .bad => False
@[irreducible] def SO.WX (o : SO) (E : Exn → Store → Prop) (N : Sl → Store → Prop) (R : A → Store → Prop) : Prop := match o with
  | .nx τ M => N τ M
  | .rt a M => R a M
  | .ex e _ M => E e M
  | _ => False
section
variable {α β : Type} {τ : Sl} {M : Store} {E : Exn → Store → Prop} {Q : A → Store → Prop} {Qs : List A → Store → Prop} {Qb : Bool → Store → Prop} {N : Sl → Store → Prop} {R : A → Store → Prop}
end
end AB
/-! AB44: a class's own def; classes under classes -/
namespace AB
open PySem PySem.Spec PyProof.Rows L2
end AB
/-! AB45: steps for lambdas whose run may end in an exception -/
namespace AB
open PySem PySem.Spec PyProof.Rows L2
section
variable {τ : Sl} {M : Store} {E : Exn → Store → Prop} {Q : A → Store → Prop}
end
end AB
/-! AB46: a range that is kept, run through -/
namespace RV
open PySem PySem.Spec PyProof.Rows L2
def iRngV (te : TE) : TI := fun σ H R => te σ H fun x H1 => ∃ a lo hi, x = .ref a ∧ H1 a = some (.rng lo hi) ∧ -2 ^ 62 ≤ lo ∧ lo < 2 ^ 62 ∧ -2 ^ 62 ≤ hi ∧ hi < 2 ^ 62 ∧ R (Itr lo (hi - lo).toNat) H1
theorem pi_rngV {X : Cx} {tg e : Expr} {te : TE} (he : PE X e te) : PI X tg e (iRngV te) := by
  refine ⟨fun pins s σ H R I h => thn (he.run pins s σ H _ I h) fun u s1 q => ?_⟩
  obtain ⟨v, H1, I1, rel, a, lo, hi, ex, hr, h1, h2, h3, h4, q⟩ := q
  subst ex
  cases rel
  have ok := I1.hok _ _ hr
  unfold ObjOk at ok
  obtain ⟨t, u, v, hg⟩ := ok
  have hsz : Builtin.Range.rangeSize lo hi 1 = ((hi - lo).toNat : Int) := rangeSize_nat lo hi
  refine wpAny_pyIter_range (a := lo) (b := hi) (c := 1) hg (small_one h1 h2 h3 h4) ?_
  rw [hsz]
  have I2 : L2.Inv X pins σ H1 { s1 with heap := s1.heap.push { cls := Value.type "range_iterator", data := Data.fields #[rawInt lo, rawInt ((hi - lo).toNat : Int), rawInt 1] } } := I1.kept (t' := s1.toks) fun b o hb => Heap.get?_push_of_some _ hb
  refine ⟨s1.heap.objs.size, [s1.heap.objs.size], _, _, H1, rfl, I2, turn_range s1.heap.objs.size lo (hi - lo).toNat, ?_, fun b hb => ?_, q⟩
  · show IsRangeIter _ _ (lo + ((0 : Nat) : Int) * 1) (((hi - lo).toNat : Int) - ((0 : Nat) : Int)) 1
    rw [show lo + ((0 : Nat) : Int) * 1 = lo by omega, show ((hi - lo).toNat : Int) - ((0 : Nat) : Int) = ((hi - lo).toNat : Int) by omega]
    exact Heap.get?_push_size _ rfl
  · have hb : b = s1.heap.objs.size := by simpa using hb
    subst hb
    exact I1.fpOk (Nat.le_refl _) (I1.hok.fresh (Nat.le_refl _))
end RV
namespace AB
open PySem PySem.Spec PyProof.Rows L2
theorem cr_range1V {X : Cx} : CallR X (.type "range") (fun vs H Q => ∃ j, vs = [V.int j] ∧ ∀ p, H p = none → Q (.ref p) (upd H p (.rng 0 j))) := by
  intro pins s σ H xs us Q I rv h
  obtain ⟨j, e, h⟩ := h
  subst e
  cases rv with
  | cons r rr =>
    cases rr
    obtain ⟨t, rfl⟩ := r
    refine call_range_1 ?_
    have I2 : L2.Inv X pins σ (upd H s.heap.objs.size (.rng 0 j)) { s with heap := s.heap.push { cls := Value.type "range", data := Data.fields #[Value.int 0 s.toks, Value.int j t, Value.int 1 (s.toks + 1)] }, toks := s.toks + 1 + 1 } := by
      refine I.turnedNew (ch := []) (fun b o _ hb => Heap.get?_push_of_some _ hb) (fun b hb => nomatch hb) (Nat.le_refl _) ?_
      unfold ObjOk
      exact ⟨_, _, _, Heap.get?_push_size _ rfl⟩
    exact ⟨.ref s.heap.objs.size, _, I2, rfl, h _ (I.hok.fresh (Nat.le_refl _))⟩
section
variable {X : Cx} {W : WR} {pos : Pos} {l : Expr} {f : EF}
theorem RO.newR {w : Amb} {ρ : List Addr} {H : Hp} {M : Store} {lo hi : Int} {Q : VK} {p : Addr} (r : RO w ρ H (some (.rng lo hi, M)) Q) (m : RM w ρ H M) (hp : H p = none) : Q (.ref p) (upd H p (.rng lo hi)) := by
  exact r _ _ ρ (.refl _) (.new hp) (m.new hp) (.rng upd_same)
def oRange : On := fun as M => match as with
  | [.int j] => if -(2 ^ 62) ≤ j ∧ j < 2 ^ 62 then some (.rng 0 j, M) else none
  | _ => none
theorem cr_range : CallR X (.type "range") (rn (X.am W.Tb) oRange) := by
  intro pins s σ H xs us Q I r h
  obtain ⟨as, M, ρ, is, m, ro⟩ := h
  unfold oRange at ro
  split at ro
  · rename_i j
    split at ro
    · cases is with
      | cons i1 is =>
        cases is
        cases i1
        exact cr_range1V pins s σ H _ us Q I r ⟨j, rfl, fun p hp => RO.newR (M := M) ro m hp⟩
    · exact ro.elim
  · exact ro.elim
def srcR (a : A) (M : Store) : EO Src := match a with
  | .rng lo hi => if -(2 ^ 62) ≤ lo ∧ lo < 2 ^ 62 ∧ -(2 ^ 62) ≤ hi ∧ hi < 2 ^ 62 then .ok (.rng lo (hi - lo).toNat) M else .bad
  | _ => .bad
def iRngA (f : EF) : EI := fun τ M => (f τ M).bind srcR
theorem ai_rngV {tg : Expr} (h : AE X W l f) : AI X W tg l (iRngA f) := (RV.pi_rngV h).pre fun σ H R h => by
  obtain ⟨τ, M, ρ, rs, rm, r⟩ := h
  unfold iRngA at r
  refine ⟨τ, M, ρ, rs, rm, ?_⟩
  cases e : f τ M with
  | ok a M1 =>
    rw [e] at r
    intro v H1 ρ1 x g m i
    have r : RE (X.gx W.Tb) W σ ρ H (relJ (X.am W.Tb)) (srcR a M1) R := r
    unfold srcR at r
    split at r
    · split at r
      · rename_i hz
        cases i with
        | rng ha => exact ⟨_, _, _, rfl, ha, hz.1, hz.2.1, hz.2.2.1, hz.2.2.2, RE.okv r x g m srcJ_rng⟩
      · exact r.elim
    · exact r.elim
  | ex en M1 => rw [e] at r; exact r
  | bad => rw [e] at r; exact r
end
section
variable {τ : Sl} {M : Store} {f : EF} {P : Src → Store → Prop}
end
end AB
/-! AB47: break and continue -/
namespace AB
open PySem PySem.Spec PyProof.Rows L2
def sBreak : SF := fun τ M => .bk τ M
def sContinue : SF := fun τ M => .ct τ M
section
variable {X : Cx} {W : WR} {pos : Pos}
theorem as_break : AS X W (.Break pos) sBreak := ps_break.pre fun D σ H h => by
  obtain ⟨τ, M, ρ, rs, rm, r⟩ := h
  exact r _ _ ρ (.refl _) (.refl _) rm rs
theorem as_continue : AS X W (.Continue pos) sContinue := ps_continue.pre fun D σ H h => by
  obtain ⟨τ, M, ρ, rs, rm, r⟩ := h
  exact r _ _ ρ (.refl _) (.refl _) rm rs
end
section
variable {α : Type} {τ : Sl} {M : Store} {N B C : Sl → Store → Prop} {R : A → Store → Prop}
end
end AB
/-! AB48: min of a list, its key a lambda -/
namespace MK
open PySem PySem.Spec PyProof.Rows L2 AB
variable {X : Cx} {pins : List (Addr × Obj)} {σ : L2.St} {H : Hp} {s : Shared}
/-- what the walk and min's own list may have turned -/
theorem inv_moved {ch : List Addr} {h' : Heap} {t' : Nat} (I : Inv X pins σ H s) (hf : ∀ b ∈ ch, FpOk X pins H b) (k : ∀ b o, b ∉ ch → s.heap.get? b = some o → h'.get? b = some o) :
    Inv X pins σ H { s with heap := h', toks := t' } := by
  have nit : ∀ b u, H b = some u → b ∉ ch := fun b u e z => by rw [(hf b z).1] at e; cases e
  refine I.step (g' := s.gens) (d' := s.drawn) (ch := ch) (fun b hb => ?_) (fun b o _ _ hc e _ => k b o hc e) (fun b o _ _ hc e _ => ⟨o.slots, k b o hc e⟩) (fun _ _ _ _ n => n)
    (fun b o hc e => ⟨o, k b o hc e⟩) (fun _ _ e => e) (fun _ _ _ e => e) (fun b ps e => ⟨#[], by rw [e]; simp⟩) (fun m hm => ?_) (fun b u e => ?_) I.bare
  · obtain ⟨f0, f1, f2, f3, f4, f5⟩ := hf b hb
    exact ⟨f3, f1, f4, f5⟩
  · obtain ⟨o, es, ep, ho, r⟩ := hm
    exact ⟨o, es, ep, k _ o (fun z => (hf _ z).2.1 rfl) ho, r⟩
  · refine (I.hok b u e).stay (fun c v hc q => k c v ?_ q) (fun _ q => q) fun _ _ q => q
    rcases hc with z | z
    · rw [z]; exact nit b u e
    · exact nit c _ z
theorem min_key_run {a f c' : Addr} {oa : Obj} {vs : List V} {Q : VK} {params : Arguments} {body : Expr} {scope : Scope} {pm ctv : Value} (I : Inv X pins σ H s) (hh : X.A.handled = none) (hfz : H a = some (.frz oa (.lst vs))) (hne : 0 < vs.length)
    (la : LamAt X s H params body scope f c' pm ctv) (Jp : Hp → Prop) (kf : Nat → Int) (hJ : Jp H) (hJc : ∀ H', Jp H' → H' a = some (.frz oa (.lst vs)) ∧ H' c' = some (LamX.CodeO c' (X.env.qual ++ "<lambda>")))
    (turn : ∀ (i : Nat) (x : V) (H' : Hp) (s' : Shared) (u : Value), vs[i]? = some x → RelV x u → Inv X pins σ H' s' → Jp H' → LamAt X s' H' params body scope f c' pm ctv →
      codeAny (model X.prog X.w) X.A.in1 (.call (.ref f) ⟨[u], []⟩) (CR (L2.CX X.prog X.w) X.stack X.prog X.w H' s' (fun v H2 => v = .int (kf i) ∧ Jp H2) (fun _ _ _ => False)) s')
    (hQ : ∀ x H', vs[argBest (fun i j => decide (kf i < kf j)) (vs.length - 1)]? = some x → Jp H' → Q x H') :
    wpAny (model X.prog X.w) X.A (call (.builtin "min") [.ref a] [(Str.ofString "key", .ref f)]) (EP X pins σ Q) X.xe s := by
  obtain ⟨hf, hfn, hfr, hco⟩ := la
  obtain ⟨its, rv, pl, hz⟩ := I.list (a := a) (xs := vs) (.inl (.inr ⟨oa, hfz⟩))
  have hoa : s.heap.get? a = some oa := (I.hok a _ hfz).1
  have lst : s.heap.IsList a its.toArray := pl.isList
  have lstAt : ∀ {H' : Hp} {s' : Shared}, Inv X pins σ H' s' → H' a = some (.frz oa (.lst vs)) → s'.heap.IsList a its.toArray := fun {H' s'} I' e => by
    refine lst.at fun o ho => ?_
    rw [hoa] at ho
    cases ho
    exact (I'.hok a _ e).1
  have hlen : its.toArray.size = vs.length := by rw [List.size_toArray]; exact rv.length.symm
  have halt : a < s.heap.objs.size := Heap.lt_size hoa
  have hflt : f < s.heap.objs.size := Heap.lt_size hf
  refine call_min_walkK (x := .ref a) (q := f) (wpAny_pyIter_list lst ?_)
  have I2 : Inv X pins σ H { s with heap := s.heap.push { cls := .type "list_iterator", data := .fields #[.ref a, .int 0 0] } } := I.kept (t' := s.toks) fun b o e => Heap.get?_push_of_some _ e
  have fI : FpOk X pins H s.heap.objs.size := I.fpOk (Nat.le_refl _) (I.hok.fresh (Nat.le_refl _))
  have hS : (s.heap.push { cls := .type "list_iterator", data := .fields #[.ref a, .int 0 0] }).objs.size = s.heap.objs.size + 1 := size_push' ..
  have fS : FpOk X pins H (s.heap.objs.size + 1) := I.fpOk (Nat.le_succ _) (I.hok.fresh (Nat.le_succ _))
  have W := (Walks.list (prog := X.prog) (w := X.w) (A := X.A.in1) hh s.heap.objs.size a (Nat.ne_of_lt halt) its.toArray).toS
  have cn : ∀ b, FpOk X pins H b → ∀ {H'}, H' b = none → FpOk X pins H' b := fun b fb {H'} e => ⟨e, fb.2⟩
  refine ⟨s.heap.objs.size, _, _, _, _, _, _, fun s' => ∃ H', Inv X pins σ H' s' ∧ Jp H' ∧ s'.heap.get? f = some (PySem.W.kla_obj "<lambda>" (X.env.qual ++ "<lambda>") params body scope (cloFrom X.env.cells scope.names []) pm c' ctv) ∧ H' f = none ∧ H' (s.heap.objs.size + 1) = none ∧ H' s.heap.objs.size = none,
    fun i v _ => ∃ t, v = .int (kf i) t, fun i j => decide (kf i < kf j), rfl, W, ⟨⟨_, Heap.get?_push_size _ rfl, rfl, rfl⟩, lst.push _⟩, fun b hb => ?_, by rw [hlen]; exact hne, ?_, ⟨H, I2, hJ, Heap.get?_push_of_some _ hf, hfn, fS.1, fI.1⟩, fun v s' hP hJ' => ?_⟩
  · show b < (s.heap.push _).objs.size
    rw [hS]
    rcases List.mem_cons.mp hb with rfl | hb
    · exact Nat.lt_succ_self _
    · rw [List.mem_singleton.mp hb]
      exact Nat.lt_succ_of_lt halt
  · show KeyRun X.prog X.w X.A.in1 (.ref f) .Lt (s.heap.push { cls := .type "list_iterator", data := .fields #[.ref a, .int 0 0] }).objs.size _ _ _ _ _ _ _ _
    rw [hS]
    refine ⟨fun s1 s2 hJ1 hm => ?_, fun _ _ _ _ hv _ => hv, fun i v s1 o Q1 E1 hi hP hJ1 hst hSo fin => ?_, fun i j ki kj s1 Q1 E1 _ hki hkj q => ?_⟩
    · obtain ⟨H', I', j', f1, f2, f3, f4⟩ := hJ1
      obtain ⟨hp, gg, dd, tt, oo⟩ := s2
      obtain ⟨m1, m2, m3, m4, m5⟩ := hm
      dsimp only at m1 m2 m3 m4 m5
      subst m2 m3 m4
      have I3 := inv_moved (t' := tt) (ch := [s.heap.objs.size + 1, s.heap.objs.size]) I' (fun b hb => by
        rcases List.mem_cons.mp hb with rfl | hb
        · exact cn _ fS f3
        · rw [List.mem_singleton.mp hb]; exact cn _ fI f4) m1
      refine ⟨H', I3, j', m1 f _ (fun z => ?_) f1, f2, f3, f4⟩
      rcases List.mem_cons.mp z with z | z
      · exact Nat.ne_of_lt (Nat.lt_succ_of_lt hflt) z
      · exact Nat.ne_of_lt hflt (List.mem_singleton.mp z)
    · obtain ⟨H', I', j', f1, f2, f3, f4⟩ := hJ1
      obtain ⟨hit, _⟩ := hst
      have hi' : i < its.length := by simpa using hi
      have hv : its[i]? = some v := by simpa using hP
      obtain ⟨x, hx, rx⟩ : ∃ x, vs[i]? = some x ∧ RelV x v := by
        have hi2 : i < vs.length := by rw [rv.length]; exact hi'
        obtain ⟨u, hu, ru⟩ := rv.get (List.getElem?_eq_getElem hi2)
        rw [hv] at hu
        cases hu
        exact ⟨_, List.getElem?_eq_getElem hi2, ru⟩
      have jc := hJc H' j'
      refine wpAny_call (codeAny_mono (turn i x H' s1 v hx rx I' j' ⟨f1, f2, hfr, jc.2⟩) fun r s2 hq => ?_)
      cases r with
      | error e =>
        obtain ⟨_, _, _, _, _, _, _, _, _, _, _, _, hF⟩ := hq
        exact hF.elim
      | ok fl =>
        cases fl with
        | ret u =>
          obtain ⟨v2, H2, os, bare, un, hok, r2, e2, j2⟩ := hq
          subst e2
          obtain ⟨hh2, g2, d2, t2, os'⟩ := s2
          obtain rfl : os' = s1.os := os
          have I2' : Inv X pins σ H2 { s1 with heap := hh2, gens := g2, drawn := d2, toks := t2 } := I'.call (ch := []) un hok bare (fun b z => absurd z (by simp))
          obtain ⟨oi, hoi, hci, hdi⟩ := hit
          have nfr : ∀ b, s.heap.objs.size ≤ b → b ∉ frs X.stack := fun b hb z => by
            rcases List.mem_cons.mp (I.stkSub b z) with e | e
            · have h1 := I.lt; rw [← e] at h1; exact absurd h1 (Nat.not_lt.mpr hb)
            · exact I.nofs hb e
          refine fin u _ ⟨H2, I2', j2, un.keep f _ f1 f2 hfr (by simp), un.free f _ f1 f2 (by simp), un.free _ _ hSo f3 (by simp), un.free _ _ hoi f4 (by simp)⟩ ⟨⟨oi, un.keep _ _ hoi f4 (nfr _ (Nat.le_refl _)) (by simp), hci, hdi⟩, lstAt I2' (hJc _ j2).1⟩ (un.keep _ _ hSo f3 (nfr _ (Nat.le_succ _)) (by simp)) r2 fun _ _ h => h
        | next => exact False.elim hq
        | brk => exact False.elim hq
        | cont => exact False.elim hq
    · exact CmpOf.ints_lt (prog := X.prog) (w := X.w) (A := X.A.in1) (P := fun i v => ∃ t, v = .int (kf i) t) kf (fun i v h => h) i j ki kj s1 Q1 E1 hki hkj q
  · obtain ⟨H', I', j', _⟩ := hJ'
    have hP : its[argBest (fun i j => decide (kf i < kf j)) (vs.length - 1)]? = some v := by
      have h := hP
      rw [hlen] at h
      simpa using h
    obtain ⟨x, hx, rx⟩ : ∃ x, vs[argBest (fun i j => decide (kf i < kf j)) (vs.length - 1)]? = some x ∧ RelV x v := by
      have hi1 := (List.getElem?_eq_some_iff.mp hP).1
      have hi2 : argBest (fun i j => decide (kf i < kf j)) (vs.length - 1) < vs.length := Nat.lt_of_lt_of_eq hi1 rv.length.symm
      obtain ⟨u, hu, ru⟩ := rv.get (List.getElem?_eq_getElem hi2)
      rw [hP] at hu
      cases hu
      exact ⟨_, List.getElem?_eq_getElem hi2, ru⟩
    exact ⟨x, H', I', rx, hQ x H' hx j'⟩
end MK
/-! AB49: min(l, key=lambda x: ..) -/
namespace AB
open PySem PySem.Spec PyProof.Rows L2
section
variable {ρ : List Addr} {H : Hp} {a : Addr} {u : HO} {od : Obj} [NoTup u]
theorem RC.unl {w : Amb} {b : Addr} {d : Cell} (h : H a = some (.frz od u)) (hb : b ≠ a) (r : RC w ρ H b d) : RC w ρ (upd H a u) b d := by
  have eb : upd H a u b = H b := upd_ne hb
  cases d with
  | lst xs => obtain ⟨vs, e, i⟩ := r; exact ⟨vs, eb.trans e, i.unl h⟩
  | frz xs =>
    obtain ⟨vs, e, i⟩ := r
    refine ⟨vs, ?_, i.unl h⟩
    rcases e with (⟨o, e⟩ | e) | e
    · exact .inl (.inl ⟨o, eb.trans e⟩)
    · exact .inl (.inr (eb.trans e))
    · exact .inr e
  | dK xs => obtain ⟨vs, e, i⟩ := r; exact ⟨vs, eb.trans e, i.unl h⟩
  | dT xs => obtain ⟨vs, e, i⟩ := r; exact ⟨vs, eb.trans e, i.unl h⟩
  | dN xs => obtain ⟨bs, vs, e, i, j, d⟩ := r; exact ⟨bs, vs, eb.trans e, i.unl h, j.unl h, d⟩
  | st xs => obtain ⟨S, e, i⟩ := r; exact ⟨S, eb.trans e, i⟩
  | obj => trivial
  | fk xs => obtain ⟨o, vs, e, i⟩ := r; exact ⟨o, vs, eb.trans e, i.unl h⟩
  | fT xs => obtain ⟨o, vs, e, i⟩ := r; exact ⟨o, vs, eb.trans e, i.unl h⟩
  | xd xs => obtain ⟨vs, e, i⟩ := r; exact ⟨vs, eb.trans e, i.unl h⟩
  | ins C fs => obtain ⟨Ca, dx, vs, h0, e, e2, i⟩ := r; exact ⟨Ca, dx, vs, h0, eb.trans e, by rw [upd_ne (fun z => by rw [z, h] at e2; cases e2)]; exact e2, i.unl h⟩
/-- a list that was locked is let go; the store is what it was -/
theorem RM.unlL {w : Amb} {H1 : Hp} {M : Store} {l : Nat} {xs : List A} {vs : List V} {c : Cell} (m1 : RM w ρ H1 M) (hl : ρ[l]? = some a) (hc : M[l]? = some (.lst xs)) (m : RM w ρ H (M.set l c)) (h : H a = some (.frz od (.lst vs))) (i : IsAll ρ H xs vs) (g : Grow H1 (upd H a (.lst vs))) : RM w ρ (upd H a (.lst vs)) M := by
  refine ⟨m1.len, m1.nd, fun j b d h1 h2 => ?_, ?_, fun j k b d ys h1 h2 h3 h4 h5 => ?_, m1.fu⟩
  · by_cases hb : b = a
    · subst hb
      cases hd : d.isM with
      | true =>
        have e := m1.nd j l b d _ h1 hl h2 hc hd rfl
        subst e
        rw [hc] at h2
        cases h2
        exact ⟨vs, upd_same, i.unl h⟩
      | false =>
        cases d with
        | frz ys =>
          obtain ⟨ws, f1, f2⟩ := m1.fz l j b _ ys hl h1 hc h2 rfl
          exact ⟨ws, .inr f1, f2.mono (.refl _) g⟩
        | obj => trivial
        | fk ys =>
          obtain ⟨o1, v1, e1, _⟩ := m1.at_ j b _ h1 h2
          obtain ⟨v2, e2, _⟩ := m1.at_ l b _ hl hc
          rw [e1] at e2; cases e2
        | fT ys =>
          obtain ⟨o1, v1, e1, _⟩ := m1.at_ j b _ h1 h2
          obtain ⟨v2, e2, _⟩ := m1.at_ l b _ hl hc
          rw [e1] at e2; cases e2
        | _ => cases hd
    · have hj : j ≠ l := fun z => by subst z; rw [hl] at h1; exact hb (Option.some.inj h1).symm
      have h2' : (M.set l c)[j]? = some d := by rw [List.getElem?_set_ne (Ne.symm hj)]; exact h2
      exact (m.at_ j b d h1 h2').unl h hb
  · intro p hp
    obtain ⟨ps, t1, t2, t3⟩ := m.tabs p hp
    refine ⟨ps, ?_, t2, fun pos cv hcv => ?_⟩
    · rw [upd_ne (fun z => by rw [z, h] at t1; cases t1)]; exact t1
    · obtain ⟨c, e1, e2⟩ := t3 pos cv hcv
      refine ⟨c, e1, ?_⟩
      rw [upd_ne (fun z => by
        rw [z, h] at e2
        have := Option.some.inj e2
        unfold LamX.CodeO at this
        cases this)]
      exact e2
  · obtain ⟨ws, f1, f2⟩ := m1.fz j k b d ys h1 h2 h3 h4 h5
    exact ⟨ws, f1, f2.mono (.refl _) g⟩
end
open Classical in
/-- the first of the items with the least key -/
noncomputable def minK (flam : EF) (τ : Sl) (a : A) (M : Store) : EO A := match a with
  | .lst l => match M[l]? with
    | some (.lst xs) => if h : xs ≠ [] ∧ ∃ kf : Nat → Int, ∀ i x, xs[i]? = some x → flam (τ ++ [some x]) (M.set l (.frz xs)) = .ok (.int (kf i)) (M.set l (.frz xs)) then
        match xs[argBest (fun i j => decide (Classical.choose h.2 i < Classical.choose h.2 j)) (xs.length - 1)]? with
        | some x => .ok x M
        | none => .bad
      else .bad
    | _ => .bad
  | _ => .bad
noncomputable def eMinK (f flam : EF) : EF := fun τ M => (f τ M).bind (minK flam τ)
section
variable {X : Cx} {W : WR} {p pos kpos lpos : Pos}
theorem ae_minK {e : Expr} {f flam : EF} {params : Arguments} {body : Expr} {scope : Scope} {p1 : Str} {k kl : Nat} {c P : Addr} (hm : X.mg "min" = none) (hr : Room k X.A) (he : AE X W e f) (LI : LamI X W.Tb c P) (L : LamP X.env.scope scope [p1])
    (hbody : ∀ (A : Around) (outer : List Env) (s s' : Shared) (H : Hp) (E : XK) (f c' : Addr), Room kl (A.deeper (LamX.lamEnv X scope s'.heap.objs.size f c')) → AE (lamCxP X A outer s' H E scope f c' [p1]) (wE E W.Tb) body flam)
    (hdis : ∀ x ∈ ([p1] : List Str), x ∉ X.N) (hk : kl + 2 ≤ k := by omega)
    (hbind : ∀ (qq : Str) (cl : List (Str × Addr)) (pm cv ctv : Value) (us : List Value), us.length = ([p1] : List Str).length → bindArgs (PySem.W.kla_fn "<lambda>" qq params body scope cl pm cv ctv) ⟨us, []⟩ = pure (([p1] : List Str).zip us))
    (hg : Gl X "min" := by rfl) (hdef : defaultsOf params X.env = ([], []) := by rfl) (hst : backTo pos (starEach [e] X.env) = (false, eval e X.env) :: backTo pos (starEach [] X.env) := by rfl) (hpl : (backTo pos (starEach [e] X.env)).any (·.1) = false := by rfl)
    (hall : (backToKw pos (keywordEach [⟨some "key", .Lambda params body scope lpos, kpos⟩] X.env)).all (·.1.isSome) = true := by rfl) (hnone : (backToKw pos (keywordEach [⟨some "key", .Lambda params body scope lpos, kpos⟩] X.env)).any (·.1.isNone) = false := by rfl)
    (hks : (backToKw pos (keywordEach [⟨some "key", .Lambda params body scope lpos, kpos⟩] X.env)).filterMap (·.1) = [("key" : Str)] := by rfl)
    (hs : starEach [e] X.env = (false, eval e X.env) :: starEach [] X.env := by rfl) :
    AE X W (.Call (.Name "min" p) [e] [⟨some "key", .Lambda params body scope lpos, kpos⟩] pos) (eMinK f flam) := by
  refine ⟨fun pins s σ H Q I h => ?_⟩
  refine wpAny_Call_Name_kw (ld_blt I hg hm (u := .builtin "min") (by kernel_rfl) ?_ (by decide) (by decide))
  have h2 : tG (X.gx W.Tb) W Is f σ H (fun v H1 => ∃ τ M ρ a, RS W ρ H1 τ σ ∧ RM (X.am W.Tb) ρ H1 M ∧ Is ρ H1 a v ∧ RE (X.gx W.Tb) W σ ρ H1 Is (minK flam τ a M) Q) := by
    obtain ⟨τ, M, ρ, rs, rm, r⟩ := h
    refine ⟨τ, M, ρ, rs, rm, ?_⟩
    unfold eMinK at r
    cases ef : f τ M with
    | ok a M1 =>
      rw [ef] at r
      exact fun v H1 ρ1 x1 g1 m1 i1 => ⟨τ, M1, ρ1, a, rs.mono x1 g1, m1, i1, RE.mono r x1 g1⟩
    | ex en M1 => rw [ef] at r; exact r
    | bad => rw [ef] at r; exact r
  refine PyProof.Rows.callWith_kw (args_cons (thn (he.run pins s σ H _ I h2) fun u1 s1 ⟨v, H1, I1, r1, τ, M, ρ, a, rs, rm, ia, r⟩ => args_nil ?_) hs) hst hpl hall hnone
  rw [hks]
  show wpAny _ _ (evalAll [(do let v ← eval (.Lambda params body scope lpos) X.env; standAt pos; pure v)]) _ _ _
  refine wpAny_evalAll_cons (wpAny_bind (LamX.lam_make2 I1 LI.tb LI.code LI.mem LI.un rm.tabs hdef (L.has I1.ok) fun f c' pm ctv H2 s2 I2 eN T1 hf hfn hfr hco => wpAny_bind (wpAny_standAt (wpAny_pure (wpAny_evalAll_nil ?_)))))
  unfold minK at r
  split at r
  · rename_i l
    split at r
    · rename_i xs ec
      split at r
      · rename_i hcond
        cases ia with
        | @lst _ al hal =>
        obtain rfl : u1 = Value.ref al := r1
        have g12 : Grow H1 H2 := .ofT eN
        have m2 : RM (X.am W.Tb) ρ H2 M := rm.growT eN T1
        obtain ⟨vs, hH2, iis⟩ := m2.at_ _ _ _ hal ec
        obtain ⟨od, I3⟩ := I2.lock hH2 trivial
        have g23 : Grow H2 (upd H2 al (.frz od (.lst vs))) := m2.growSet hal ec
        have m3 : RM (X.am W.Tb) ρ (upd H2 al (.frz od (.lst vs))) (M.set l (.frz xs)) := m2.set hal ec ⟨vs, .inl (.inl ⟨od, upd_same⟩), iis.mono (.refl _) g23⟩
        have nfa : f ≠ al := fun z => by rw [z, hH2] at hfn; cases hfn
        have nca : c' ≠ al := fun z => by
          rw [z, hH2] at hco
          have := Option.some.inj hco
          unfold LamX.CodeO at this
          cases this
        have la : LamAt X s2 (upd H2 al (.frz od (.lst vs))) params body scope f c' pm ctv := ⟨hf, by rw [upd_ne nfa]; exact hfn, hfr, by rw [upd_ne nca]; exact hco⟩
        have hkf := Classical.choose_spec hcond.2
        generalize Classical.choose hcond.2 = kf at hkf r
        have hvl := iis.length
        have hne : 0 < vs.length := by rw [← hvl]; exact List.length_pos_iff.mpr hcond.1
        refine wpAny_mono (MK.min_key_run I3 hr.hd upd_same hne la (fun H' => Grow (upd H2 al (.frz od (.lst vs))) H' ∧ RM (X.am W.Tb) ρ H' (M.set l (.frz xs))) kf ⟨.refl _, m3⟩ (fun H' j => ⟨j.1 _ _ (.frz _ _) upd_same, j.1 _ _ (.code _ _) (by rw [upd_ne nca]; exact hco)⟩)
          (Q := fun x H' => vs[argBest (fun i j => decide (kf i < kf j)) (vs.length - 1)]? = some x ∧ Grow (upd H2 al (.frz od (.lst vs))) H' ∧ RM (X.am W.Tb) ρ H' (M.set l (.frz xs))) ?_ fun x H' hx j => ⟨hx, j⟩) (fun v s3 hq => ?_) fun _ _ e => e
        · intro i x H' s' u hx ru I' j' la'
          obtain ⟨g3, m'⟩ := j'
          obtain ⟨hf', hfn', hfr', hco'⟩ := la'
          obtain ⟨⟨oc, ws, t, hoc, hdc, hvc⟩, _, _⟩ := I'.hok c' _ hco'
          have hr1 : Room (kl + 1) X.A.in1 := (hr.mono (show kl + 1 + 1 ≤ k by omega)).in1
          refine PySem.W.kla_callFunE hr1.depth hf' rfl L.co L.gen rfl ⟨c', oc, ws, t, rfl, hoc, hdc, hvc⟩ ?_
          rw [hbind _ _ _ _ _ [u] rfl]
          refine wpAny_pure (wpAny_newFunctionEnv (fun y hy => L.cell y hy) (fun y hy => L.par _ (List.of_mem_zip (show (y.1, y.2) ∈ ([p1] : List Str).zip [u] from hy)).1) (fun h₁ hns hsb => ⟨I'.nolimit.fresh _ hsb, ?_⟩) L.kind)
          show codeAny _ _ (.expr body (LamX.lamEnv X scope s'.heap.objs.size f c')) _ _
          have kp : ∀ b o, s'.heap.get? b = some o → h₁.get? b = some o := fun b o e => hsb.extBut b o (Nat.ne_of_lt (Heap.lt_size e)) (Heap.get?_push_of_some _ e)
          have J : Inv (lamCxP X X.A.in1 X.stack s' H' (fun _ _ _ => False) scope f c' [p1]) [] (σ ++ [x].map some) H' { s' with heap := h₁, toks := s'.toks + (([p1] : List Str).zip [u]).length } :=
            lam_startP I' L I'.env0.in1 hr1.hd Un.refl hdis rfl (.cons ru .nil) hns kp
          obtain ⟨y, hy, iy⟩ := iis.getV hx
          have g1 : Grow H1 H' := (g12.trans g23).trans g3
          refine PySem.W.kla_codeExpr (wpAny_mono ((hbody _ _ s' s' H' (fun _ _ _ => False) f c' (hr1.deeper _)).run [] _ _ H' (fun v H2' => v = .int (kf i) ∧ Grow (upd H2 al (.frz od (.lst vs))) H2' ∧ RM (X.am W.Tb) ρ H2' (M.set l (.frz xs))) J ?_) (fun v s'' hq => ?_) fun e s'' hq => hq)
          · refine ⟨τ ++ [y].map some, M.set l (.frz xs), ρ, RS.base (RS0.app (rs.s.mono (.refl _) g1) (.cons (iy.mono (.refl _) (g23.trans g3)) .nil)), m', ?_⟩
            rw [show [y].map some = [some y] from rfl, hkf i y hy]
            intro b H4 ρ4 x4 g4 m4 i4
            cases i4
            obtain ⟨t, rfl⟩ := x4
            have ht : t = [] := by
              have h1 := m4.len
              have h2 := m'.len
              rw [List.length_append, h2] at h1
              exact List.length_eq_zero_iff.mp (by omega)
            subst ht
            rw [List.append_nil] at m4
            exact ⟨rfl, g3.trans g4, m4⟩
          · obtain ⟨w', H4, J', rv, q⟩ := hq
            exact ⟨w', H4, J'.os, J'.bare, J'.base, J'.hok, rv, q⟩
        · obtain ⟨x, H', I', rx, hx, g3, m'⟩ := hq
          have hloc : H' al = some (.frz od (.lst vs)) := g3 _ _ (.frz _ _) upd_same
          rw [← hvl] at hx
          obtain ⟨y, hy, iy⟩ := iis.getV hx
          rw [hy] at r
          have gg : Grow H1 (upd H' al (.lst vs)) := fun b u iu e => by
            have e2 := g12 b u iu e
            have nb : b ≠ al := fun z => by
              rw [z, hH2] at e2
              cases e2
              generalize hz : HO.lst vs = z at iu
              cases iu with
              | code c q => unfold LamX.CodeO at hz; cases hz
              | _ => cases hz
            rw [upd_ne nb]
            exact g3 b u iu (by rw [upd_ne nb]; exact e2)
          have mm : RM (X.am W.Tb) ρ (upd H' al (.lst vs)) M := rm.unlL hal ec m' hloc (iis.mono (.refl _) (g23.trans g3)) gg
          exact ⟨x, _, I'.unlock hloc (I2.nofrz hH2 trivial), rx, r x _ ρ (.refl _) gg mm ((iy.mono (.refl _) (g23.trans g3)).unl hloc)⟩
      · exact r.elim
    · exact r.elim
  · exact r.elim
end
section
variable {τ : Sl} {M : Store} {f flam : EF} {P : A → Store → Prop}
end
end AB
/-! AB50: setdefault of a dict by ints and texts; list(d) of one -/
namespace AB
open PySem PySem.Spec PyProof.Rows L2
def setdK (l : Nat) (k v : A) (M : Store) : EO A := match M[l]? with
  | some (.dK kvs) => if kvs.length < sizeLine then match key? k with
      | some j => match valA kvs j with
        | some z => .ok z M
        | none => .ok v (M.set l (.dK (putA kvs j v)))
      | none => .bad
    else .bad
  | _ => .bad
def isDK (M : Store) (l : Nat) : Bool := match M[l]? with
  | some (.dK _) => true
  | _ => false
theorem isDK_ok {w : Amb} {ρ : List Addr} {H : Hp} {M : Store} (m : RM w ρ H M) {l : Nat} {b : Addr} (hb : ρ[l]? = some b) (h : isDK M l = true) : IsD H b := by
  unfold isDK at h
  split at h
  · rename_i kvs e
    obtain ⟨vs, h1, _⟩ := m.at_ l b _ hb e
    exact .inl ⟨_, .inl h1⟩
  · cases h
def setd2 (fk fv : EF) (τ : Sl) (d : A) (M1 : Store) : EO A := match d with
  | .dct l => if isDK M1 l = true then (fk τ M1).bind fun k M2 => (fv τ M2).bind (setdK l k) else .bad
  | _ => .bad
def eSetdK (fd fk fv : EF) : EF := fun τ M => (fd τ M).bind (setd2 fk fv τ)
section
variable {X : Cx} {W : WR} {pos : Pos}
theorem ae_setdK {o e v : Expr} {fd fe fv : EF} {apos cpos : Pos} (ho : AE X W o fd) (he : AE X W e fe) (hf : AE X W v fv) (m : M2 X o "setdefault" apos e v cpos := by exact ⟨rfl, rfl, rfl, rfl⟩) : AE X W (.Call (.Attribute o "setdefault" apos) [e, v] [] cpos) (eSetdK fd fe fv) := (pe_dsetd ho he hf m).pre fun σ H Q h => by
  refine (seqG Is h).imp fun x H1 h1 => ?_
  obtain ⟨τ, M, ρ, c, rs, rm, i, r⟩ := h1
  unfold setd2 at r
  cases c with
  | dct l =>
    cases i with
    | @dct _ a hl =>
      dsimp only at r
      split at r
      · rename_i hd
        refine ⟨a, rfl, isDK_ok rm hl hd, τ, M, ρ, rs, rm, ?_⟩
        cases e1 : fe τ M with
        | ok k M2 =>
          rw [e1] at r
          intro y H2 ρ2 x2 g2 m2 i2
          refine ⟨τ, M2, ρ2, rs.mono x2 g2, m2, ?_⟩
          have r : RE (X.gx W.Tb) W σ ρ H1 Is ((fv τ M2).bind (setdK l k)) Q := r
          cases e2 : fv τ M2 with
          | ok v M3 =>
            rw [e2] at r
            intro z H3 ρ3 x3 g3 m3 i3
            have r : RE (X.gx W.Tb) W σ ρ H1 Is (setdK l k v M3) Q := r
            unfold setdK at r
            split at r
            · rename_i kvs ec
              split at r
              · rename_i hz
                split at r
                · rename_i j ek
                  have hl3 := (x2.trans x3).get hl
                  obtain ⟨vs, hH, ivs⟩ := m3.at_ l a _ hl3 ec
                  have hlen : ((kvs.map (·.1)).zip vs).length < sizeLine := by
                    have := ivs.length
                    simp only [List.length_zip, List.length_map] at this ⊢; omega
                  refine ⟨_, j, hH, key_ok (i2.mono x3 g3) ek, hlen, fun v0 hv => ?_, fun hn => ?_⟩
                  · rcases valA_ok (H := H3) j ivs with ⟨h1, h2⟩ | ⟨a', v', h1, h2, h3⟩
                    · rw [h2] at hv; cases hv
                    · rw [h2] at hv; cases hv
                      rw [h1] at r
                      exact r.okv (x2.trans x3) (g2.trans g3) m3 h3
                  · rcases valA_ok (H := H3) j ivs with ⟨h1, h2⟩ | ⟨a', v', h1, h2, h3⟩
                    · rw [h1] at r
                      obtain ⟨ws, p1, p2⟩ := put_ok j i3 ivs
                      rw [p1]
                      have g := m3.growSet (o := .dK (((putA kvs j v).map (·.1)).zip ws)) hl3 ec
                      exact r.okv (x2.trans x3) ((g2.trans g3).trans g) (m3.set hl3 ec ⟨ws, upd_same, p2.mono (.refl _) g⟩) (i3.mono (.refl _) g)
                    · rw [h2] at hn; cases hn
                · exact r.elim
              · exact r.elim
            · exact r.elim
          | ex en M3 => rw [e2] at r; exact RE.mono (o := EO.ex en M3) r x2 g2
          | bad => rw [e2] at r; exact r.elim
        | ex en M2 => rw [e1] at r; exact r
        | bad => rw [e1] at r; exact r.elim
      · exact r.elim
  | _ => exact r.elim
/-- list(d) -/
def oListD : On := fun as M => match as with
  | [.dct d] => match M[d]? with
    | some (.dK kvs) => some (.lst M.length, M ++ [.lst (kvs.map fun kv => keyA kv.1)])
    | _ => none
  | _ => none
theorem keysA2 {ρ : List Addr} {H : Hp} : ∀ kvs : List (Key × A), IsAll ρ H (kvs.map fun kv => keyA kv.1) (kvs.map fun kv => kV kv.1)
  | [] => .nil
  | kv :: kvs => .cons (keyA_is kv.1) (keysA2 kvs)
theorem cr_listD (hcalm : X.calm = true) : CallR X (.type "list") (rn (X.am W.Tb) oListD) := by
  intro pins s σ H xs us Q I r h
  obtain ⟨as, M, ρ, is, m, ro⟩ := h
  unfold oListD at ro
  split at ro
  · rename_i d
    split at ro
    · rename_i kvs ec
      cases is with
      | cons i1 is =>
        cases is
        cases i1 with
        | @dct _ a hl =>
        obtain ⟨vs, hH, ivs⟩ := m.at_ _ _ _ hl ec
        refine call_listD hcalm pins s σ H _ us Q I r ⟨a, _, rfl, .inl hH, fun p hp => ?_⟩
        have hk : (((kvs.map (·.1)).zip vs).map fun kv => kV kv.1) = kvs.map fun kv => kV kv.1 := by
          have hlen : (kvs.map (·.1)).length = vs.length := by have := ivs.length; simpa using this
          have := congrArg (List.map kV) (map_zip_fst hlen)
          rw [List.map_map, List.map_map] at this
          exact this
        rw [hk]
        exact ro.newL m (keysA2 kvs) hp
    · exact ro.elim
  · exact ro.elim
end
section
variable {τ : Sl} {M : Store} {Q : A → Store → Prop}
end
end AB
/-! AB51: steps for comprehensions with tests, for over a dict -/
namespace AB
open PySem PySem.Spec PyProof.Rows L2
/-- any two-way store: all but what the loop changes stands -/
theorem Pre.len {M M' : Store} (p : Pre M M') : M.length ≤ M'.length := p.1
end AB
/-! AB52: x is True, x is not True -/
namespace AB
open PySem PySem.Spec PyProof.Rows L2
section
variable {X : Cx}
end
end AB
/-! AB53: list(e.keys()), sorted(d), sorted(set(tuple)), for k in e.keys() -/
namespace AB
open PySem PySem.Spec PyProof.Rows L2
section
variable {X : Cx} {W : WR} {pos : Pos} {e : Expr} {f : EF}
end
end AB
/-! AB54: for k in e.keys(): the dict is locked, and stays so -/
namespace AB
open PySem PySem.Spec PyProof.Rows L2
section
variable {X : Cx} {W : WR} {pos : Pos} {e tg : Expr} {f : EF}
end
section
variable {τ : Sl} {M : Store} {Q : A → Store → Prop} {P : Src → Store → Prop} {f : EF}
end
end AB
/-! AB55: try .. except X: without a name -/
namespace AB
open PySem PySem.Spec PyProof.Rows L2
def endO : SO → SO
  | .ex _ _ _ => .bad
  | o => o
def sTryO (xs : List (Str × Bool)) (body suite : SF) : SF := fun τ M => match body τ M with
  | .ex e τ1 M1 => match xs.lookup e.name with
    | some true => endO (suite τ1 M1)
    | some false => .ex e τ1 M1
    | none => .bad
  | o => o
section
variable {X : Cx} {W : WR} {pos : Pos}
theorem as_tryO {xK : Str} {cK : Value} {xs : List (Str × Bool)} {body suite : List Stmt} {b₀ : Stmt} {np pos' : Pos} {sb su : SF} (hs : X.stack = X.env :: X.outer) (hf : X.env.frame = some X.env.locals) (hc : Names X xK cK) (tk : Takes X W.w) (hx : ExTab X.K X.mg cK xs)
    (hb : ∀ (W' : WX) (pn : List (Addr × Obj)) (xe : Value → Shared → Prop), Takes (X.tr pn xe) W' → PassesOwn (model X.prog X.w) X.A X.env xe → ASs (X.tr pn xe) ⟨W', W.Tb, W.r, W.h⟩ body sb)
    (hsu : ∀ (a : Addr) (oe : Obj) (cls : Value) (d : Option Addr) (pn : List (Addr × Obj)) (r : List Addr) (h : Hp), Zc cls d oe → (∃ vs, oe.data = .fields vs) → ASs (X.suite a ((a, oe) :: pn)) ⟨fun _ _ _ _ => False, W.Tb, r, h⟩ (b₀ :: suite) su) :
    AS X W (.Try body [.ExceptHandler (some (.Name xK np)) none (b₀ :: suite) pos'] [] [] pos) (sTryO xs sb su) := by
  refine (ps_try_only (tb := fun W' => tS (X.gx W.Tb) ⟨W', W.Tb, W.r, W.h⟩ sb) (ts := fun a cls d D σ H => ∃ r h, tS (X.gx W.Tb) ⟨fun _ _ _ _ => False, W.Tb, r, h⟩ su D σ H) hs hf hc tk (fun W' pn xe t p => hb W' pn xe t p)
    (fun a oe cls d pn hz hf => ⟨fun pins s σ H D I h => by
      obtain ⟨r, h0, q⟩ := h
      exact (hsu a oe cls d pn r h0 hz hf).run pins s σ H D I q⟩)).pre fun D σ H h => ?_
  obtain ⟨τ, M, ρ, rs, rm, r⟩ := h
  refine ⟨τ, M, ρ, ⟨rs.ext, rs.grow, rs.s⟩, rm, ?_⟩
  unfold sTryO at r
  cases e0 : sb τ M with
  | nx τ1 M1 => rw [e0] at r; exact fun σ' H' ρ' x g m i => r σ' H' ρ' x g m ⟨i.ext, i.grow, i.s⟩
  | rt a M1 => rw [e0] at r; exact r
  | bk τ1 M1 => rw [e0] at r; exact fun σ' H' ρ' x g m i => r σ' H' ρ' x g m ⟨i.ext, i.grow, i.s⟩
  | ct τ1 M1 => rw [e0] at r; exact fun σ' H' ρ' x g m i => r σ' H' ρ' x g m ⟨i.ext, i.grow, i.s⟩
  | bad => rw [e0] at r; exact r
  | ex e τ1 M1 =>
    rw [e0] at r
    dsimp only at r
    intro cls d σ' H' ρ' x g m i' ix
    cases el : xs.lookup e.name with
    | none => rw [el] at r; exact r.elim
    | some b =>
      obtain ⟨C, hC, hcl, hdd⟩ := ix
      obtain ⟨C', hC', hex⟩ := hx _ _ el
      have hCC : C' = C := by
        have := hC'.symm.trans hC
        cases this; rfl
      subst hCC
      subst hcl
      refine ⟨b, hex, fun hb1 a na => ?_, fun hb0 => ?_⟩
      · subst hb1
        rw [el] at r
        dsimp only at r
        have r := RSO.mono r x g
        refine ⟨ρ', H', τ1, M1, ρ', ⟨.refl _, .refl _, i'.s⟩, m, ?_⟩
        have back : ∀ {ρ2 : List Addr} {H2 : Hp} {τ2 : Sl} {σ2 : L2.St}, Ext ρ' ρ2 → Grow H' H2 → RS0 ρ2 H2 τ2 σ2 → RS W ρ2 H2 τ2 σ2 := fun x2 g2 s2 => ⟨i'.ext.trans x2, i'.grow.trans g2, s2⟩
        cases e1 : su τ1 M1 with
        | nx τ2 M2 => rw [e1] at r; exact fun σ2 H2 ρ2 x2 g2 m2 i2 => r _ H2 ρ2 x2 g2 m2 (back x2 g2 i2.s)
        | rt a2 M2 => rw [e1] at r; exact fun v H2 ρ2 x2 g2 m2 i2 => r _ H2 ρ2 x2 g2 m2 i2
        | bk τ2 M2 => rw [e1] at r; exact fun σ2 H2 ρ2 x2 g2 m2 i2 => r _ H2 ρ2 x2 g2 m2 (back x2 g2 i2.s)
        | ct τ2 M2 => rw [e1] at r; exact fun σ2 H2 ρ2 x2 g2 m2 i2 => r _ H2 ρ2 x2 g2 m2 (back x2 g2 i2.s)
        | ex e2 τ2 M2 => rw [e1] at r; exact r.elim
        | bad => rw [e1] at r; exact r.elim
      · subst hb0
        rw [el] at r
        exact r (.ref C') d σ' H' ρ' x g m ⟨i'.ext, i'.grow, i'.s⟩ ⟨C', hC, rfl, hdd⟩
end
section
variable {τ : Sl} {M : Store} {N : Sl → Store → Prop} {R : A → Store → Prop}
end
end AB
/-! AB56: a written table from texts to numbers -/
namespace AB
open PySem PySem.Spec PyProof.Rows L2
section
variable {X : Cx} {W : WR} {pos : Pos} {b : Expr} {g : EF}
end
section
variable {τ : Sl} {M : Store} {Q : A → Store → Prop} {g : EF} {tbl : List (Str × Int)}
end
end AB
/-! AB57: min(xs, key=len) of a list of tuples -/
namespace MK
open PySem PySem.Spec PyProof.Rows L2 AB
variable {X : Cx} {pins : List (Addr × Obj)} {σ : L2.St} {H : Hp} {s : Shared}
theorem min_len_run {a : Addr} {vs : List V} {kf : Nat → Nat} {Q : VK} (I : Inv X pins σ H s) (hh : X.A.handled = none) (hH : SqL X.K H a vs) (hne : 0 < vs.length)
    (hk : ∀ i x, vs[i]? = some x → ∃ t ts, x = V.ref t ∧ SqT X.K H t ts ∧ ts.length = kf i)
    (hQ : ∀ x, vs[argBest (fun i j => decide ((kf i : Int) < (kf j : Int))) (vs.length - 1)]? = some x → Q x H) :
    wpAny (model X.prog X.w) X.A (call (.builtin "min") [.ref a] [(Str.ofString "key", .builtin "len")]) (EP X pins σ Q) X.xe s := by
  obtain ⟨its, rv, pl, hz⟩ := I.list hH
  have lst : s.heap.IsList a its.toArray := pl.isList
  obtain ⟨oa, hoa, hca⟩ := id lst
  have hlen : its.toArray.size = vs.length := by rw [List.size_toArray]; exact rv.length.symm
  have halt : a < s.heap.objs.size := Heap.lt_size hoa
  refine call_min_walkKB (x := .ref a) (q := "len") (wpAny_pyIter_list lst ?_)
  have I2 : Inv X pins σ H { s with heap := s.heap.push { cls := .type "list_iterator", data := .fields #[.ref a, .int 0 0] } } := I.kept (t' := s.toks) fun b o e => Heap.get?_push_of_some _ e
  have fI : FpOk X pins H s.heap.objs.size := I.fpOk (Nat.le_refl _) (I.hok.fresh (Nat.le_refl _))
  have hS : (s.heap.push { cls := .type "list_iterator", data := .fields #[.ref a, .int 0 0] }).objs.size = s.heap.objs.size + 1 := size_push' ..
  have fS : FpOk X pins H (s.heap.objs.size + 1) := I.fpOk (Nat.le_succ _) (I.hok.fresh (Nat.le_succ _))
  have W := (Walks.list (prog := X.prog) (w := X.w) (A := X.A.in1) hh s.heap.objs.size a (Nat.ne_of_lt halt) its.toArray).toS
  refine ⟨s.heap.objs.size, _, _, _, _, _, _, fun s' => Inv X pins σ H s', fun i v _ => ∃ t, v = .int (kf i : Int) t, fun i j => decide ((kf i : Int) < (kf j : Int)), rfl, W, ⟨⟨_, Heap.get?_push_size _ rfl, rfl, rfl⟩, lst.push _⟩, fun b hb => ?_, by rw [hlen]; exact hne, ?_, I2, fun v s' hP hJ' => ?_⟩
  · show b < (s.heap.push _).objs.size
    rw [hS]
    rcases List.mem_cons.mp hb with rfl | hb
    · exact Nat.lt_succ_self _
    · rw [List.mem_singleton.mp hb]
      exact Nat.lt_succ_of_lt halt
  · show KeyRun X.prog X.w X.A.in1 (.builtin "len") .Lt (s.heap.push { cls := .type "list_iterator", data := .fields #[.ref a, .int 0 0] }).objs.size _ _ _ _ _ _ _ _
    rw [hS]
    refine ⟨fun s1 s2 hJ1 hm => ?_, fun _ _ _ _ hv _ => hv, fun i v s1 o Q1 E1 hi hP hJ1 hst hSo fin => ?_, fun i j ki kj s1 Q1 E1 _ hki hkj q => ?_⟩
    · obtain ⟨hp, gg, dd, tt, oo⟩ := s2
      obtain ⟨m1, m2, m3, m4, m5⟩ := hm
      dsimp only at m1 m2 m3 m4 m5
      subst m2 m3 m4
      exact inv_moved (t' := tt) (ch := [s.heap.objs.size + 1, s.heap.objs.size]) hJ1 (fun b hb => by
        rcases List.mem_cons.mp hb with rfl | hb
        · exact fS
        · rw [List.mem_singleton.mp hb]; exact fI) m1
    · have hi' : i < its.length := by simpa using hi
      have hv : its[i]? = some v := by simpa using hP
      obtain ⟨x, hx, rx⟩ : ∃ x, vs[i]? = some x ∧ RelV x v := by
        have hi2 : i < vs.length := by rw [rv.length]; exact hi'
        obtain ⟨u, hu, ru⟩ := rv.get (List.getElem?_eq_getElem hi2)
        rw [hv] at hu
        cases hu
        exact ⟨_, List.getElem?_eq_getElem hi2, ru⟩
      obtain ⟨t, ts, rfl, hT, hl⟩ := hk i x hx
      obtain rfl : v = Value.ref t := rx
      have hJ1 : Inv X pins σ H s1 := hJ1
      obtain ⟨its2, rv2, tup, hz2⟩ := hJ1.tuple hT
      have e2 : its2.toArray.size = kf i := by rw [List.size_toArray, ← rv2.length, hl]
      refine PyProof.Rows.len_tuple tup (by rw [e2, ← hl]; have := hz2; rw [show sizeLine = 16777216 from rfl] at this; omega) ?_
      refine fin _ _ (hJ1.tok _) hst hSo ⟨_, by rw [e2]⟩ fun _ _ h => h
    · exact CmpOf.ints_lt (prog := X.prog) (w := X.w) (A := X.A.in1) (P := fun i v => ∃ t, v = .int (kf i : Int) t) (fun i => (kf i : Int)) (fun i v h => h) i j ki kj s1 Q1 E1 hki hkj q
  · have hP : its[argBest (fun i j => decide ((kf i : Int) < (kf j : Int))) (vs.length - 1)]? = some v := by
      have h := hP
      rw [hlen] at h
      simpa using h
    obtain ⟨x, hx, rx⟩ : ∃ x, vs[argBest (fun i j => decide ((kf i : Int) < (kf j : Int))) (vs.length - 1)]? = some x ∧ RelV x v := by
      have hi1 := (List.getElem?_eq_some_iff.mp hP).1
      have hi2 : argBest (fun i j => decide ((kf i : Int) < (kf j : Int))) (vs.length - 1) < vs.length := Nat.lt_of_lt_of_eq hi1 rv.length.symm
      obtain ⟨u, hu, ru⟩ := rv.get (List.getElem?_eq_getElem hi2)
      rw [hP] at hu
      cases hu
      exact ⟨_, List.getElem?_eq_getElem hi2, ru⟩
    exact ⟨x, H, hJ', rx, hQ x hx⟩
end MK
namespace AB
open PySem PySem.Spec PyProof.Rows L2
def lensT : List A → Option (List Nat)
  | [] => some []
  | .tup xs :: r => (lensT r).map (xs.length :: ·)
  | _ :: _ => none
def minLen (a : A) (M : Store) : EO A := match a with
  | .lst l => match M[l]? with
    | some (.lst xs) => match lensT xs with
      | some ks => match xs[argBest (fun i j => decide ((ks.getD i 0 : Int) < (ks.getD j 0 : Int))) (xs.length - 1)]? with
        | some x => .ok x M
        | none => .bad
      | none => .bad
    | _ => .bad
  | _ => .bad
def eMinLen (f : EF) : EF := fun τ M => (f τ M).bind minLen
theorem lensT_get : ∀ {xs : List A} {ks : List Nat}, lensT xs = some ks → ks.length = xs.length ∧ ∀ (i : Nat) (x : A), xs[i]? = some x → ∃ ys, x = .tup ys ∧ ks.getD i 0 = ys.length
  | [], ks, h => by cases h; exact ⟨rfl, fun i x hx => by simp at hx⟩
  | x :: r, ks, h => by
    cases x with
    | tup ys =>
      unfold lensT at h
      obtain ⟨ms, h1, rfl⟩ := Option.map_eq_some_iff.mp h
      obtain ⟨e1, e2⟩ := lensT_get h1
      refine ⟨by simp [e1], fun i x hx => ?_⟩
      cases i with
      | zero => cases hx; exact ⟨ys, rfl, rfl⟩
      | succ i => exact e2 i x hx
    | _ => unfold lensT at h; cases h
section
variable {X : Cx} {W : WR} {p pos kpos lpos : Pos}
theorem ae_minLen {e : Expr} {f : EF} (hm : X.mg "min" = none) (hm2 : X.mg "len" = none) (he : AE X W e f) (hc : X.calm = true := by rfl)
    (hg : Gl X "min" := by rfl) (hg2 : Gl X "len" := by rfl) (hst : backTo pos (starEach [e] X.env) = (false, eval e X.env) :: backTo pos (starEach [] X.env) := by rfl) (hpl : (backTo pos (starEach [e] X.env)).any (·.1) = false := by rfl)
    (hall : (backToKw pos (keywordEach [⟨some "key", .Name "len" lpos, kpos⟩] X.env)).all (·.1.isSome) = true := by rfl) (hnone : (backToKw pos (keywordEach [⟨some "key", .Name "len" lpos, kpos⟩] X.env)).any (·.1.isNone) = false := by rfl)
    (hks : (backToKw pos (keywordEach [⟨some "key", .Name "len" lpos, kpos⟩] X.env)).filterMap (·.1) = [("key" : Str)] := by rfl)
    (hs : starEach [e] X.env = (false, eval e X.env) :: starEach [] X.env := by rfl) :
    AE X W (.Call (.Name "min" p) [e] [⟨some "key", .Name "len" lpos, kpos⟩] pos) (eMinLen f) := by
  refine ⟨fun pins s σ H Q I h => ?_⟩
  refine wpAny_Call_Name_kw (ld_blt I hg hm (u := .builtin "min") (by kernel_rfl) ?_ (by decide) (by decide))
  have h2 := seqG (G := (X.gx W.Tb)) (W := W) Is h
  refine PyProof.Rows.callWith_kw (args_cons (thn (he.run pins s σ H _ I h2) fun u1 s1 ⟨v, H1, I1, r1, q1⟩ => args_nil ?_) hs) hst hpl hall hnone
  rw [hks]
  show wpAny _ _ (evalAll [(do let v ← eval (.Name "len" lpos) X.env; standAt pos; pure v)]) _ _ _
  refine wpAny_evalAll_cons (wpAny_bind (ld_blt I1 hg2 hm2 boot_len (wpAny_bind (wpAny_standAt (wpAny_pure (wpAny_evalAll_nil ?_))))))
  obtain ⟨τ, M, ρ, a, rs, rm, ia, r⟩ := q1
  have r : RE (X.gx W.Tb) W σ ρ H1 Is (minLen a M) Q := r
  unfold minLen at r
  split at r
  · rename_i l
    split at r
    · rename_i xs ec
      split at r
      · rename_i ks ek
        obtain ⟨kl, kg⟩ := lensT_get ek
        split at r
        · rename_i x ex
          cases ia with
          | @lst _ al hal =>
          obtain rfl : u1 = Value.ref al := r1
          obtain ⟨vs, hH1, iis⟩ := rm.at_ _ _ _ hal ec
          have hvl := iis.length
          have hne : 0 < vs.length := by
            rw [← hvl]
            cases xs with
            | nil => simp at ex
            | cons _ _ => simp
          refine MK.min_len_run (kf := fun i => ks.getD i 0) (I1.tok _) (I1.ok.hd hc) (.inl (.inl hH1)) hne (fun i y hy => ?_) fun y hy => ?_
          · obtain ⟨z, hz, iz⟩ := iis.getV hy
            obtain ⟨ys, rfl, e2⟩ := kg i z hz
            cases iz with
            | tup ht it =>
              rename_i ad ts0
              exact ⟨_, _, rfl, .inl (.inl ht), by rw [e2]; exact it.length.symm⟩
          · rw [← hvl] at hy
            obtain ⟨z, hz, iz⟩ := iis.getV hy
            rw [ex] at hz
            cases hz
            exact r.okv (.refl _) (.refl _) rm iz
        · exact r.elim
      · exact r.elim
    · exact r.elim
  · exact r.elim
end
section
variable {τ : Sl} {M : Store} {f : EF} {P : A → Store → Prop}
end
end AB
/-! AB58: dicts whose keys are tuples of anything: k in d, d[k] = v, {k: v}, list(d) -/
namespace AB
open PySem PySem.Spec PyProof.Rows L2
section
variable {X : Cx} {W : WR} {pos : Pos} {a b : Expr} {f g : EF} {pins : List (Addr × Obj)} {σ : L2.St} {H : Hp} {s : Shared} {ρ : List Addr} {M M' : Store} {E : Value → Shared → Prop}
/-! ### k in d -/
def nIn (M : Store) (x : A) (d : Nat) : Option Bool := match M[d]?, nkey? x with
  | some (.dN kvs), some (.tup js) => if (NestedKey.tup js).depth ≤ 8 then some (valA kvs (.tup js)).isSome else none
  | _, _ => none
def oInN : O2 := fun x b M => match b with
  | .dct d => (nIn M x d).map fun c => (.bl c, M)
  | _ => none
def oNotInN : O2 := fun x b M => match b with
  | .dct d => (nIn M x d).map fun c => (.bl (!c), M)
  | _ => none
theorem n_in_pre {d : Nat} {p : Addr} {x : A} {xv : V} {u : Value} {c : Bool} {A0 : Around} (I : L2.Inv X pins σ H s) (m : RM (X.am W.Tb) ρ H M) (hp : ρ[d]? = some p) (ix : Is ρ H x xv) (rx : RelV xv u) (e : nIn M x d = some c) :
    ∃ kb xs js, u = .ref kb ∧ (nestedKind X.prog X.w).is s.heap (.tup js) kb ∧ (p == sysModules) = false ∧ s.heap.DictOfH (nestedKind X.prog X.w) p xs ∧ (atKey xs (.tup js)).isSome = c := by
  unfold nIn at e
  split at e
  · rename_i kvs js ec ek
    split at e
    · rename_i hd
      cases e
      have ik : Is ρ H (ofN (.tup js)) xv := by rw [nkey_of _ _ ek]; exact ix
      obtain ⟨kb, rfl⟩ : ∃ kb, xv = .ref kb := by simp only [ofN] at ik; cases ik with | tup h1 h2 => exact ⟨_, rfl⟩
      cases rx
      obtain ⟨bs, vs, us', hh, iks, ivs, dp, rv, l1, l3, hsz, hsm, hnd, D⟩ := nest_dict I m hp ec
      refine ⟨kb, _, js, rfl, ⟨nested_of I.hok _ _ _ ik rfl, hd⟩, hsm, D, ?_⟩
      rcases rowsN_at (k := .tup js) l1 ivs rv with ⟨e1, e2⟩ | ⟨z, zv, b', u', e1, e2, _⟩
      · rw [e1, e2]; rfl
      · rw [e1, e2]; rfl
    · cases e
  · cases e
theorem op_notInN (hu : X.A.units + 9 < cLine) : OpR X (compareOp .NotIn) (r2 (X.am W.Tb) oNotInN) := by
  intro pins s σ H x y v u Q I rx ry h
  obtain ⟨a, b, M, ρ, ia, ib, m, r⟩ := h
  unfold oNotInN at r
  split at r
  · rename_i d
    cases ib with
    | dct hb =>
      cases e : nIn M a d with
      | none => rw [e] at r; exact r.elim
      | some c =>
        rw [e] at r
        cases ry
        obtain ⟨kb, xs, js, rfl, hk, hs, D, hc⟩ := n_in_pre (A0 := X.A) I m hb ia rx e
        refine wpAny_notIn_heap (by show X.A.units + 1 + 8 < cLine; omega) hk hs D ?_
        rw [hc]
        exact ⟨.bl (!c), H, I.tok _, rfl, r.val m (.bl _)⟩
  · exact r.elim
/-! ### d[k] = v, any key -/
def putN (kvs : List (NestedKey × A)) (k : NestedKey) (y : A) : List (NestedKey × A) := if (valA kvs k).isSome = true then kvs.map fun kv => if kv.1 = k then (kv.1, y) else kv else kvs ++ [(k, y)]
def nSto (M : Store) (l : Nat) (k y : A) : Option Store := match M[l]?, nkey? k with
  | some (.dN kvs), some (.tup js) => if (NestedKey.tup js).depth ≤ 8 ∧ kvs.length < sizeLine then some (M.set l (.dN (putN kvs (.tup js) y))) else none
  | _, _ => none
/-- the values' list when a key's value is changed -/
def putU {α : Type} (k : NestedKey) (y : α) : List NestedKey → List α → List α
  | j :: ks, u :: us => (if j = k then y else u) :: putU k y ks us
  | _, us => us
theorem putU_len {α : Type} {k : NestedKey} {y : α} : ∀ {ks : List NestedKey} {us : List α}, (putU k y ks us).length = us.length
  | [], us => by simp [putU]
  | _ :: _, [] => by simp [putU]
  | j :: ks, u :: us => by simp only [putU, List.length_cons]; rw [putU_len]
theorem putU_rows {k : NestedKey} {u : Value} : ∀ {ks : List NestedKey} {bs : List Addr} {us : List Value}, (rowsN ks bs us).map (putAt k u) = rowsN ks bs (putU k u ks us)
  | [], _, _ => by simp [rowsN]
  | _ :: _, [], _ => by simp [rowsN]
  | _ :: _, _ :: _, [] => by simp [rowsN, putU]
  | j :: ks, b :: bs, v :: us => by
    simp only [rowsN, putU, List.map_cons]
    rw [putU_rows (ks := ks) (bs := bs) (us := us)]
    congr 1
    unfold putAt
    split <;> simp_all
theorem putU_vals {k : NestedKey} {y : V} {u : Value} (r : RelV y u) : ∀ {ks : List NestedKey} {vs : List V} {us : List Value}, Vals vs us → Vals (putU k y ks vs) (putU k u ks us)
  | [], _, _, h => by simpa [putU] using h
  | _ :: _, _, _, .nil => by simp only [putU]; exact .nil
  | j :: ks, _, _, .cons h t => by
    simp only [putU]
    refine .cons ?_ (putU_vals r t)
    split
    · exact r
    · exact h
theorem putU_is {k : NestedKey} {y : A} {v : V} (i : Is ρ H y v) : ∀ {kvs : List (NestedKey × A)} {vs : List V}, IsAll ρ H (kvs.map (·.2)) vs → IsAll ρ H ((kvs.map fun kv => if kv.1 = k then (kv.1, y) else kv).map (·.2)) (putU k v (kvs.map (·.1)) vs)
  | [], _, .nil => .nil
  | kv :: kvs, _, .cons h t => by
    simp only [List.map_cons, putU]
    refine .cons ?_ (putU_is i t)
    split
    · exact i
    · exact h
theorem putU_keys {k : NestedKey} {y : A} (kvs : List (NestedKey × A)) : (kvs.map fun kv => if kv.1 = k then (kv.1, y) else kv).map (·.1) = kvs.map (·.1) := by
  rw [List.map_map]
  refine List.map_congr_left fun kv _ => ?_
  show (if kv.1 = k then (kv.1, y) else kv).1 = kv.1
  split <;> rfl
theorem n_sto {A0 : Around} {F : Hp → Shared → Prop} {l : Nat} {p : Addr} {k y : A} {kv yv : V} {u1 u2 : Value} (I : L2.Inv X pins σ H s) (m : RM (X.am W.Tb) ρ H M) (hp : ρ[l]? = some p) (ik : Is ρ H k kv) (iy : Is ρ H y yv) (rk : RelV kv u1) (ry : RelV yv u2)
    (e : nSto M l k y = some M') (q : ∀ H' s', L2.Inv X pins σ H' s' → Grow H H' → RM (X.am W.Tb) ρ H' M' → F H' s') :
    ∃ kb xs js, u1 = .ref kb ∧ (nestedKind X.prog X.w).is s.heap (.tup js) kb ∧ s.heap.DictOfH (nestedKind X.prog X.w) p xs ∧ xs.length ≤ sizeLine ∧
      ∀ h', h'.DictOfH (nestedKind X.prog X.w) p (storedH xs (.tup js) kb u2) → Heap.SameBut p s.heap h' → ∃ H', F H' { s with heap := h', toks := s.toks + (nestedKind X.prog X.w).draws (.tup js) } := by
  unfold nSto at e
  split at e
  · rename_i kvs js ec ek
    split at e
    · rename_i hz
      obtain ⟨z1, z2⟩ := hz
      cases e
      have ik : Is ρ H (ofN (.tup js)) kv := by rw [nkey_of _ _ ek]; exact ik
      obtain ⟨kb, rfl⟩ : ∃ kb, kv = .ref kb := by simp only [ofN] at ik; cases ik with | tup h1 h2 => exact ⟨_, rfl⟩
      cases rk
      obtain ⟨bs, vs, us', hh, iks, ivs, dp, rv, l1, l3, hsz, hsm, hnd, D⟩ := nest_dict I m hp ec
      have rl : (rowsN (kvs.map (·.1)) bs us').length = kvs.length := by rw [rowsN_len (by simpa using l1) (by simpa using l3)]; simp
      have hk1 : (kvs.map (·.1)).length = bs.length := by simpa using l1
      have hv1 : (kvs.map (·.1)).length = us'.length := by simpa using l3
      refine ⟨kb, _, js, rfl, ⟨nested_of I.hok _ _ _ ik rfl, z1⟩, D, by rw [rl]; exact hsz, fun h' D' sb => ?_⟩
      have hvs : kvs.length = vs.length := l3.trans rv.length.symm
      rcases rowsN_at (k := .tup js) l1 ivs rv with ⟨e1, e2⟩ | ⟨z, zv, b', u', e1, e2, _⟩
      · rw [storedH_new e2, ← rowsN_append hk1 hv1] at D'
        obtain ⟨o, es, ep, ho, hx, hdt, he, _, hn2⟩ := D'
        have zk : (kvs.map (·.1) ++ [NestedKey.tup js]).zip (bs ++ [kb]) = ((kvs ++ [(NestedKey.tup js, y)]).map (·.1)).zip (bs ++ [kb]) := by rw [List.map_append]; rfl
        have lk : (kvs.map (·.1) ++ [NestedKey.tup js]).length = (bs ++ [kb]).length := by simp [l1]
        have fstk : ((kvs.map (·.1) ++ [NestedKey.tup js]).zip (bs ++ [kb])).map (·.1) = kvs.map (·.1) ++ [NestedKey.tup js] := map_zip_fst lk
        have new : ObjOk X.prog X.w (upd H p (nestO X.w p ((kvs.map (·.1) ++ [NestedKey.tup js]).zip (bs ++ [kb])) (vs ++ [yv]))) h' p (nestO X.w p ((kvs.map (·.1) ++ [NestedKey.tup js]).zip (bs ++ [kb])) (vs ++ [yv])) := by
          refine ⟨⟨?_, hsm, ?_, ?_, us' ++ [u2], rv.append (.cons ry .nil), o, es, ep, ho, hx, hdt, he.trans rowsN_entries.symm⟩, ⟨o, ho⟩, ?_⟩
          · simp only [List.length_zip, List.length_append, List.length_map, List.length_singleton]; omega
          · have := rv.length
            simp only [List.length_zip, List.length_append, List.length_map, List.length_singleton]; omega
          · rw [fstk]
            rw [rowsN_keys lk (by simp [l3])] at hn2
            exact hn2
          · rintro h1 h2 ⟨q1, q2, q3, q4, us, q5, o, es, ep, q6, q7⟩ k
            exact ⟨q1, q2, q3, q4, us, q5, o, es, ep, k o q6, q7⟩
        have I2 := I.write (e := p) (t' := s.toks + (nestedKind X.prog X.w).draws (.tup js)) (by rw [hh]; trivial) (.inl rfl) (fun b u hb hu' => (sb.2 b hb).trans hu') ⟨o, ho⟩ new
        have g := m.growSet (o := nestO X.w p ((kvs.map (·.1) ++ [NestedKey.tup js]).zip (bs ++ [kb])) (vs ++ [yv])) hp ec
        have ep : putN kvs (.tup js) y = kvs ++ [(.tup js, y)] := by unfold putN; rw [e1]; rfl
        refine ⟨_, q _ _ I2 g (m.set hp ec ?_)⟩
        rw [ep]
        refine ⟨bs ++ [kb], vs ++ [yv], by rw [upd_same, zk], ?_, ?_, ?_⟩
        · rw [List.map_append, List.map_append]
          exact (iks.mono (.refl _) g).append (.cons (ik.mono (.refl _) g) .nil)
        · rw [List.map_append]
          exact (ivs.mono (.refl _) g).append (.cons (iy.mono (.refl _) g) .nil)
        · intro kv hkv
          rcases List.mem_append.mp hkv with q | q
          · exact dp kv q
          · simp at q; subst q; exact z1
      · rw [storedH_old e2, putU_rows] at D'
        obtain ⟨o, es, ep, ho, hx, hdt, he, _, hn2⟩ := D'
        have fstk : ((kvs.map (·.1)).zip bs).map (·.1) = kvs.map (·.1) := map_zip_fst hk1
        have new : ObjOk X.prog X.w (upd H p (nestO X.w p ((kvs.map (·.1)).zip bs) (putU (.tup js) yv (kvs.map (·.1)) vs))) h' p (nestO X.w p ((kvs.map (·.1)).zip bs) (putU (.tup js) yv (kvs.map (·.1)) vs)) := by
          refine ⟨⟨?_, hsm, ?_, ?_, putU (.tup js) u2 (kvs.map (·.1)) us', putU_vals ry rv, o, es, ep, ho, hx, hdt, he.trans rowsN_entries.symm⟩, ⟨o, ho⟩, ?_⟩
          · simp only [List.length_zip, List.length_map]; omega
          · rw [putU_len]
            simp only [List.length_zip, List.length_map]; omega
          · rw [fstk]; exact hnd
          · rintro h1 h2 ⟨q1, q2, q3, q4, us, q5, o, es, ep, q6, q7⟩ k
            exact ⟨q1, q2, q3, q4, us, q5, o, es, ep, k o q6, q7⟩
        have I2 := I.write (e := p) (t' := s.toks + (nestedKind X.prog X.w).draws (.tup js)) (by rw [hh]; trivial) (.inl rfl) (fun b u hb hu' => (sb.2 b hb).trans hu') ⟨o, ho⟩ new
        have g := m.growSet (o := nestO X.w p ((kvs.map (·.1)).zip bs) (putU (.tup js) yv (kvs.map (·.1)) vs)) hp ec
        have ep : putN kvs (.tup js) y = kvs.map fun kv => if kv.1 = .tup js then (kv.1, y) else kv := by unfold putN; rw [e1]; rfl
        refine ⟨_, q _ _ I2 g (m.set hp ec ?_)⟩
        rw [ep]
        refine ⟨bs, putU (.tup js) yv (kvs.map (·.1)) vs, by rw [upd_same, putU_keys], ?_, putU_is (iy.mono (.refl _) g) (ivs.mono (.refl _) g), ?_⟩
        · have e5 : (kvs.map fun kv => if kv.1 = .tup js then (kv.1, y) else kv).map (fun kv => ofN kv.1) = kvs.map fun kv => ofN kv.1 := by
            rw [List.map_map]
            refine List.map_congr_left fun kv _ => ?_
            show ofN (if kv.1 = NestedKey.tup js then (kv.1, y) else kv).1 = ofN kv.1
            split <;> rfl
          rw [e5]
          exact iks.mono (.refl _) g
        · intro kv hkv
          obtain ⟨kv0, h0, rfl⟩ := List.mem_map.mp hkv
          have := dp kv0 h0
          split <;> exact this
    · cases e
  · cases e
def sDputN (fd fk fv : EF) : SF := fun τ M => (fv τ M).bindS τ fun v M1 => (fd τ M1).bindS τ fun d M2 => (fk τ M2).bindS τ fun k M3 => match d with
  | .dct l => match nSto M3 l k v with
    | some M4 => .nx τ M4
    | none => .bad
  | _ => .bad
theorem as_dputN {o i v : Expr} {fd fk fv : EF} {pos' : Pos} (hu : X.A.units + 9 < cLine) (ho : AE X W o fd) (hi : AE X W i fk) (hv : AE X W v fv) (hs : swapsWith v (some (.Subscript o i pos')) pos.line X.env = pure false := by rfl) :
    AS X W (.Assign [.Subscript o i pos'] v pos) (sDputN fd fk fv) := ⟨fun pins s σ H D I h => by
  refine wpAny_Assign_Subscript (thn (hv.run pins s σ H _ I (bindS_tK Is h)) fun r s1 ⟨v, H1, I1, rv, q1⟩ => thn (ho.run pins s1 σ H1 _ I1 (bindS_tKs Is Is.ext Is q1)) fun u s2 ⟨x, H2, I2, rx, q2⟩ => thn (hi.run pins s2 σ H2 (fun y H3 => ∃ τ M ρ a a' k, RS W ρ H3 τ σ ∧ RM (X.am W.Tb) ρ H3 M ∧ Is ρ H3 a v ∧ Is ρ H3 a' x ∧ Is ρ H3 k y ∧ RSO (X.gx W.Tb) W D ρ H3 (match a' with
    | .dct l => match nSto M l k a with
      | some M4 => .nx τ M4
      | none => .bad
    | _ => .bad)) I2 ?_) fun iv s3 ⟨y, H3, I3, ry, q3⟩ => ?_) hs
  · obtain ⟨τ, M, ρ, a, a', rs, rm, ia, ia', r⟩ := q2
    refine ⟨τ, M, ρ, rs, rm, ?_⟩
    cases e : fk τ M with
    | ok k M3 =>
      rw [e] at r
      intro y H3 ρ3 x3 g3 m3 i3
      exact ⟨τ, M3, ρ3, a, a', k, rs.mono x3 g3, m3, ia.mono x3 g3, ia'.mono x3 g3, i3, RSO.mono r x3 g3⟩
    | ex en M3 => rw [e] at r; exact fun c d H3 ρ3 x g m i => r c d σ H3 ρ3 x g m (rs.mono x g) i
    | bad => rw [e] at r; exact r
  · obtain ⟨τ, M, ρ, a, a', k, rs, rm, ia, ia', ik, r⟩ := q3
    cases a' with
    | dct l =>
      cases ia' with
      | dct hb =>
        cases rx
        dsimp only at r
        cases e2 : nSto M l k a with
        | none => rw [e2] at r; exact r.elim
        | some M4 =>
          rw [e2] at r
          obtain ⟨kb, xs, js, rfl, hk, D', hz, fin⟩ := n_sto (A0 := X.A) (F := fun H' s' => SP X pins D .next s') I3 rm hb ik ia ry rv e2 fun H' s' I' g' m' => ⟨σ, H', I', r _ _ ρ (.refl _) g' m' (rs.mono (.refl _) g')⟩
          refine wpAny_setItem_heap (hsz := hz) (by show X.A.units + 1 + 8 < cLine; omega) hk D' fun h' D2 sb => ?_
          obtain ⟨_, q⟩ := fin h' D2 sb
          exact q
    | _ => exact r.elim⟩
/-! ### {k: v} -/
def dispNN (l : Nat) (k v : A) (M3 : Store) : EO A := match M3[l]? with
  | some (.dN []) => match nSto M3 l k v with
    | some M4 => .ok (.dct l) M4
    | none => .bad
  | _ => .bad
def eDispNN (fk fv : EF) : EF := fun τ M => (fk τ (M ++ [.dN []])).bind fun k M2 => (fv τ M2).bind (dispNN M.length k)
theorem ae_dispNN {k v : Expr} {fk fv : EF} (hu : X.A.units + 9 < cLine) (hk : AE X W k fk) (hv : AE X W v fv) : AE X W (.Dict [some k] [v] pos) (eDispNN fk fv) := ⟨fun pins s σ H Q I h => by
  obtain ⟨τ, M, ρ, rs, rm, r⟩ := h
  have hp := I.hok.fresh (Nat.le_refl s.heap.objs.size)
  have new : ObjOk X.prog X.w (upd H s.heap.objs.size (nestO X.w s.heap.objs.size [] [])) (s.heap.push { cls := .type "dict", data := .dict #[] }) s.heap.objs.size (nestO X.w s.heap.objs.size [] []) := by
    refine ⟨⟨Nat.zero_le _, beq_eq_false_iff_ne.mpr (Ne.symm (Nat.ne_of_lt I.big)), rfl, List.nodup_nil, [], .nil, _, #[], 0, Heap.get?_push_size _ rfl, ⟨rfl, rfl, rfl⟩, rfl, rfl⟩, ⟨_, Heap.get?_push_size _ rfl⟩, ?_⟩
    rintro h1 h2 ⟨q1, q2, q3, q4, us, q5, o, es, ep, q6, q7⟩ k
    exact ⟨q1, q2, q3, q4, us, q5, o, es, ep, k o q6, q7⟩
  have I1 : L2.Inv X pins σ (upd H s.heap.objs.size (nestO X.w s.heap.objs.size [] [])) { s with heap := s.heap.push { cls := .type "dict", data := .dict #[] } } :=
    I.laid (a := s.heap.objs.size) (t' := s.toks) (fun _ _ q => Heap.get?_push_of_some _ q) (Nat.le_refl _) new
  generalize ep : s.heap.objs.size = p at hp I1
  have g0 : Grow H (upd H p (nestO X.w p [] [])) := .new hp
  have m0 : RM (X.am W.Tb) (ρ ++ [p]) (upd H p (nestO X.w p [] [])) (M ++ [.dN []]) := rm.push hp ⟨[], [], upd_same, .nil, .nil, fun _ z => by cases z⟩
  have r := RE.mono r (.snoc ρ p) g0
  have hl0 : (ρ ++ [p])[M.length]? = some p := by rw [← rm.len]; simp
  unfold eDispNN at r
  refine wpAny_Dict_any (by rfl) (by rfl) (fun z => by cases z) (by show 1 ≤ 15; decide) ?_
  have hP : PPs X pos [some k] [v] [(tG (X.gx W.Tb) W Is fk, tG (X.gx W.Tb) W Is fv)] := pps_cons hk hv pps_nil
  refine thn (hP.run pins _ σ _ (fun ps H3 => ∃ kv vv ka va ρ3 M3, ps = [(kv, vv)] ∧ Is ρ3 H3 ka kv ∧ Is ρ3 H3 va vv ∧ RM (X.am W.Tb) ρ3 H3 M3 ∧ ρ3[M.length]? = some p ∧ RE (X.gx W.Tb) W σ ρ3 H3 Is (dispNN M.length ka va M3) Q) I1 ?_) fun vs s2 ⟨ps, H3, I3, rel, kv, vv, ka, va, ρ3, M3, eps, ik, iv, m3, hb, r⟩ => ?_
  · refine ⟨τ, _, _, rs.mono (.snoc ρ p) g0, m0, ?_⟩
    cases e1 : fk τ (M ++ [.dN []]) with
    | ok ka M2 =>
      rw [e1] at r
      intro kv H2 ρ2 x2 g2 m2 ik
      have r := RE.mono r x2 g2
      refine ⟨τ, M2, ρ2, (rs.mono (.snoc ρ p) g0).mono x2 g2, m2, ?_⟩
      have r : RE (X.gx W.Tb) W σ ρ2 H2 Is ((fv τ M2).bind (dispNN M.length ka)) Q := r
      cases e2 : fv τ M2 with
      | ok va M3 =>
        rw [e2] at r
        intro vv H3 ρ3 x3 g3 m3 iv
        exact ⟨kv, vv, ka, va, ρ3, M3, rfl, ik.mono x3 g3, iv, m3, x3.get (x2.get hl0), RE.mono r x3 g3⟩
      | ex en M3 => rw [e2] at r; exact r
      | bad => rw [e2] at r; exact r
    | ex en M2 => rw [e1] at r; exact r
    | bad => rw [e1] at r; exact r
  · subst eps
    obtain ⟨u1, u2, rfl, r1, r2⟩ : ∃ u1 u2, vs = [(u1, u2)] ∧ RelV kv u1 ∧ RelV vv u2 := by
      cases rel with
      | cons h t => cases t; exact ⟨_, _, rfl, h.1, h.2⟩
    unfold dispNN at r
    split at r
    · cases e2 : nSto M3 M.length ka va with
      | none => rw [e2] at r; exact r.elim
      | some M4 =>
        rw [e2] at r
        obtain ⟨kb, xs, js, rfl, hk', D', hz, fin⟩ := n_sto (A0 := X.A) (F := fun H' s' => ∃ x H2, L2.Inv X pins σ H2 s' ∧ RelV x (.ref p) ∧ Q x H2) I3 m3 hb ik iv r1 r2 e2 fun H' s' I' g' m' => ⟨.ref p, H', I', rfl, r _ _ ρ3 (.refl _) g' m' (.dct hb)⟩
        show wpAny (model X.prog X.w) X.A (storeAll s.heap.objs.size [(Value.ref kb, u2)]) _ _ _
        rw [ep]
        unfold storeAll
        rw [List.forIn_cons]
        refine wpAny_bind (wpAny_bind ?_)
        refine wpAny_dictSet_heap (hsz := hz) (by show X.A.units + 8 < cLine; omega) hk' D' fun h' D2 sb => ?_
        refine wpAny_pure ?_
        dsimp only
        rw [List.forIn_nil]
        refine wpAny_pure ?_
        obtain ⟨_, q⟩ := fin h' D2 sb
        exact q
    · exact r.elim⟩
/-! ### list(d) -/
def oListN : On := fun as M => match as with
  | [.dct d] => match M[d]? with
    | some (.dN kvs) => some (.lst M.length, M ++ [.lst (kvs.map fun kv => ofN kv.1)])
    | _ => none
  | _ => none
theorem rowsN_bs {ks : List NestedKey} {bs : List Addr} {us : List Value} (h1 : ks.length = bs.length) (h2 : ks.length = us.length) : (rowsN ks bs us).map (fun x => x.2.1) = bs := by
  induction ks generalizing bs us with
  | nil => cases bs with
    | nil => simp [rowsN]
    | cons => simp at h1
  | cons k ks ih =>
    cases bs with
    | nil => simp at h1
    | cons b bs =>
      cases us with
      | nil => simp at h2
      | cons u us => simp only [rowsN, List.map_cons]; rw [ih (by simpa using h1) (by simpa using h2)]
theorem cr_listN (hcalm : X.calm = true) : CallR X (.type "list") (rn (X.am W.Tb) oListN) := by
  intro pins s σ H xs us Q I r h
  obtain ⟨as, M, ρ, is, m, ro⟩ := h
  unfold oListN at ro
  split at ro
  · rename_i d
    split at ro
    · rename_i kvs ec
      cases is with
      | cons i1 is =>
        cases is
        cases i1 with
        | @dct _ a hl =>
        obtain ⟨u, rfl, rx⟩ := vals1 r
        cases rx
        obtain ⟨bs, vs, us', hh, iks, ivs, dp, rv, l1, l3, hsz, hsm, hnd, D⟩ := nest_dict I m hl ec
        have rl : (rowsN (kvs.map (·.1)) bs us').length = kvs.length := by rw [rowsN_len (by simpa using l1) (by simpa using l3)]; simp
        have rb := rowsN_bs (ks := kvs.map (·.1)) (bs := bs) (us := us') (by simpa using l1) (by simpa using l3)
        obtain ⟨o, es, ep, ho, hx, hdt, he, _, hn⟩ := D
        have l4 : es.size = kvs.length := (size_of_entries he).trans rl
        refine PySem.W.kdl_call (kdl_raw hsm hx hdt) (I.ok.hd hcalm) ho (by omega) fun h' tk acc' c' kp e it => ?_
        have ea : acc'.toList = (rowsN (kvs.map (·.1)) bs us').map fun x => Value.ref x.2.1 := by
          have hl : acc'.toList.length = (rowsN (kvs.map (·.1)) bs us').length := by rw [Array.length_toList, it.1]; exact l4.trans rl.symm
          apply List.ext_getElem?
          intro j
          rw [List.getElem?_map]
          cases hj : acc'.toList[j]? with
          | none =>
            have h1 := List.getElem?_eq_none_iff.mp hj
            rw [List.getElem?_eq_none (by omega)]
            all_goals rfl
          | some v =>
            obtain ⟨en, hen, hv⟩ := it.2 j v (by rw [← Array.getElem?_toList]; exact hj)
            have qe := entry_at he j
            rw [hen] at qe
            cases hb : (rowsN (kvs.map (·.1)) bs us')[j]? with
            | none =>
              rw [hb] at qe
              exact nomatch (show some en = none from qe)
            | some b =>
              rw [hb] at qe
              have e2 : en = entryOfKey (nestedKind X.prog X.w) b := Option.some.inj qe
              rw [hv, e2]
              all_goals rfl
        have eb : acc'.toList = bs.map Value.ref := by
          rw [ea, ← rb, List.map_map]
          rw [rb]
          all_goals rfl
        have rv2 : Vals (bs.map V.ref) acc'.toList := by rw [eb]; exact vals_refs _
        refine ⟨.ref s.heap.objs.size, _, I.laid (t' := tk) (o := .lst (bs.map V.ref)) kp (Nat.le_refl _) ⟨by rw [List.length_map]; omega, acc'.toList, c', rv2, by rw [Array.toArray_toList]; exact e⟩, rfl, ?_⟩
        exact ro.newL m iks (I.hok.fresh (Nat.le_refl _))
    · exact ro.elim
  · exact ro.elim
end
end AB
namespace AB
open PySem PySem.Spec PyProof.Rows L2
section
variable {τ : Sl} {M : Store} {Q : A → Store → Prop} {N : Sl → Store → Prop} {R : A → Store → Prop}
end
end AB
/-! AB61: tuples whose object is known: tuple(xs), len, index, walks -/
namespace AB
open PySem PySem.Spec PyProof.Rows L2
section
variable {X : Cx} {W : WR} {pos : Pos} {a b e : Expr} {es : List Expr} {f : EF} {fs : EFs}
/-! ### tuple(xs) -/
def oTupleF : On := fun as M => match as with
  | [.lst l] => (listAt M l).map fun xs => (.ftp xs, M)
  | _ => none
theorem cr_tupleF : CallR X (.type "tuple") (rn (X.am W.Tb) oTupleF) := by
  intro pins s σ H xs us Q I r h
  obtain ⟨as, M, ρ, is, m, ro⟩ := h
  unfold oTupleF at ro
  split at ro
  · rename_i l
    cases is with
    | cons i1 is =>
      cases is
      cases i1 with
      | lst hl =>
        cases el : listAt M l with
        | none => rw [el] at ro; exact ro.elim
        | some ys =>
          rw [el] at ro
          obtain ⟨vs, hq, iv⟩ := m.list hl el
          obtain ⟨u, rfl, rx⟩ := vals1 r
          cases rx
          obtain ⟨its, r', pl, hz⟩ := I.list hq
          have hlen := r'.length
          refine call_tuple_list pl.isList (fun h' kp => ?_) (by simp only [List.size_toArray] <;> omega)
          have I1 : L2.Inv X pins σ H { s with heap := h' } := I.kept (t' := s.toks) kp
          have hn := I1.hok.fresh (Nat.le_refl h'.objs.size)
          have I2 : L2.Inv X pins σ (upd H h'.objs.size (.frz { cls := .type "tuple", data := .seq its.toArray } (.tup vs))) { s with heap := h'.push { cls := .type "tuple", data := .seq its.toArray } } :=
            I1.laid (t' := s.toks) (fun b o e => Heap.get?_push_of_some _ e) (Nat.le_refl _) (show ObjOk X.prog X.w _ _ _ (.frz { cls := .type "tuple", data := .seq its.toArray } (.tup vs)) from ⟨Heap.get?_push_size _ rfl, hz, its, r', IsTup.new _ _⟩)
          refine ⟨.ref h'.objs.size, _, I2, rfl, ?_⟩
          exact ro _ _ ρ (.refl _) (.new hn) (m.new hn) (.ftp upd_same rfl rfl (iv.mono (.refl _) (.new hn)))
  · exact ro.elim
/-! ### len -/
def oLenF : On := fun as M => match as with
  | [.ftp xs] => some (.int (xs.length : Nat), M)
  | _ => oLenN as M
theorem cr_lenF : CallR X (.builtin "len") (rn (X.am W.Tb) oLenF) := by
  intro pins s σ H xs us Q I r h
  obtain ⟨as, M, ρ, is, m, ro⟩ := h
  unfold oLenF at ro
  split at ro
  · cases is with
    | cons i1 is =>
      cases is
      cases i1 with
      | ftp ht _ _ it => exact call_len pins s σ H _ us Q I r ⟨_, _, rfl, .inr ⟨_, .inl (.inr ⟨_, ht⟩), it.length⟩, ro.val m (.int _)⟩
  · exact cr_lenN pins s σ H xs us Q I r ⟨_, M, ρ, is, m, ro⟩
/-! ### index -/
def oIndexF : OM := fun x as M => match x, as with
  | .ftp xs, [y] => match datS M (.ftp xs), datS M y with
    | some (.tuple ds), some d => (ixData d ds 0).map fun j => (.int (j : Nat), M)
    | _, _ => none
  | _, _ => none
theorem mt_indexF (hu : X.A.units + 65 < cLine) : MtR X "tuple.index" (rm (X.am W.Tb) oIndexF) := by
  intro pins s σ H x xs v us Q I rx rxs h
  obtain ⟨a, as, M, ρ, ia, is, m, ro⟩ := h
  unfold oIndexF at ro
  split at ro
  · rename_i ts y
    cases is with
    | cons i1 is =>
      cases is
      split at ro
      · rename_i ds d e1 e2
        obtain ⟨h1, sl⟩ := datS_ok m ia e1
        obtain ⟨h2, sd⟩ := datS_ok m i1 e2
        cases ia with
        | @ftp p _ vs ob hp hc0 hd0 iv =>
          cases e3 : ixData d ds 0 with
          | none => rw [e3] at ro; exact ro.elim
          | some j0 =>
            rw [e3] at ro
            obtain ⟨j, z, q1, hz, hzj, hno⟩ := ixData_ok e3
            have e4 : j0 = j := by omega
            subst e4
            cases rx
            cases rxs with
            | cons ry rt =>
              rename_i uy ut
              cases rt
              obtain ⟨bs, r1⟩ := Dp.reads I d _ uy h2 ry
              have hxs : PyData.canLayAll0 ds = true := SeqAt.canLay_of_shaped sl
              have hroom : X.A.units + 1 + min (PyData.depthAll ds) d.depth < cLine := room_in_shaped sd hu
              cases h1 with
              | tup hs ha =>
                obtain ⟨its, rv, ⟨⟨cls, dd, data, sls⟩, ho, hc, n, hdt⟩, hlen⟩ := I.tuple hs
                simp only at hc hdt
                subst hc hdt
                obtain ⟨as', h4⟩ := Dp.readsAll I ds _ its ha rv
                have hn : its.length = ds.length := SeqAt.ReadsAll.length ds its as' h4
                have hmap : its.map (SeqAt.readOf s.heap) = ds := SeqAt.readsAll_map ds its as' hxs h4
                obtain ⟨hjd, _⟩ := List.getElem?_eq_some_iff.mp hz
                have hjl : j0 < its.length := by omega
                have hj : j0 < its.toArray.size := by simpa using hjl
                have at_ : ∀ (m : Nat) (hm : m < its.toArray.size) (z' : PyData), ds[m]? = some z' → SeqAt.readOf s.heap its.toArray[m] = z' := by
                  intro m hm z' hz'
                  have hml : m < its.length := by simpa using hm
                  rw [← hmap, List.getElem?_map, List.getElem?_eq_getElem hml] at hz'
                  have e1 : SeqAt.readOf s.heap its[m] = z' := Option.some.inj (show some (SeqAt.readOf s.heap its[m]) = some z' from hz')
                  simpa using e1
                have heq := SeqAt.items_eqAt (A := X.A) (vs := its.toArray) (show ReadsAll s.heap its.toArray.toList ds as' from h4) r1 hxs (SeqAt.canLay_of_shaped sd) hroom
                refine call_meets PySem.F.slot_tuple_index ⟨_, ho, rfl⟩ PySem.F.entry_tuple_index (PySem.F.args_tuple_index_2 _ _)
                  (SeqAt.tuple_index2_found p its.toArray n dd sls uy (fun i => PyData.eqv (ds.getD i .none) d) j0 hj (Nat.zero_le _) hj ?_ ?_) ⟨ho, fun i hi => ?_, ?_⟩
                · show PyData.eqv (ds.getD j0 .none) d = true
                  rw [List.getD_eq_getElem?_getD, hz]
                  exact hzj
                · intro m hm _ hmj
                  have hmd : m < ds.length := by have : m < its.length := by simpa using hm
                                                 omega
                  have hz' : ds[m]? = some ds[m] := List.getElem?_eq_getElem hmd
                  show PyData.eqv (ds.getD m .none) d = false
                  rw [List.getD_eq_getElem?_getD, hz']
                  exact hno m _ hmj hz'
                · have hid : i < ds.length := by have : i < its.length := by simpa using hi
                                                 omega
                  have := heq its.toArray[i] (Array.getElem_mem hi)
                  rw [at_ i hi _ (List.getElem?_eq_getElem hid)] at this
                  rw [List.getD_eq_getElem?_getD, List.getElem?_eq_getElem hid]
                  exact this
                · exact ⟨.int (j0 : Nat), H, I.tok _, ⟨_, rfl⟩, RO.val (ρ := ρ) (M := M) ro m (.int _)⟩
      · exact ro.elim
  · exact ro.elim
def isF : A → Bool
  | .ftp _ => true
  | _ => false
def eMethF (o : OM) (f : EF) (fs : EFs) : EF := fun τ M => (f τ M).bind fun a M1 => if isF a = true then (fs τ M1).bind fun as M2 => toE (o a as M2) else .bad
theorem ae_methF {o : OM} {name : Str} {id : String} {apos cpos : Pos} (slot : Slot "tuple" name id) (hty : typeOf (.builtin id) = pure (.type "method_descriptor")) (hm : MtR X id (rm (X.am W.Tb) o)) (ho : AE X W a f) (ha : AA X W (e :: es) fs)
    (hbase : attributeBase a name X.env (eval a X.env) = eval a X.env := by rfl)
    (hfew : ((backTo cpos (starEach (e :: es) X.env)).all (fun x => !x.1) && (backToKw cpos (keywordEach [] X.env)).all (fun x => x.1.isSome)
      && decide ((e :: es).length + ([] : List Keyword).length + (if ([] : List Keyword).isEmpty then 0 else 1) < 30)) = true := by rfl)
    (hline : (apos.endLine == cpos.line) = true := by rfl) (hs : starEach (e :: es) X.env = (false, eval e X.env) :: starEach es X.env := by rfl) (hplain : (backTo cpos (starEach es X.env)).any (·.1) = false := by rfl) :
    AE X W (.Call (.Attribute a name apos) (e :: es) [] cpos) (eMethF o f fs) := by
  refine ⟨fun pins s σ H Q I h => ?_⟩
  have h2 := seqG (G := (X.gx W.Tb)) (W := W) Is h
  refine wpAny_Call_method_late hbase hfew hline rfl (thn (ho.run pins s σ H _ I h2) fun v s1 ⟨x, H1, I1, r1, q1⟩ => ?_)
  obtain ⟨τ, M, ρ, c, rs, rm', i, r⟩ := q1
  have r : RE (X.gx W.Tb) W σ ρ H1 Is (if isF c = true then (fs τ M).bind fun as M2 => toE (o c as M2) else .bad) Q := r
  split at r
  · rename_i hN
    have ty : s1.TypeIs v "tuple" ∧ ∀ p, v = .ref p → ∃ ob, s1.heap.get? p = some ob ∧ ob.dict = none := by
      cases i with
      | ftp hp hc hd iv =>
        cases r1
        obtain ⟨ho', _⟩ := I1.hok _ _ hp
        exact ⟨⟨_, ho', hc⟩, fun p ep => by cases ep; exact ⟨_, ho', hd⟩⟩
      | _ => simp only [isF] at hN; cases hN
    refine ⟨"tuple", id, PySem.F.plainAttrs_tuple, slot, hty, ty.1, ty.2, ?_⟩
    have hA := ha.run cpos pins s1 σ H1 (fun xs H2 => (rm (X.am W.Tb) o) x xs H2 Q) I1 ⟨τ, M, ρ, rs, rm', by
      cases e2 : fs τ M with
      | ok as M2 =>
        rw [e2] at r
        intro vs H2 ρ2 x2 g m is
        have r := RE.mono r x2 g
        exact ⟨c, as, M2, ρ2, i.mono x2 g, is, m, RO.of r⟩
      | ex en M2 => rw [e2] at r; exact r
      | bad => rw [e2] at r; exact r⟩
    rw [hs] at hA ⊢
    refine Calls.callWith_builtin (by show (false || (backTo cpos (starEach es X.env)).any (·.1)) = false; rw [hplain] <;> rfl) (Calls.evalArgs_plain ?_)
    exact thn hA fun us s2 ⟨vs, H2, I2, r2, q2⟩ => hm pins s2 σ H2 x vs v us Q I2 r1 r2 q2
  · exact r.elim
theorem ae_indexF {apos cpos : Pos} (hu : X.A.units + 65 < cLine) (ho : AE X W a f) (ha : AA X W [e] fs) (hbase : attributeBase a "index" X.env (eval a X.env) = eval a X.env := by rfl)
    (hfew : ((backTo cpos (starEach [e] X.env)).all (fun x => !x.1) && (backToKw cpos (keywordEach [] X.env)).all (fun x => x.1.isSome)
      && decide ([e].length + ([] : List Keyword).length + (if ([] : List Keyword).isEmpty then 0 else 1) < 30)) = true := by rfl)
    (hline : (apos.endLine == cpos.line) = true := by rfl) (hs : starEach [e] X.env = (false, eval e X.env) :: starEach [] X.env := by rfl) (hplain : (backTo cpos (starEach [] X.env)).any (·.1) = false := by rfl) :
    AE X W (.Call (.Attribute a "index" apos) [e] [] cpos) (eMethF oIndexF f fs) := ae_methF PySem.F.slot_tuple_index PySem.F.type_tuple_index (mt_indexF hu) ho ha hbase hfew hline hs hplain
/-! ### walks -/
theorem srcJ_tupF {w : Amb} {K : PySem.W.Frag} {ρ : List Addr} {H : Hp} {xs : List A} {vs : List V} {a : Addr} {ob : Obj} (ha : H a = some (.frz ob (.tup vs))) (is : IsAll ρ H xs vs) : SrcJ w ρ H (.snap xs) (Itt K a) := by
  intro ρ2 H2 M2 i x g m
  have h2 : SqT K H2 a vs := .inl (.inr ⟨_, g _ _ (.frz _ _) ha⟩)
  cases e : xs[i]? with
  | none =>
    simp only [Src.at, e]
    exact ⟨vs, h2, by rw [← is.length]; exact List.getElem?_eq_none_iff.mp e⟩
  | some t =>
    simp only [Src.at, e]
    obtain ⟨v, hv, iv⟩ := is.get e
    refine ⟨⟨vs, v, h2, hv⟩, fun w H3 ⟨eH, hw⟩ => ?_⟩
    subst eH
    have := hw vs h2
    rw [hv] at this
    obtain rfl := Option.some.inj this
    exact ⟨.refl _, m, iv.mono x g⟩
theorem srcJ_entF {w : Amb} {K : PySem.W.Frag} {ρ : List Addr} {H : Hp} {xs : List A} {vs : List V} {a : Addr} {ob : Obj} (ha : H a = some (.frz ob (.tup vs))) (is : IsAll ρ H xs vs) : SrcJ w ρ H (.snap (pairsFrom 0 xs)) (ET.ItE K a) := by
  intro ρ2 H2 M2 i x g m
  have h2 : SqT K H2 a vs := .inl (.inr ⟨_, g _ _ (.frz _ _) ha⟩)
  cases e : xs[i]? with
  | none =>
    simp only [Src.at, pairsFrom_get, e, Option.map_none]
    exact ⟨vs, h2, by rw [← is.length]; exact List.getElem?_eq_none_iff.mp e⟩
  | some t =>
    simp only [Src.at, pairsFrom_get, e, Option.map_some]
    obtain ⟨v, hv, iv⟩ := is.get e
    refine ⟨⟨vs, v, h2, hv⟩, fun w H3 ⟨T, y, e1, hT, e2, hy⟩ => ?_⟩
    have := hy vs h2
    rw [hv] at this
    obtain rfl := Option.some.inj this
    subst e1 e2
    refine ⟨.new hT, m.new hT, .tup upd_same (.cons ?_ (.cons ((iv.mono x g).mono (.refl _) (.new hT)) .nil))⟩
    have : (0 + i : Nat) = i := by omega
    rw [this]
    exact .int _
def enumOfF (as : List A) (M : Store) : EO Src := match as with
  | [.ftp xs] => .ok (.snap (pairsFrom 0 xs)) M
  | _ => .bad
def iEnumF (fs : EFs) : EI := fun τ M => (fs τ M).bind enumOfF
theorem ai_enumF {e : Expr} {fs : EFs} {p tpos : Pos} {elts : List Expr} {kk : Nat} (hm : X.mg "enumerate" = none) (ha : AA X W [e] fs) (hg : Gl X "enumerate" := by rfl) (hs : starEach [e] X.env = [(false, eval e X.env)] := by rfl) :
    AI X W (.Tuple elts kk tpos) (.Call (.Name "enumerate" p) [e] [] pos) (iEnumF fs) := (ET.pi_enumT hg hm ha hs).pre fun σ H R h => by
  obtain ⟨τ, M, ρ, rs, rm, r⟩ := h
  unfold iEnumF at r
  refine ⟨τ, M, ρ, rs, rm, ?_⟩
  cases ef : fs τ M with
  | ok as M1 =>
    rw [ef] at r
    have r : RE (X.gx W.Tb) W σ ρ H (relJ (X.am W.Tb)) (enumOfF as M1) R := r
    unfold enumOfF at r
    split at r
    · intro vs H1 ρ1 x g m i
      cases i with
      | cons i1 i =>
        cases i
        cases i1 with
        | ftp ht hc hd it => exact ⟨_, _, rfl, .inl (.inr ⟨_, ht⟩), r.okv x g m (srcJ_entF ht it)⟩
    · exact r.elim
  | ex en M1 => rw [ef] at r; exact r
  | bad => rw [ef] at r; exact r.elim
def srcOfF (a : A) (M : Store) : EO Src := match a with
  | .ftp xs => .ok (.snap xs) M
  | _ => .bad
def iSeqF (f : EF) : EI := fun τ M => (f τ M).bind srcOfF
theorem ai_seqF {tg l : Expr} (h : AE X W l f) : AI X W tg l (iSeqF f) := (pi_tup h).pre fun σ H R h => by
  obtain ⟨τ, M, ρ, rs, rm, r⟩ := h
  unfold iSeqF at r
  refine ⟨τ, M, ρ, rs, rm, ?_⟩
  cases e : f τ M with
  | ok a M1 =>
    rw [e] at r
    intro v H1 ρ1 x g m i
    cases a with
    | ftp xs =>
      cases i with
      | ftp ha hc hd is => exact ⟨_, rfl, ⟨_, .inl (.inr ⟨_, ha⟩)⟩, RE.okv (a := Src.snap xs) (M := M1) r x g m (srcJ_tupF ha is)⟩
    | _ => exact r.elim
  | ex en M1 => rw [e] at r; exact r
  | bad => rw [e] at r; exact r.elim
end
end AB
/-! AB62: backward steps for AB61 -/
namespace AB
open PySem PySem.Spec PyProof.Rows L2
section
variable {τ : Sl} {M : Store}
end
end AB
/-! AB63: a tuple so many times, also none -/
namespace AB
open PySem PySem.Spec PyProof.Rows L2
theorem tup_none (l : Addr) (items : Array Value) (n : Nat) (dd : Option Addr) (sl : Array (Option Value)) (u : Tok) (c1 : (items.isEmpty || (0 : Int) == 1) = false) (hz : (0 : Nat) ≤ sizeLine) :
    Meets (Builtin.«tuple.__mul__» ⟨[.ref l, .int 0 u], []⟩) (fun _ R s => s.heap.get? l = some { cls := .type "tuple", dict := dd, data := .seq items n, slots := sl } ∧
      R (.ok (.ret (Value.ref s.heap.objs.size))) { s with heap := s.heap.push { cls := Value.type "tuple", data := Data.seq #[] }, toks := s.toks }) :=
  .of_wp fun prog w A R s h => by
    obtain ⟨hp, g, d, tk, os⟩ := s
    obtain ⟨hl, h⟩ := h
    have f1 := AutoSeq1.idx_int
    wp_walk using wpAny_loadPart' hl
    repeat (first
      | (refine wpAny_ite_false (by decide) ?_; wp_walk using wpAny_loadPart' hl)
      | (refine wpAny_ite_false (decide_eq_false (by rw [c1]; exact Bool.false_ne_true)) ?_; wp_walk using wpAny_loadPart' hl)
      | (refine wpAny_ite_true (by simp) ?_; wp_walk using wpAny_loadPart' hl)
      | (refine wpAny_ite_false (decide_eq_false (Nat.not_lt.mpr hz)) ?_; wp_walk using wpAny_loadPart' hl))
    exact ⟨_, rfl, h⟩
def oMulZ : O2 := fun a b M => match a, b with
  | .tup xs, .int k => if k = 0 ∧ xs ≠ [] then some (.tup [], M) else oMulT (.tup xs) (.int k) M
  | _, _ => none
section
variable {X : Cx} {Tb : Tbl}
theorem op_mulZ : OpR X (binaryOp .Mult) (r2 (X.am Tb) oMulZ) := by
  intro pins s σ H x y v u Q I rx ry h
  obtain ⟨a, b, M, ρ, ia, ib, m, r⟩ := h
  unfold oMulZ at r
  split at r
  · rename_i xs k
    split at r
    · rename_i hc
      obtain ⟨rfl, hne⟩ := hc
      cases ib
      cases ia with
      | @tup l _ vs hl iv =>
        have hvl : xs.length = vs.length := iv.length
        obtain ⟨t, rfl⟩ := ry
        obtain rfl : v = .ref l := rx
        obtain ⟨its, r2, ⟨⟨cls, dd, data, sl⟩, ho, hc, n, hd⟩, hs⟩ := I.tuple (.inl (.inl hl))
        simp only at hc hd
        subst hc hd
        have hi : its.toArray.isEmpty = false := by
          cases its with
          | nil => exact absurd (List.eq_nil_of_length_eq_zero (by rw [hvl]; exact r2.length)) hne
          | cons a b => rfl
        refine wpAny_binaryOp_repeat_ref (T := "tuple") (U := "int") (by decide) ⟨_, ho, rfl⟩ (fun s' => typeIs_int s' 0 t) noFill_tuple_mul F.fills_int_mul F.slot_int_rmul repeat_tuple F.slot_int_index.lookup
          (call_meets F.slot_int_rmul (typeIs_int s 0 t) F.entry_int_rmul (F.args_int_rmul_2 _ _) (int_rmul_tuple 0 t l its.toArray n dd sl)
            ⟨ho, rfl, ⟨_, ho, rfl⟩, call_meets F.slot_tuple_mul ⟨_, ho, rfl⟩ F.entry_tuple_mul (F.args_tuple_mul_2 _ _) (tup_none l its.toArray n dd sl t (by rw [hi]; rfl) (Nat.zero_le _)) ⟨ho, ?_⟩⟩)
        have hn := I.hok.fresh (Nat.le_refl s.heap.objs.size)
        refine ⟨.ref s.heap.objs.size, _, I.laid (t' := s.toks) (o := .tup []) (fun b ob q => Heap.get?_push_of_some _ q) (Nat.le_refl _) ?_, rfl, r.newT m .nil hn⟩
        exact ⟨Nat.zero_le _, [], .nil, IsTup.new _ _⟩
    · exact op_mulT pins s σ H x y v u Q I rx ry ⟨_, _, M, ρ, ia, ib, m, r⟩
  · exact r.elim
end
end AB
/-! AB64: range(a, b) that is kept -/
namespace AB
open PySem PySem.Spec PyProof.Rows L2
theorem cr_range2V {X : Cx} : CallR X (.type "range") (fun vs H Q => ∃ i j, vs = [V.int i, V.int j] ∧ ∀ p, H p = none → Q (.ref p) (upd H p (.rng i j))) := by
  intro pins s σ H xs us Q I rv h
  obtain ⟨i, j, e, h⟩ := h
  subst e
  cases rv with
  | cons r rr =>
    cases rr with
    | cons r2 rr =>
      cases rr
      obtain ⟨t, rfl⟩ := r
      obtain ⟨t2, rfl⟩ := r2
      refine call_range_2 ?_
      have I2 : L2.Inv X pins σ (upd H s.heap.objs.size (.rng i j)) { s with heap := s.heap.push { cls := Value.type "range", data := Data.fields #[Value.int i t, Value.int j t2, Value.int 1 s.toks] }, toks := s.toks + 1 } := by
        refine I.turnedNew (ch := []) (fun b o _ hb => Heap.get?_push_of_some _ hb) (fun b hb => nomatch hb) (Nat.le_refl _) ?_
        unfold ObjOk
        exact ⟨_, _, _, Heap.get?_push_size _ rfl⟩
      exact ⟨.ref s.heap.objs.size, _, I2, rfl, h _ (I.hok.fresh (Nat.le_refl _))⟩
def oRange2 : On := fun as M => match as with
  | [.int i, .int j] => if -(2 ^ 62) ≤ i ∧ i < 2 ^ 62 ∧ -(2 ^ 62) ≤ j ∧ j < 2 ^ 62 then some (.rng i j, M) else none
  | _ => none
section
variable {X : Cx} {W : WR}
theorem cr_range2 : CallR X (.type "range") (rn (X.am W.Tb) oRange2) := by
  intro pins s σ H xs us Q I r h
  obtain ⟨as, M, ρ, is, m, ro⟩ := h
  unfold oRange2 at ro
  split at ro
  · rename_i i j
    split at ro
    · cases is with
      | cons i1 is =>
        cases is with
        | cons i2 is =>
          cases is
          cases i1
          cases i2
          exact cr_range2V pins s σ H _ us Q I r ⟨i, j, rfl, fun p hp => RO.newR (M := M) ro m hp⟩
    · exact ro.elim
  · exact ro.elim
end
def oAbs : On := fun as M => match as with
  | [.int i] => some (.int (if i < 0 then -i else i), M)
  | _ => none
section
variable {X : Cx} {W : WR}
theorem cr_absA : CallR X (.builtin "abs") (rn (X.am W.Tb) oAbs) := by
  intro pins s σ H xs us Q I r h
  obtain ⟨as, M, ρ, is, m, ro⟩ := h
  unfold oAbs at ro
  split at ro
  · cases is with
    | cons i1 is =>
      cases is
      cases i1
      exact call_abs pins s σ H _ us Q I r ⟨_, rfl, ro.val m (.int _)⟩
  · exact ro.elim
end
end AB
/-! AB65: min(l, key=lambda x: ..) that can be reckoned -/
namespace AB
open PySem PySem.Spec PyProof.Rows L2
section
variable {X : Cx} {W : WR} {e : Expr} {f g : EF}
theorem AE.weak (h : AE X W e f) (hw : ∀ τ M, g τ M = .bad ∨ f τ M = g τ M) : AE X W e g := ⟨fun pins s σ H Q I q => h.run pins s σ H Q I (by
  obtain ⟨τ, M, ρ, rs, rm, r⟩ := q
  refine ⟨τ, M, ρ, rs, rm, ?_⟩
  rcases hw τ M with e | e
  · rw [e] at r; exact r.elim
  · rw [e]; exact r)⟩
end
def PureF (f : EF) : Prop := ∀ τ M a M', f τ M = .ok a M' → M' = M
def keysA (flam : EF) (τ : Sl) (M : Store) : List A → Option (List Int)
  | [] => some []
  | x :: xs => match flam (τ ++ [some x]) M with
    | .ok (.int i) _ => (keysA flam τ M xs).map (i :: ·)
    | _ => none
theorem keysA_get {flam : EF} (hp : PureF flam) {τ : Sl} {M : Store} : ∀ {xs : List A} {ks : List Int}, keysA flam τ M xs = some ks → ∀ i x, xs[i]? = some x → flam (τ ++ [some x]) M = .ok (.int (ks.getD i 0)) M
  | [], _, _, i, x, hx => by simp at hx
  | y :: xs, ks, h, i, x, hx => by
    unfold keysA at h
    split at h
    · rename_i k M1 e1
      obtain ⟨ks', h2, rfl⟩ := Option.map_eq_some_iff.mp h
      cases i with
      | zero =>
        simp at hx
        subst hx
        have := hp _ _ _ _ e1
        subst this
        exact e1
      | succ i => exact keysA_get hp h2 i x (by simpa using hx)
    · cases h
def minKc (flam : EF) (τ : Sl) (a : A) (M : Store) : EO A := match a with
  | .lst l => match M[l]? with
    | some (.lst xs) => match keysA flam τ (M.set l (.frz xs)) xs with
      | some ks => if xs.isEmpty = true then .bad else
        match xs[argBest (fun i j => decide (ks.getD i 0 < ks.getD j 0)) (xs.length - 1)]? with
        | some x => .ok x M
        | none => .bad
      | none => .bad
    | _ => .bad
  | _ => .bad
def eMinKc (f flam : EF) : EF := fun τ M => (f τ M).bind (minKc flam τ)
theorem argBest_le (lt : Nat → Nat → Bool) : ∀ n, argBest lt n ≤ n
  | 0 => Nat.le_refl _
  | n + 1 => by
    have := argBest_le lt n
    unfold argBest
    split <;> omega
theorem argBest_congr {lt lt2 : Nat → Nat → Bool} : ∀ n, (∀ i j, i ≤ n → j ≤ n → lt i j = lt2 i j) → argBest lt n = argBest lt2 n
  | 0, _ => rfl
  | n + 1, h => by
    have ih := argBest_congr n fun i j hi hj => h i j (by omega) (by omega)
    have := argBest_le lt2 n
    unfold argBest
    rw [ih, h _ _ (by omega) (by omega)]
theorem minKc_le {flam : EF} (hp : PureF flam) (τ : Sl) (a : A) (M : Store) : minKc flam τ a M = .bad ∨ minK flam τ a M = minKc flam τ a M := by
  unfold minKc
  cases a with
  | lst l =>
    dsimp only
    cases e : M[l]? with
    | none => exact .inl rfl
    | some c =>
      cases c with
      | lst xs =>
        dsimp only
        cases ek : keysA flam τ (M.set l (.frz xs)) xs with
        | none => exact .inl rfl
        | some ks =>
          dsimp only
          cases xs with
          | nil => exact .inl rfl
          | cons y ys =>
            right
            have hk := keysA_get hp ek
            have hc : (y :: ys) ≠ [] ∧ ∃ kf : Nat → Int, ∀ i x, (y :: ys)[i]? = some x → flam (τ ++ [some x]) (M.set l (.frz (y :: ys))) = .ok (.int (kf i)) (M.set l (.frz (y :: ys))) := ⟨by simp, fun i => ks.getD i 0, hk⟩
            unfold minK
            dsimp only
            rw [e]
            dsimp only
            rw [dif_pos hc]
            have hs := Classical.choose_spec hc.2
            have eq : ∀ i, i ≤ (y :: ys).length - 1 → Classical.choose hc.2 i = ks.getD i 0 := fun i hi => by
              have hi : i < (y :: ys).length := by simp at hi ⊢; omega
              have a1 := hs i _ (List.getElem?_eq_getElem hi)
              have a2 := hk i _ (List.getElem?_eq_getElem hi)
              rw [a1] at a2
              injection a2 with a2
              injection a2
            have := argBest_congr (lt := fun i j => decide (Classical.choose hc.2 i < Classical.choose hc.2 j)) (lt2 := fun i j => decide (ks.getD i 0 < ks.getD j 0)) ((y :: ys).length - 1) fun i j hi hj => by
              rw [eq i hi, eq j hj]
            rw [this]
            rfl
      | _ => exact .inl rfl
  | _ => exact .inl rfl
theorem eMinKc_le {f flam : EF} (hp : PureF flam) (τ : Sl) (M : Store) : eMinKc f flam τ M = .bad ∨ eMinK f flam τ M = eMinKc f flam τ M := by
  unfold eMinKc eMinK
  cases f τ M with
  | ok a M1 => exact minKc_le hp τ a M1
  | ex en M1 => exact .inr rfl
  | bad => exact .inl rfl
def PureO (o : O2) : Prop := ∀ a b M c M', o a b M = some (c, M') → M' = M
def PureN (o : On) : Prop := ∀ as M c M', o as M = some (c, M') → M' = M
theorem toE_ok {α : Type} {x : Option (α × Store)} {a : α} {M : Store} (h : toE x = .ok a M) : x = some (a, M) := by
  cases x with
  | none => cases h
  | some q =>
    obtain ⟨b, M1⟩ := q
    injection h with h1 h2
    rw [h1, h2]
theorem pure_op {o : O2} {f g : EF} (ho : PureO o) (hf : PureF f) (hg : PureF g) : PureF (eOp o f g) := fun τ M a M' h => by
  unfold eOp at h
  cases ef : f τ M with
  | ok b M1 =>
    have e1 := hf _ _ _ _ ef
    subst e1
    rw [ef] at h
    cases eg : g τ M1 with
    | ok c M2 =>
      have e2 := hg _ _ _ _ eg
      subst e2
      have h2 : (g τ M2).bind (fun b' M3 => toE (o b b' M3)) = .ok a M' := h
      rw [eg] at h2
      have h3 : toE (o b c M2) = .ok a M' := h2
      exact ho _ _ _ _ _ (toE_ok h3)
    | ex en M2 =>
      have h2 : (g τ M1).bind (fun b' M3 => toE (o b b' M3)) = .ok a M' := h
      rw [eg] at h2; cases h2
    | bad =>
      have h2 : (g τ M1).bind (fun b' M3 => toE (o b b' M3)) = .ok a M' := h
      rw [eg] at h2; cases h2
  | ex en M1 => rw [ef] at h; cases h
  | bad => rw [ef] at h; cases h
theorem pure_fn1 {o : On} {f : EF} (ho : PureN o) (hf : PureF f) : PureF (eFn o (eCons f eNil)) := fun τ M a M' h => by
  unfold eFn eCons eNil at h
  cases ef : f τ M with
  | ok b M1 =>
    rw [ef] at h
    have h : toE (o [b] M1) = .ok a M' := h
    have := hf _ _ _ _ ef
    subst this
    exact ho _ _ _ _ (toE_ok h)
  | ex en M1 => rw [ef] at h; cases h
  | bad => rw [ef] at h; cases h
theorem pure_ix : PureO oIx := fun a b M c M' h => by
  unfold oIx at h
  split at h
  · obtain ⟨x, _, h⟩ := Option.map_eq_some_iff.mp h
    injection h with _ h; exact h.symm
  · obtain ⟨xs, _, h⟩ := Option.bind_eq_some_iff.mp h
    obtain ⟨x, _, h⟩ := Option.map_eq_some_iff.mp h
    injection h with _ h; exact h.symm
  · cases h
theorem pure_var {i : Nat} : PureF (eVar i) := fun τ M a M' h => by
  unfold eVar at h
  split at h
  · injection h with _ h; exact h.symm
  · cases h
theorem pure_C {a : A} : PureF (eC a) := fun τ M b M' h => by
  unfold eC at h
  injection h with _ h; exact h.symm
end AB
/-! AB66: x[i], y[j] = a, b for lists; min of a list of tuples of ints; for k, v in d.items(); sorted(d) by tuples -/
namespace AB
open PySem PySem.Spec PyProof.Rows L2
/-- one x[i] = v on the way -/
def setK (fo fi : EF) (τ : Sl) (v : A) (K : Store → SO) (M : Store) : SO := (fo τ M).bindS τ fun x M2 => (fi τ M2).bindS τ fun i M3 => match oSetL M3 x i v with
  | some M4 => K M4
  | none => .bad
def swapS (fo fi fo2 fi2 : EF) (τ : Sl) (as : List A) (M : Store) : SO := match as with
  | [v, y] => setK fo fi τ v (setK fo2 fi2 τ y fun M => .nx τ M) M
  | _ => .bad
def sSwap (fo fi fo2 fi2 : EF) (fs : EFs) : SF := fun τ M => (fs τ M).bindS τ (swapS fo fi fo2 fi2 τ)
section
variable {X : Cx} {W : WR} {pos : Pos} {a b : Expr} {fs : EFs}
theorem setK_ok {D : Ends} {fo fi : EF} {τ : Sl} {M : Store} {ρ : List Addr} {σ : L2.St} {H : Hp} {av : A} {v : V} {K : Store → SO} {Q : L2.St → Hp → Prop}
    (rs : RS W ρ H τ σ) (rm : RM (X.am W.Tb) ρ H M) (ia : Is ρ H av v) (r : RSO (X.gx W.Tb) W D ρ H (setK fo fi τ av K M))
    (fin : ∀ H4 ρ4 M4, Ext ρ ρ4 → Grow H H4 → RM (X.am W.Tb) ρ4 H4 M4 → RSO (X.gx W.Tb) W D ρ4 H4 (K M4) → Q σ H4) :
    gSub (tG (X.gx W.Tb) W Is fo) (tG (X.gx W.Tb) W Is fi) rSetL v σ H Q := by
  refine ⟨τ, M, ρ, rs, rm, ?_⟩
  unfold setK at r
  cases e1 : fo τ M with
  | ok a' M2 =>
    rw [e1] at r
    intro x H2 ρ2 x2 g2 m2 i2
    have r := RSO.mono r x2 g2
    have r : RSO (X.gx W.Tb) W D ρ2 H2 ((fi τ M2).bindS τ fun i M3 => match oSetL M3 a' i av with
      | some M4 => K M4
      | none => .bad) := r
    refine ⟨τ, M2, ρ2, rs.mono x2 g2, m2, ?_⟩
    cases e2 : fi τ M2 with
    | ok k M3 =>
      rw [e2] at r
      intro y H3 ρ3 x3 g3 m3 i3
      have r : RSO (X.gx W.Tb) W D ρ3 H3 (match oSetL M3 a' k av with
        | some M4 => K M4
        | none => .bad) := RSO.mono r x3 g3
      unfold oSetL at r
      cases a' with
      | lst l =>
        cases k with
        | int j =>
          cases i3
          cases i2.mono x3 g3 with
          | lst hb =>
            dsimp only at r
            cases e3 : M3[l]? with
            | none => rw [e3] at r; exact r.elim
            | some cc =>
              rw [e3] at r
              cases cc with
              | lst xs =>
                dsimp only at r
                obtain ⟨vs, hh, is⟩ := m3.lstM hb e3
                cases e4 : ixN xs.length j with
                | none => rw [e4] at r; exact r.elim
                | some jj =>
                  rw [e4] at r
                  have g4 := m3.growSet (o := .lst (vs.set jj v)) hb e3
                  have i4 := (((ia.mono x2 g2).mono x3 g3)).mono (.refl ρ3) g4
                  refine ⟨_, vs, j, jj, rfl, rfl, hh, by rw [← is.length]; exact e4, ?_⟩
                  exact fin _ ρ3 _ (x2.trans x3) ((g2.trans g3).trans g4) (m3.set (c' := .lst (xs.set jj av)) hb e3 ⟨_, upd_same, IsAll.set i4 jj (is.mono (.refl _) g4)⟩) (RSO.mono r (.refl _) g4)
              | _ => exact r.elim
        | _ => exact r.elim
      | _ => exact r.elim
    | ex en M3 => rw [e2] at r; exact fun c d H3 ρ3 x g m i => r c d σ H3 ρ3 x g m ((rs.mono x2 g2).mono x g) i
    | bad => rw [e2] at r; exact r
  | ex en M2 => rw [e1] at r; exact fun c d H2 ρ2 x g m i => r c d σ H2 ρ2 x g m (rs.mono x g) i
  | bad => rw [e1] at r; exact r
theorem as_swap {o i o2 i2 : Expr} {ps ps2 pt : Pos} {kt k2 pt2} {fo fi fo2 fi2 : EF} (hc : X.calm = true) (ho : AE X W o fo) (hk : AE X W i fi) (ho2 : AE X W o2 fo2) (hk2 : AE X W i2 fi2) (ha : AA X W [a, b] fs)
    (hs : swapsWithSole [.Tuple [.Subscript o i ps, .Subscript o2 i2 ps2] kt pt] (.Tuple [a, b] k2 pt2) pos.line X.env = pure false := by rfl) (hw : swappedStores [.Tuple [.Subscript o i ps, .Subscript o2 i2 ps2] kt pt] (.Tuple [a, b] k2 pt2) X.env = pure none := by rfl)
    (h1 : (assignEach [.Tuple [.Subscript o i ps, .Subscript o2 i2 ps2] kt pt] X.env).map (·.2) = [assign (.Tuple [.Subscript o i ps, .Subscript o2 i2 ps2] kt pt) X.env] := by rfl)
    (hn : (assignEach [.Subscript o i ps, .Subscript o2 i2 ps2] X.env).length = 2 := by rfl) (hst : (assignEach [.Subscript o i ps, .Subscript o2 i2 ps2] X.env).findIdx? (·.1) = none := by rfl)
    (hc1 : (assignEach [.Subscript o i ps, .Subscript o2 i2 ps2] X.env).map (·.2) = assign (.Subscript o i ps) X.env :: (assignEach [.Subscript o2 i2 ps2] X.env).map (·.2) := by rfl) (hc2 : (assignEach [.Subscript o2 i2 ps2] X.env).map (·.2) = assign (.Subscript o2 i2 ps2) X.env :: (assignEach [] X.env).map (·.2) := by rfl)
    (hsub : ∀ v, assign (.Subscript o i ps) X.env v = (do
      let ov ← holding [v] (eval o X.env)
      let iv ← holding [v, ov] (eval i X.env)
      standAt ps
      holding [v, ov, iv] (setItem ov iv v)
      release [v, ov, iv] []) := by intro _; rfl)
    (hsub2 : ∀ v, assign (.Subscript o2 i2 ps2) X.env v = (do
      let ov ← holding [v] (eval o2 X.env)
      let iv ← holding [v, ov] (eval i2 X.env)
      standAt ps2
      holding [v, ov, iv] (setItem ov iv v)
      release [v, ov, iv] []) := by intro _; rfl) :
    AS X W (.Assign [.Tuple [.Subscript o i ps, .Subscript o2 i2 ps2] kt pt] (.Tuple [a, b] k2 pt2) pos) (sSwap fo fi fo2 fi2 fs) :=
  (ps_asg (pe_tup ha) (pg_tup (n := 2) hc (pgs_cons (pg_sub ho hk set_list hsub) (pgs_cons (pg_sub ho2 hk2 set_list hsub2) pgs_nil hc2) hc1) hn hst) hs hw h1).pre fun D σ H h => (bindS_tK IsAll h).imp fun vs H1 h1 => by
  obtain ⟨τ, M, ρ, as, rs, rm, is, r⟩ := h1
  cases is with
  | nil => exact r.elim
  | @cons av v _ _ i1 is =>
    cases is with
    | nil => exact r.elim
    | @cons ay y _ _ i2 is =>
      cases is with
      | cons _ _ => exact r.elim
      | nil =>
        refine ⟨by show 2 ≤ sizeLine; decide, fun p hp => ⟨p, _, rfl, .inl (.inl upd_same), rfl, v, [y], rfl, ?_⟩⟩
        have gp : Grow H1 (upd H1 p (.tup [v, y])) := .new hp
        have r : RSO (X.gx W.Tb) W D ρ H1 (setK fo fi τ av (setK fo2 fi2 τ ay fun M => .nx τ M) M) := r
        have r := RSO.mono r (.refl _) gp
        refine setK_ok (rs.mono (.refl _) gp) (rm.new hp) (i1.mono (.refl _) gp) r fun H4 ρ4 M4 x4 g4 m4 r4 => ⟨y, [], rfl, ?_⟩
        refine setK_ok ((rs.mono (.refl _) gp).mono x4 g4) m4 ((i2.mono (.refl _) gp).mono x4 g4) r4 fun H5 ρ5 M5 x5 g5 m5 r5 => ⟨rfl, ?_⟩
        exact r5 _ _ ρ5 (.refl _) (.refl _) m5 (((rs.mono (.refl _) gp).mono x4 g4).mono x5 g5)
end
/-! ### min of tuples of ints -/
def dT (is : List Int) : PyData := .tuple (is.map PyData.int)
def minL (x : List Int) (xs : List (List Int)) : List Int := xs.foldl (fun a y => if W.dataLt (dT y) (dT a) = true then y else a) x
theorem minD_dT : ∀ (xs : List (List Int)) (x : List Int), W.minD (dT x) (xs.map dT) = dT (minL x xs)
  | [], _ => rfl
  | y :: ys, x => by
    show W.minD (if W.dataLt (dT y) (dT x) = true then dT y else dT x) (ys.map dT) = dT (minL (if W.dataLt (dT y) (dT x) = true then y else x) ys)
    split
    · exact minD_dT ys y
    · exact minD_dT ys x
def oMinT : On := fun as M => match as with
  | [.lst l] => match listAt M l with
    | some xs => match tups? xs with
      | some (q0 :: q) => some (tupI (minL q0 q), M)
      | _ => none
    | none => none
  | _ => none
theorem readsAll_ints {h : Heap} : ∀ {vs : List Value} {ns ms : List Int} {bs : List Addr}, IntsAre vs ns → ReadsAll h vs (ms.map PyData.int) bs → ms = ns
  | [], ns, ms, bs, a, r => by
    cases a
    cases ms with
    | nil => rfl
    | cons => cases r
  | v :: vs, ns, ms, bs, a, r => by
    cases ms with
    | nil => cases r
    | cons m ms =>
      cases a with
      | cons n t a2 =>
        cases r with
        | cons r1 r2 =>
          cases r1
          rw [readsAll_ints a2 r2]
theorem depth_dTs : ∀ q : List (List Int), PyData.depthAll (q.map dT) ≤ 2 := by
  have h1 : ∀ is : List Int, PyData.depthAll (is.map PyData.int) ≤ 1 := fun is => by
    induction is with
    | nil => simp [PyData.depthAll]
    | cons i is ih => simp only [List.map_cons, PyData.depthAll, PyData.depth]; omega
  intro q
  induction q with
  | nil => simp [PyData.depthAll]
  | cons x q ih =>
    have := h1 x
    simp only [List.map_cons, PyData.depthAll, dT, PyData.depth] at ih ⊢
    omega
section
variable {X : Cx} {W : WR}
theorem cr_minT (hu : X.A.units + 9 < cLine) (hc : X.calm = true) : CallR X (.builtin "min") (rn (X.am W.Tb) oMinT) := by
  intro pins s σ H xs us Q I r h
  obtain ⟨as, M, ρ, is, m, ro⟩ := h
  unfold oMinT at ro
  split at ro
  · rename_i l
    cases is with
    | cons i1 is =>
      cases is
      cases i1 with
      | lst hl =>
        split at ro
        · rename_i ys el
          split at ro
          · rename_i q0 q eq
            obtain ⟨rfl, hne⟩ := tups_of eq
            obtain ⟨vs, hs, iv⟩ := m.list hl el
            obtain ⟨its, rv, hL, hz⟩ := I.list hs
            rw [Vals.ref1 r]
            have items : ∀ (q : List (List Int)) (vs : List V) (its : List Value), IsAll ρ H (q.map tupI) vs → Vals vs its → (∃ as, ReadsAll s.heap its (q.map dT) as) ∧ ∀ (i : Nat) (v : Value), its[i]? = some v → ∃ (a : Addr) (ns : List Int), v = .ref a ∧ H a = some (.tup (ns.map V.int)) := by
              intro q
              induction q with
              | nil => intro vs its i r; cases i; cases r; exact ⟨⟨_, .nil⟩, fun i v e => by simp at e⟩
              | cons n q ih =>
                intro vs its i r
                cases i with
                | cons i1 i2 =>
                  cases r with
                  | cons r1 r2 =>
                    obtain ⟨⟨as, a1⟩, a2⟩ := ih _ _ i2 r2
                    obtain ⟨a, rfl, ha⟩ := tupI_is i1
                    cases r1
                    obtain ⟨_, tv, trv, o, h1, h2, nn, h3⟩ := I.hok _ _ ha
                    refine ⟨⟨_, .cons (.tuple h1 h2 h3 (SM.reads_ints (by simpa using intsAre_of trv))) a1⟩, fun i v e => ?_⟩
                    cases i with
                    | zero => cases e; exact ⟨a, n, rfl, ha⟩
                    | succ i => exact a2 i v (by simpa using e)
            obtain ⟨⟨as, ra⟩, hat⟩ := items _ vs its iv rv
            have hd := depth_dTs (q0 :: q)
            refine PySem.W.min_list_data (xs := q.map dT) (x := dT q0) (I.ok.hd hc) hL.isList (by simpa using ra) ⟨?_, ?_⟩ (by simp only [List.map_cons] at hd; omega) fun i v h' tk bs hv hr kp => ?_
            · intro x hx y hy
              have ex : x ∈ (q0 :: q).map dT := hx
              have ey : y ∈ (q0 :: q).map dT := hy
              obtain ⟨x', hx', rfl⟩ := List.mem_map.mp ex
              obtain ⟨y', hy', rfl⟩ := List.mem_map.mp ey
              unfold dT
              rw [PySem.W.alike]
              exact SM.alike_ints _ _
            · intro x hx
              have ex : x ∈ (q0 :: q).map dT := hx
              obtain ⟨x', hx', rfl⟩ := List.mem_map.mp ex
              intro z
              cases z
            · obtain ⟨a, ns, rfl, ha⟩ := hat i v (by simpa using hv)
              obtain ⟨_, tv, trv, o, h1, h2, nn, h3⟩ := I.hok _ _ ha
              rw [minD_dT] at hr
              have em : minL q0 q = ns := by
                unfold dT at hr
                cases hr with
                | tuple k1 k2 k3 k4 =>
                  rw [kp _ _ h1] at k1
                  cases k1
                  rw [h3] at k3
                  cases k3
                  exact readsAll_ints (by simpa using intsAre_of trv) k4
              rw [em] at ro
              exact ⟨.ref a, H, I.kept (t' := tk) kp, rfl, ro.val m (is_tupI ha)⟩
          · exact ro.elim
        · exact ro.elim
  · exact ro.elim
end
/-! ### min(.., key=..) that can be reckoned -/
def IntF (f : EF) : Prop := ∀ τ M a M', f τ M = .ok a M' → ∃ i, a = .int i
theorem pure_lenN : PureN oLenN := fun as M c M' h => by
  have hl : ∀ as M c M', oLen as M = some (c, M') → M' = M := fun as M c M' h => by
    unfold oLen at h
    repeat' split at h
    all_goals first
      | (injection h with h; injection h with _ h; exact h.symm)
      | (obtain ⟨x, _, h⟩ := Option.map_eq_some_iff.mp h; injection h with _ h; exact h.symm)
      | cases h
  unfold oLenN at h
  repeat' split at h
  all_goals first
    | (injection h with h; injection h with _ h; exact h.symm)
    | exact hl _ _ _ _ h
theorem int_lenN : ∀ {as M c M'}, oLenN as M = some (c, M') → ∃ i, c = .int i := fun {as M c M'} h => by
  have hl : ∀ as M c M', oLen as M = some (c, M') → ∃ i, c = .int i := fun as M c M' h => by
    unfold oLen at h
    repeat' split at h
    all_goals first
      | (injection h with h; injection h with h _; exact ⟨_, h.symm⟩)
      | (obtain ⟨x, _, h⟩ := Option.map_eq_some_iff.mp h; injection h with h _; exact ⟨_, h.symm⟩)
      | cases h
  unfold oLenN at h
  repeat' split at h
  all_goals first
    | (injection h with h; injection h with h _; exact ⟨_, h.symm⟩)
    | exact hl _ _ _ _ h
theorem int_fn1 {o : On} {f : EF} (ho : ∀ {as M c M'}, o as M = some (c, M') → ∃ i, c = .int i) : IntF (eFn o (eCons f eNil)) := fun τ M a M' h => by
  unfold eFn eCons eNil at h
  cases ef : f τ M with
  | ok b M1 =>
    rw [ef] at h
    have h : toE (o [b] M1) = .ok a M' := h
    exact ho (toE_ok h)
  | ex en M1 => rw [ef] at h; cases h
  | bad => rw [ef] at h; cases h
theorem pure_addI {f g : EF} (hf : PureF f) (hg : PureF g) (hi : IntF f) : PureF (eOp oAdd f g) := fun τ M a M' h => by
  unfold eOp at h
  cases ef : f τ M with
  | ok b M1 =>
    have e1 := hf _ _ _ _ ef
    subst e1
    obtain ⟨i, rfl⟩ := hi _ _ _ _ ef
    rw [ef] at h
    cases eg : g τ M1 with
    | ok c M2 =>
      have e2 := hg _ _ _ _ eg
      subst e2
      have h2 : (g τ M2).bind (fun b' M3 => toE (oAdd (.int i) b' M3)) = .ok a M' := h
      rw [eg] at h2
      have h3 : toE (oAdd (.int i) c M2) = .ok a M' := h2
      have h4 := toE_ok h3
      cases c with
      | int j => injection h4 with h4; injection h4 with _ h4; exact h4.symm
      | _ => cases h4
    | ex en M2 =>
      have h2 : (g τ M1).bind (fun b' M3 => toE (oAdd (.int i) b' M3)) = .ok a M' := h
      rw [eg] at h2; cases h2
    | bad =>
      have h2 : (g τ M1).bind (fun b' M3 => toE (oAdd (.int i) b' M3)) = .ok a M' := h
      rw [eg] at h2; cases h2
  | ex en M1 => rw [ef] at h; cases h
  | bad => rw [ef] at h; cases h
end AB
/-! AB67: for k, v in d.items(): the dict is locked, and stays so; sorted(d) of a dict by tuples of ints -/
namespace AB
open PySem PySem.Spec PyProof.Rows L2
section
variable {X : Cx} {W : WR} {pos : Pos} {e : Expr} {f : EF}
theorem pe_lockK {td : TE} (he : PE X e td) : PE X e (fun σ H Q => td σ H fun x H1 => ∃ d kvs, x = V.ref d ∧ H1 d = some (.dK kvs) ∧ ∀ od, Q x (upd H1 d (.frz od (.dK kvs)))) := by
  refine ⟨fun pins s σ H Q I h => ?_⟩
  refine thn (he.run pins s σ H _ I h) fun u s1 ⟨x, H0, I0, rx, d, kvs, ex, hd, q⟩ => ?_
  obtain ⟨od, I1⟩ := I0.lock hd trivial
  exact ⟨x, _, I1, rx, q od⟩
def itOf (a : A) (M : Store) : EO Src := match a with
  | .dct l => match M[l]? with
    | some (.dK kvs) => .ok (.snap (kvs.map itemA)) (M.set l (.fk kvs))
    | _ => .bad
  | _ => .bad
def iItemsA (f : EF) : EI := fun τ M => (f τ M).bind itOf
theorem srcJ_items {w : Amb} {ρ1 : List Addr} {H1 : Hp} {d : Addr} {od : Obj} {kvs : List (Key × A)} {vs : List V} (hlen : (kvs.map (·.1)).length = vs.length) (h1 : H1 d = some (.frz od (.dK ((kvs.map (·.1)).zip vs)))) (iis : IsAll ρ1 H1 (kvs.map (·.2)) vs) : SrcJ w ρ1 H1 (.snap (kvs.map itemA)) (Iti d od ((kvs.map (·.1)).zip vs)) := by
  intro ρ2 H2 M2 j x g m
  have hf : H2 d = some (.frz od (.dK ((kvs.map (·.1)).zip vs))) := g d _ (.frz _ _) h1
  have hzl : ((kvs.map (·.1)).zip vs).length = kvs.length := by rw [List.length_zip, ← hlen]; simp
  simp only [Src.at]
  cases e : (kvs.map itemA)[j]? with
  | none =>
    have := List.getElem?_eq_none_iff.mp e
    rw [List.length_map] at this
    exact ⟨hf, by rw [hzl]; exact this⟩
  | some y =>
    have hj := (List.getElem?_eq_some_iff.mp e).1
    rw [List.length_map] at hj
    refine ⟨⟨hf, by rw [hzl]; exact hj⟩, fun v H3 ⟨T, k, w, e4, e5, hT, e6⟩ => ?_⟩
    subst e5 e6
    rw [List.getElem?_map] at e
    cases ekv : kvs[j]? with
    | none => rw [ekv] at e; cases e
    | some kv =>
      rw [ekv] at e
      cases e
      obtain ⟨z1, z2⟩ := List.getElem?_zip_eq_some.mp e4
      rw [List.getElem?_map, ekv] at z1
      cases z1
      obtain ⟨t, ht, it⟩ := iis.getV z2
      rw [List.getElem?_map, ekv] at ht
      cases ht
      exact ⟨.new hT, m.new hT, .tup upd_same (.cons (keyA_is kv.1) (.cons ((it.mono x g).mono (.refl _) (.new hT)) .nil))⟩
theorem ai_itemsL {apos cpos tpos : Pos} {elts : List Expr} {kk : Nat} (he : AE X W e f) (hbase : attributeBase e "items" X.env (eval e X.env) = eval e X.env := by rfl) (hline : (apos.endLine == cpos.line) = true := by rfl) : AI X W (.Tuple elts kk tpos) (.Call (.Attribute e "items" apos) [] [] cpos) (iItemsA f) := (pi_items (pe_lockK he) hbase hline).pre fun σ H R h => by
  obtain ⟨τ, M, ρ, rs, rm, r⟩ := h
  unfold iItemsA at r
  refine ⟨τ, M, ρ, rs, rm, ?_⟩
  cases e : f τ M with
  | ok a M1 =>
    rw [e] at r
    intro v H1 ρ1 x g m i
    have r : RE (X.gx W.Tb) W σ ρ H (relJ (X.am W.Tb)) (itOf a M1) R := r
    unfold itOf at r
    split at r
    · split at r
      · rename_i kvs ec
        cases i with
        | @dct _ d hl =>
        obtain ⟨vs, hH, iis⟩ := m.at_ _ _ _ hl ec
        have hlen : (kvs.map (·.1)).length = vs.length := by have := iis.length; simpa using this
        refine ⟨d, _, rfl, hH, fun od => ?_⟩
        have gL : Grow H1 (upd H1 d (.frz od (.dK ((kvs.map (·.1)).zip vs)))) := m.growSet hl ec
        have mL : RM (X.gx W.Tb).w ρ1 (upd H1 d (.frz od (.dK ((kvs.map (·.1)).zip vs)))) (M1.set _ (.fk kvs)) := m.set hl ec ⟨od, vs, upd_same, iis.mono (.refl _) gL⟩
        refine ⟨d, od, _, rfl, upd_same, ?_⟩
        exact RE.okv r x (g.trans gL) mL (srcJ_items hlen upd_same (iis.mono (.refl _) gL))
      · exact r.elim
    · exact r.elim
  | ex en M1 => rw [e] at r; exact r
  | bad => rw [e] at r; exact r
/-- sorted(d) of a dict whose keys are tuples of ints -/
def oSortDN : On := fun as M => match as with
  | [.dct d] => match M[d]? with
    | some (.dN kvs) => match tups? (kvs.map fun kv => ofN kv.1) with
      | some q => some (.lst M.length, M ++ [.lst ((SX.sortL q).map tupI)])
      | none => none
    | _ => none
  | _ => none
theorem cr_sortDN (hcalm : X.calm = true) : CallR X (.builtin "sorted") (rn (X.am W.Tb) oSortDN) := by
  intro pins s σ H xs us Q I r h
  obtain ⟨as, M, ρ, is, m, ro⟩ := h
  unfold oSortDN at ro
  split at ro
  · rename_i d
    split at ro
    · rename_i kvs ec
      split at ro
      · rename_i q eq
        cases is with
        | cons i1 is =>
          cases is
          cases i1 with
          | @dct _ a hl =>
          obtain ⟨u, rfl, rx⟩ := vals1 r
          cases rx
          obtain ⟨bs, vs, us', hh, iks, ivs, dp, rv, l1, l3, hsz, hsm, hnd, D⟩ := nest_dict I m hl ec
          have rl : (rowsN (kvs.map (·.1)) bs us').length = kvs.length := by rw [rowsN_len (by simpa using l1) (by simpa using l3)]; simp
          have rb := rowsN_bs (ks := kvs.map (·.1)) (bs := bs) (us := us') (by simpa using l1) (by simpa using l3)
          obtain ⟨o, es, ep, ho, hx, hdt, he, _, hn⟩ := D
          have l4 : es.size = kvs.length := (size_of_entries he).trans rl
          refine Calls.call_function_entry PyProof.Rows.kind_sorted PyProof.Rows.plain_sorted PyProof.Rows.entry_sorted (PyProof.Rows.args_sorted1 _) ?_
          unfold Builtin.«sorted»
          refine wpAny_bind (m := checkCount "sorted" 1 1 _) (wpAny_pure ?_)
          refine wpAny_bind (PySem.W.kdu_collect (A := X.A.in1) (kdl_raw hsm hx hdt) (I.ok.hd hcalm) ho (by omega) fun h' tk acc' kp it => ?_)
          have ea : acc'.toList = (rowsN (kvs.map (·.1)) bs us').map fun x => Value.ref x.2.1 := by
            have hl : acc'.toList.length = (rowsN (kvs.map (·.1)) bs us').length := by rw [Array.length_toList, it.1]; exact l4.trans rl.symm
            apply List.ext_getElem?
            intro j
            rw [List.getElem?_map]
            cases hj : acc'.toList[j]? with
            | none =>
              have h1 := List.getElem?_eq_none_iff.mp hj
              rw [List.getElem?_eq_none (by omega)]
              all_goals rfl
            | some v =>
              obtain ⟨en, hen, hv⟩ := it.2 j v (by rw [← Array.getElem?_toList]; exact hj)
              have qe := entry_at he j
              rw [hen] at qe
              cases hb : (rowsN (kvs.map (·.1)) bs us')[j]? with
              | none =>
                rw [hb] at qe
                exact nomatch (show some en = none from qe)
              | some b =>
                rw [hb] at qe
                have e2 : en = entryOfKey (nestedKind X.prog X.w) b := Option.some.inj qe
                rw [hv, e2]
                all_goals rfl
          have eb : acc'.toList = bs.map Value.ref := by
            rw [ea, ← rb, List.map_map]
            rw [rb]
            all_goals rfl
          have rv2 : Vals (bs.map V.ref) acc'.toList := by rw [eb]; exact vals_refs _
          have I3 : L2.Inv X pins σ H { s with heap := h', toks := tk } := I.kept kp
          obtain ⟨eqs, hne⟩ := tups_of eq
          rw [eqs] at iks
          have items : ∀ (q : List (List Int)) (vs : List V) (its : List Value), IsAll ρ H (q.map tupI) vs → Vals vs its → (∀ x ∈ q, x ≠ []) → (∀ u ∈ its, SX.IsTI h' u (kOf H u) ∧ kOf H u ≠ []) ∧ its.map (kOf H) = q ∧ ∀ u ∈ its, ∃ a, u = .ref a ∧ H a = some (.tup ((kOf H u).map V.int)) := by
            intro q
            induction q with
            | nil => intro vs its i r _; cases i; cases r; exact ⟨fun _ z => (by cases z), rfl, fun _ z => (by cases z)⟩
            | cons n q ih =>
              intro vs its i r hne
              cases i with
              | cons i1 i2 =>
                cases r with
                | cons r1 r2 =>
                  obtain ⟨a1, a2, a3⟩ := ih _ _ i2 r2 fun x hx => hne x (List.mem_cons_of_mem _ hx)
                  obtain ⟨a, rfl, ha⟩ := tupI_is i1
                  cases r1
                  have ek := kOf_tup ha
                  obtain ⟨_, tv, trv, o, h1, h2, nn, h3⟩ := I3.hok _ _ ha
                  have ti : SX.IsTI h' (.ref a) (kOf H (.ref a)) := by
                    rw [ek]
                    exact ⟨a, o, tv.toArray, nn, rfl, h1, h2, h3, by simpa using intsAre_of trv⟩
                  refine ⟨fun u hu => ?_, by simp [ek, a2], fun u hu => ?_⟩
                  · rcases List.mem_cons.mp hu with rfl | hu
                    · exact ⟨ti, by rw [ek]; exact hne n List.mem_cons_self⟩
                    · exact a1 u hu
                  · rcases List.mem_cons.mp hu with rfl | hu
                    · exact ⟨a, rfl, by rw [ek]; exact ha⟩
                    · exact a3 u hu
          obtain ⟨hp, hk, hr⟩ := items q _ _ iks rv2 hne
          have hz : acc'.toList.length ≤ sizeLine := by rw [Array.length_toList, it.1, l4]; omega
          refine wpAny_bind (wpAny_newList ?_ hz)
          have hoL : (h'.push (seqObj "list" acc'.toList.toArray 0)).get? h'.objs.size = some (seqObj "list" acc'.toList.toArray 0) := Heap.get?_push_size _ rfl
          show wpAny _ _ _ _ _ { s with heap := h'.push (seqObj "list" acc'.toList.toArray 0), toks := tk }
          refine wpAny_bind (wpAny_holding (wpAny_call_entry PyProof.Rows.slot_list_sort ⟨_, hoL, rfl⟩ PyProof.Rows.entry_list_sort (SrtO.list_sort_ord (s := { s with heap := h'.push (seqObj "list" acc'.toList.toArray 0), toks := tk }) (SX.swo_L (kOf H)) hoL hz (fun h2 => ?_) fun out h1 h2 => ⟨_, rfl, ?_⟩) (PyProof.Rows.args_list_sort _)))
          · refine SX.ti_sortable (by omega) (fun v hm => ⟨(hp v hm).1.keeps fun b o e _ => Heap.get?_push_of_some _ e, (hp v hm).2⟩) fun o e => ?_
            have e' : some o = some (seqObj "list" acc'.toList.toArray 0) := e.symm.trans hoL
            cases e'
            intro c
            exact absurd (Value.type.inj c) (by decide)
          · obtain ⟨ep, he'⟩ := PyProof.Rows.sortedHeap_at (vs := acc'.toList) (out := out.toArray) hoL
            have mem : ∀ u ∈ out, ∃ a, u = .ref a ∧ H a = some (.tup ((kOf H u).map V.int)) := fun u hu => hr u (h2.perm.mem_iff.mp hu)
            have outs : ∀ (l : List Value), (∀ u ∈ l, ∃ a, u = .ref a ∧ H a = some (.tup ((kOf H u).map V.int))) → ∃ vs : List V, Vals vs l ∧ IsAll ρ H ((l.map (kOf H)).map tupI) vs := by
              intro l
              induction l with
              | nil => intro _; exact ⟨[], .nil, .nil⟩
              | cons u l ih =>
                intro hm
                obtain ⟨vs, v1, v2⟩ := ih fun x hx => hm x (List.mem_cons_of_mem _ hx)
                obtain ⟨a, rfl, ha⟩ := hm u List.mem_cons_self
                exact ⟨.ref a :: vs, .cons rfl v1, .cons (is_tupI ha) v2⟩
            obtain ⟨ws, w1, w2⟩ := outs out mem
            have esort : out.map (kOf H) = SX.sortL q := by
              refine SX.up_unique ?_ (SX.sortL_up q) ?_
              · exact List.pairwise_map.mpr h1
              · have := h2.perm.map (kOf H)
                rw [hk] at this
                exact this.trans (SX.sortL_perm q).symm
            rw [esort] at w2
            have hlen : ws.length ≤ sizeLine := by
              rw [w1.length, h2.perm.length_eq]; exact hz
            refine wpAny_pure ⟨_, rfl, .ref h'.objs.size, upd H h'.objs.size (.lst ws), I3.laid (t' := tk) (fun b u e => ?_) (Nat.le_refl _) (show ObjOk X.prog X.w _ _ _ (.lst ws) from ⟨hlen, out, ep, w1, he'⟩), rfl, ro.newL m w2 (I3.hok.fresh (Nat.le_refl _))⟩
            have hb : b < h'.objs.size := Heap.lt_size e
            exact (PyProof.Rows.sortedHeap_old (Nat.ne_of_lt hb) (by rw [size_push']; exact Nat.lt_succ_of_lt hb)).trans (Heap.get?_push_of_some _ e)
      · exact ro.elim
    · exact ro.elim
  · exact ro.elim
end
end AB
/-! AB68: what a statement has made is let go: the cells behind the old ones, and the slots that tell of them -/
namespace AB
open PySem PySem.Spec PyProof.Rows L2
mutual
def refsLt (n : Nat) : A → Bool
  | .lst l => decide (l < n)
  | .dct l => decide (l < n)
  | .obj l => decide (l < n)
  | .tup xs => refsLts n xs
  | .ftp xs => refsLts n xs
  | _ => true
def refsLts (n : Nat) : List A → Bool
  | [] => true
  | x :: xs => refsLt n x && refsLts n xs
end
def keepLt (n : Nat) : Option A → Option A
  | some a => if refsLt n a = true then some a else none
  | none => none
section
variable {ρ ρ1 : List Addr} {H H1 : Hp}
theorem Ext.same (x : Ext ρ ρ1) {i : Nat} {a a1 : Addr} (h : ρ[i]? = some a) (h1 : ρ1[i]? = some a1) : ρ[i]? = some a1 := by
  rw [x.get h] at h1
  cases h1
  exact h
theorem Ext.low (x : Ext ρ ρ1) {i : Nat} {a1 : Addr} (hi : i < ρ.length) (h1 : ρ1[i]? = some a1) : ρ[i]? = some a1 :=
  x.same (List.getElem?_eq_getElem hi) h1
mutual
theorem Is.back (x : Ext ρ ρ1) : ∀ {t : A} {v v1 : V}, Is ρ H t v → Is ρ1 H1 t v1 → Is ρ H1 t v1 := fun {t v v1} a b => by
  cases b with
  | non => exact .non
  | bl k => exact .bl k
  | int k => exact .int k
  | str k => exact .str k
  | tup h1 r1 => cases a with | tup _ r => exact .tup h1 (IsAll.back x r r1)
  | lst h1 => cases a with | lst h => exact .lst (x.same h h1)
  | dct h1 => cases a with | dct h => exact .dct (x.same h h1)
  | ty k => exact .ty k
  | obj h1 => cases a with | obj h => exact .obj (x.same h h1)
  | rng h1 => exact .rng h1
  | ftp h1 c1 d1 r1 => cases a with | ftp _ _ _ r => exact .ftp h1 c1 d1 (IsAll.back x r r1)
theorem IsAll.back (x : Ext ρ ρ1) : ∀ {ts : List A} {vs vs1 : List V}, IsAll ρ H ts vs → IsAll ρ1 H1 ts vs1 → IsAll ρ H1 ts vs1 := fun {ts vs vs1} a b => by
  cases b with
  | nil => exact .nil
  | cons r1 rs1 => cases a with | cons r rs => exact .cons (Is.back x r r1) (IsAll.back x rs rs1)
end
mutual
theorem Is.low (x : Ext ρ ρ1) : ∀ {t : A} {v : V}, refsLt ρ.length t = true → Is ρ1 H t v → Is ρ H t v
  | _, _, _, .non => .non
  | _, _, _, .bl b => .bl b
  | _, _, _, .int i => .int i
  | _, _, _, .str s => .str s
  | _, _, e, .tup h r => .tup h (IsAll.low x (by rw [refsLt] at e; exact e) r)
  | _, _, e, .lst h => .lst (x.low (by rw [refsLt] at e; exact of_decide_eq_true e) h)
  | _, _, e, .dct h => .dct (x.low (by rw [refsLt] at e; exact of_decide_eq_true e) h)
  | _, _, _, .ty n => .ty n
  | _, _, e, .obj h => .obj (x.low (by rw [refsLt] at e; exact of_decide_eq_true e) h)
  | _, _, _, .rng h => .rng h
  | _, _, e, .ftp h c d r => .ftp h c d (IsAll.low x (by rw [refsLt] at e; exact e) r)
theorem IsAll.low (x : Ext ρ ρ1) : ∀ {ts : List A} {vs : List V}, refsLts ρ.length ts = true → IsAll ρ1 H ts vs → IsAll ρ H ts vs
  | _, _, _, .nil => .nil
  | _, _, e, .cons r rs => by
    rw [refsLts, Bool.and_eq_true] at e
    exact .cons (Is.low x e.1 r) (IsAll.low x e.2 rs)
end
theorem RS0.low (x : Ext ρ ρ1) : ∀ {τ : Sl} {σ : L2.St}, RS0 ρ1 H τ σ → RS0 ρ H (τ.map (keepLt ρ.length)) σ
  | _, _, .nil => .nil
  | _, _, .no r => .no (RS0.low x r)
  | _, _, .yes (a := a) i r => by
    rw [List.map_cons]
    show RS0 ρ H ((if refsLt ρ.length a = true then some a else none) :: _) _
    split
    · rename_i e
      exact .yes (i.low x e) (RS0.low x r)
    · exact .no (RS0.low x r)
theorem RC.back {w : Amb} {a : Addr} (x : Ext ρ ρ1) : ∀ {c : Cell}, RC w ρ H a c → RC w ρ1 H1 a c → RC w ρ H1 a c
  | .lst _, ⟨_, _, i⟩, ⟨vs, e, i1⟩ => ⟨vs, e, i.back x i1⟩
  | .frz _, ⟨_, _, i⟩, ⟨vs, e, i1⟩ => ⟨vs, e, i.back x i1⟩
  | .dK _, ⟨_, _, i⟩, ⟨vs, e, i1⟩ => ⟨vs, e, i.back x i1⟩
  | .dT _, ⟨_, _, i⟩, ⟨vs, e, i1⟩ => ⟨vs, e, i.back x i1⟩
  | .dN _, ⟨_, _, _, i, j, _⟩, ⟨bs, vs, e, i1, j1, d⟩ => ⟨bs, vs, e, i.back x i1, j.back x j1, d⟩
  | .st _, _, ⟨S, e, h⟩ => ⟨S, e, h⟩
  | .obj, _, _ => trivial
  | .xd _, ⟨_, _, i⟩, ⟨vs, e, i1⟩ => ⟨vs, e, i.back x i1⟩
  | .fk _, ⟨_, _, _, i⟩, ⟨od, vs, e, i1⟩ => ⟨od, vs, e, i.back x i1⟩
  | .fT _, ⟨_, _, _, i⟩, ⟨od, vs, e, i1⟩ => ⟨od, vs, e, i.back x i1⟩
  | .ins _ _, ⟨_, _, _, _, _, _, i⟩, ⟨Ca, dx, vs, h0, e, e2, i1⟩ => ⟨Ca, dx, vs, h0, e, e2, i.back x i1⟩
theorem RM.back {w : Amb} {M M1 : Store} (x : Ext ρ ρ1) (m : RM w ρ H M) (m1 : RM w ρ1 H1 M1) (e : M1.take M.length = M) : RM w ρ H1 M := by
  have up : ∀ {i : Nat} {c : Cell}, M[i]? = some c → M1[i]? = some c := fun {i c} h => by
    have hi := (List.getElem?_eq_some_iff.mp h).1
    rw [← e, List.getElem?_take_of_lt hi] at h
    exact h
  refine ⟨m.len, fun i j a c d h1 h2 h3 h4 h5 h6 => m1.nd i j a c d (x.get h1) (x.get h2) (up h3) (up h4) h5 h6, fun i a c h1 h2 => (m.at_ i a c h1 h2).back x (m1.at_ i a c (x.get h1) (up h2)), m1.tabs, fun i j a c xs h1 h2 h3 h4 h5 => ?_, fun i j a c d h1 h2 h3 h4 h5 h6 => m1.fu i j a c d (x.get h1) (x.get h2) (up h3) (up h4) h5 h6⟩
  obtain ⟨_, _, i0⟩ := m.fz i j a c xs h1 h2 h3 h4 h5
  obtain ⟨vs, f1, i1⟩ := m1.fz i j a c xs (x.get h1) (x.get h2) (up h3) (up h4) h5
  exact ⟨vs, f1, i0.back x i1⟩
end
open Classical in
noncomputable def gcO (M : Store) : SO → SO
  | .nx τ' M' => if M'.take M.length = M then .nx (τ'.map (keepLt M.length)) M else .bad
  | _ => .bad
noncomputable def gcS (f : SF) : SF := fun τ M => gcO M (f τ M)
section
variable {X : Cx} {W : WR}
theorem gc_ok {D : Ends} {τ : Sl} {M : Store} {ρ : List Addr} {σ : L2.St} {H : Hp} {o : SO} {t : SF} (rs : RS W ρ H τ σ) (rm : RM (X.gx W.Tb).w ρ H M) (r : RSO (X.gx W.Tb) W D ρ H (match gcO M o with
    | .nx τ1 M1 => t τ1 M1
    | o => o)) : ∃ τ' M', o = .nx τ' M' ∧ ∀ σ1 H1 ρ1, Ext ρ ρ1 → Grow H H1 → RM (X.gx W.Tb).w ρ1 H1 M' → RS W ρ1 H1 τ' σ1 → tS (X.gx W.Tb) W t D σ1 H1 := by
  cases o with
  | nx τ' M' =>
    refine ⟨τ', M', rfl, fun σ1 H1 ρ1 x g m i => ?_⟩
    unfold gcO at r
    dsimp only at r
    by_cases hM : M'.take M.length = M
    · rw [if_pos hM] at r
      refine ⟨_, M, ρ, ⟨rs.ext, i.grow, ?_⟩, rm.back x m hM, RSO.mono r (.refl _) g⟩
      rw [← rm.len]
      exact i.s.low x
    · rw [if_neg hM] at r
      exact r.elim
  | _ => exact r.elim
theorem ass_gc {st : Stmt} {rest : List Stmt} {f t : SF} (h1 : AS X W st f) (h2 : ASs X W rest t) : ASs X W (st :: rest) (sSeq (gcS f) t) := (pss_cons h1 h2).pre fun D σ H h => by
  obtain ⟨τ, M, ρ, rs, rm, r⟩ := h
  obtain ⟨τ', M', e, k⟩ := gc_ok (o := f τ M) rs rm r
  refine ⟨τ, M, ρ, rs, rm, ?_⟩
  rw [e]
  exact k
theorem ass_gc2 {st st2 : Stmt} {rest : List Stmt} {f f2 t : SF} (h1 : AS X W st f) (h2 : AS X W st2 f2) (h3 : ASs X W rest t) : ASs X W (st :: st2 :: rest) (sSeq (gcS (sSeq f f2)) t) := (pss_cons h1 (pss_cons h2 h3)).pre fun D σ H h => by
  obtain ⟨τ, M, ρ, rs, rm, r⟩ := h
  obtain ⟨τ', M', e, k⟩ := gc_ok (o := sSeq f f2 τ M) rs rm r
  refine ⟨τ, M, ρ, rs, rm, ?_⟩
  unfold sSeq at e
  cases e1 : f τ M with
  | nx τ1 M1 =>
    rw [e1] at e
    intro σ1 H1 ρ1 x g m i
    refine ⟨τ1, M1, ρ1, i, m, ?_⟩
    have e : f2 τ1 M1 = .nx τ' M' := e
    rw [e]
    exact fun σ2 H2 ρ2 x2 g2 m2 i2 => k σ2 H2 ρ2 (x.trans x2) (g.trans g2) m2 i2
  | rt a M1 => rw [e1] at e; cases e
  | bk τ1 M1 => rw [e1] at e; cases e
  | ct τ1 M1 => rw [e1] at e; cases e
  | ex en τ1 M1 => rw [e1] at e; cases e
  | bad => rw [e1] at e; cases e
end
def GcOk (M : Store) (τ'' : Sl) : SO → Prop
  | .nx τ' M' => τ'.map (keepLt M.length) = τ'' ∧ M'.take M.length = M
  | _ => False
theorem gc_eq {f : SF} {τ τ'' : Sl} {M : Store} (h : GcOk M τ'' (f τ M)) : gcS f τ M = .nx τ'' M := by
  unfold gcS
  generalize f τ M = o at h
  cases o with
  | nx τ' M' =>
    obtain ⟨h1, h2⟩ := h
    unfold gcO
    dsimp only
    rw [if_pos h2, h1]
  | _ => exact h.elim
end AB
namespace P12
open PySem PySem.Spec PyProof.Rows L2 AB
def topS (i : Nat) : Stmt := PySem.Challenge.pw_toldwhat_k12_known_questions.main.body.getD i (.Pass ⟨0, 0, 0, 0⟩)
def tt_PLACED : List Str := ["in", "inout"]
def tt_PLACELESS : List Str := ["in", "inout"]
def tt_TAKING : List Str := ["stack", "deque", "inout"]
def tt_TWO_ENDED : List Str := ["ends", "deque"]
def tb_WORDS : List (Str × List Str) := [("end", ["put"]), ("ends", ["front", "put"]), ("stack", ["chop", "put"]), ("deque", ["behead", "chop", "front", "put"]), ("in", ["put"]), ("inout", ["put", "take"]), ("relabel", ["put", "turn"]), ("reverse", ["put", "turn"])]
def xk_BadEdits : List (Str × Bool) := []
structure Txt (w : World) (K : PySem.W.Frag) (mg : Str → Option Value) : Prop where
  b_abs : mg "abs" = none
  b_all : mg "all" = none
  b_any : mg "any" = none
  b_bool : mg "bool" = none
  b_enumerate : mg "enumerate" = none
  b_int : mg "int" = none
  b_isinstance : mg "isinstance" = none
  b_len : mg "len" = none
  b_list : mg "list" = none
  b_min : mg "min" = none
  b_range : mg "range" = none
  b_set : mg "set" = none
  b_sorted : mg "sorted" = none
  b_str : mg "str" = none
  b_tuple : mg "tuple" = none
  c_MOST_ANSWER : ∃ t, mg "MOST_ANSWER" = some (.int 3 t)
  c_MOST_EDITS : ∃ t, mg "MOST_EDITS" = some (.int 100 t)
  c_MOST_LETTERS : ∃ t, mg "MOST_LETTERS" = some (.int 3 t)
  c_MOST_MAPS : ∃ t, mg "MOST_MAPS" = some (.int 2000 t)
  c_MOST_MEMORIES : ∃ t, mg "MOST_MEMORIES" = some (.int 3000 t)
  c_MOST_MESSAGES : ∃ t, mg "MOST_MESSAGES" = some (.int 100 t)
  c_MOST_STATES : ∃ t, mg "MOST_STATES" = some (.int 40 t)
  c_MOST_TEXT : ∃ t, mg "MOST_TEXT" = some (.int 60 t)
  g_PLACED : ∃ a, mg "PLACED" = some (.ref a) ∧ KTup K a tt_PLACED
  g_PLACELESS : ∃ a, mg "PLACELESS" = some (.ref a) ∧ KTup K a tt_PLACELESS
  g_TAKING : ∃ a, mg "TAKING" = some (.ref a) ∧ KTup K a tt_TAKING
  g_TWO_ENDED : ∃ a, mg "TWO_ENDED" = some (.ref a) ∧ KTup K a tt_TWO_ENDED
  g_WORDS : ∃ a, mg "WORDS" = some (.ref a) ∧ KTab K w a tb_WORDS
  p_permutations : mg "permutations" = some (.type "itertools.permutations")
  x_BadEdits : ∃ cK, mg "BadEdits" = some cK ∧ ExTab K mg cK xk_BadEdits
noncomputable section
variable {P : Program} {w : World} {K : PySem.W.Frag} {mg : Str → Option Value} {Tb : Tbl} {base : Heap}
abbrev s_is_number : Stmt := topS 18
theorem sc_is_number : FnScope ["value", "low", "high"] ["value", "low", "high"] (defScope s_is_number) := ⟨rfl, rfl, rfl, by decide +kernel, rfl, by decide +kernel, by decide +kernel⟩
def S_is_number : SF :=
  (sSeq (sRet (eAnd (eFn oIsi (eCons (eVar 0) (eCons (eC (.ty "int")) eNil))) (eAnd (eNot (eFn oIsi (eCons (eVar 0) (eCons (eC (.ty "bool")) eNil)))) (eChain oLe oLe (eVar 1) (eVar 0) (eVar 2)))))
    sNil)
def F_is_number : On' := defA 3 S_is_number
set_option maxHeartbeats 16000000 in
theorem ok_is_number {fa : Addr} {fd : FuncData} (T : Txt w K mg)  (F : Fun K "is_number" "is_number" s_is_number fa fd) (hm : mg "is_number" = some (.ref fa)) : FnX P w K mg Tb base "is_number" 1 3 F_is_number := by
  refine ⟨fa, fd, ["value", "low", "high"], fn_A (k := 0) F sc_is_number (fun cdv A outer s₀ H E hr => ?_), hm, F.kp, F.binds (ps := ["value", "low", "high"]) fun _ _ _ _ _ _ us hl => match us, hl with | [_, _, _], _ => rfl⟩
  unfold S_is_number
  exact (ass_cons (as_ret (ae_and (ae_B cr_isi T.b_isinstance (aa_cons (ae_v 0) (aa_cons (ae_type T.b_int) aa_nil))) (ae_and (ae_not (ae_B cr_isi T.b_isinstance (aa_cons (ae_v 0) (aa_cons (ae_type T.b_bool) aa_nil)))) (ae_one (ae_chain (op_leA) (op_leA) (ae_v 1) (ae_v 0) (ae_v 2))))))
    ass_nil)
abbrev s_are_numbers : Stmt := topS 19
theorem sc_are_numbers : FnScope ["value", "many", "high", "number"] ["value", "many", "high"] (defScope s_are_numbers) := ⟨rfl, rfl, rfl, by decide +kernel, rfl, by decide +kernel, by decide +kernel⟩
def S_are_numbers : SF :=
  (sSeq (sIf (bOr (bNot (eT (eFn oIsi (eCons (eVar 0) (eCons (eC (.ty "tuple")) eNil))))) (eB (eOp oNe (eFn oLenN (eCons (eVar 0) eNil)) (eVar 1)))) (sSeq (sRet (eC (.bl false)))
    sNil) sNil)
    (sSeq (sRet (eFn oAll (eCons (eLc (iSeq (eVar 0)) (.nm 3) bYes (eCall 3 F_is_number (eCons (eVar 3) (eCons (eC (.int 0)) (eCons (eVar 2) eNil)))) [3]) eNil)))
    sNil))
def F_are_numbers : On' := defA 4 S_are_numbers
set_option maxHeartbeats 16000000 in
theorem ok_are_numbers {fa : Addr} {fd : FuncData} (T : Txt w K mg) (G_is_number : FnX P w K mg Tb base "is_number" 1 3 F_is_number) (F : Fun K "are_numbers" "are_numbers" s_are_numbers fa fd) (hm : mg "are_numbers" = some (.ref fa)) : FnX P w K mg Tb base "are_numbers" 2 3 F_are_numbers := by
  refine ⟨fa, fd, ["value", "many", "high"], fn_A (k := 1) F sc_are_numbers (fun cdv A outer s₀ H E hr => ?_), hm, F.kp, F.binds (ps := ["value", "many", "high"]) fun _ _ _ _ _ _ us hl => match us, hl with | [_, _, _], _ => rfl⟩
  unfold S_are_numbers
  exact (ass_cons (as_if (AW.at (aw_or (at_not (at_val (ae_B cr_isi T.b_isinstance (aa_cons (ae_v 0) (aa_cons (ae_type T.b_tuple) aa_nil))))) (aw_or1 (at_cmp (op_neA (hu64 hr)) (ae_B cr_lenN T.b_len (aa_cons (ae_v 0) aa_nil)) (ae_v 1))))) (ass_cons (as_ret ae_bl)
    ass_nil) ass_nil)
    (ass_cons (as_ret (ae_B (cr_allA rfl) T.b_all (aa_cons (ae_lc [("number", 3)] rfl sc_are_numbers.nd (blkOk_by rfl) (by decide) (ai_seq (ae_v 0)) (fun _ _ _ _ _ => (ag_nm 3 sc_are_numbers.nd)) (fun _ _ _ _ _ => ats_nil) (fun _ _ _ _ _ => (ae_callX G_is_number (hr.mono (by first | decide | omega)) takes0 (aa_cons (ae_v 3) (aa_cons ae_int (aa_cons (ae_v 2) aa_nil)))))) aa_nil)))
    ass_nil))
abbrev s_are_steps : Stmt := topS 20
theorem sc_are_steps : FnScope ["value", "letters", "row"] ["value", "letters"] (defScope s_are_steps) := ⟨rfl, rfl, rfl, by decide +kernel, rfl, by decide +kernel, by decide +kernel⟩
def S_are_steps : SF :=
  (sSeq (sIf (bOr (bNot (eT (eFn oIsi (eCons (eVar 0) (eCons (eC (.ty "tuple")) eNil))))) (bNot (eB (eChain oLe oLe (eC (.int 1)) (eFn oLenN (eCons (eVar 0) eNil)) (eC (.int 40)))))) (sSeq (sRet (eC (.bl false)))
    sNil) sNil)
    (sSeq (sRet (eFn oAll (eCons (eLc (iSeq (eVar 0)) (.nm 2) bYes (eCall 3 F_are_numbers (eCons (eVar 2) (eCons (eVar 1) (eCons (eOp oSub (eFn oLenN (eCons (eVar 0) eNil)) (eC (.int 1))) eNil)))) [2]) eNil)))
    sNil))
def F_are_steps : On' := defA 3 S_are_steps
set_option maxHeartbeats 16000000 in
theorem ok_are_steps {fa : Addr} {fd : FuncData} (T : Txt w K mg) (G_are_numbers : FnX P w K mg Tb base "are_numbers" 2 3 F_are_numbers) (F : Fun K "are_steps" "are_steps" s_are_steps fa fd) (hm : mg "are_steps" = some (.ref fa)) : FnX P w K mg Tb base "are_steps" 3 2 F_are_steps := by
  refine ⟨fa, fd, ["value", "letters"], fn_A (k := 2) F sc_are_steps (fun cdv A outer s₀ H E hr => ?_), hm, F.kp, F.binds (ps := ["value", "letters"]) fun _ _ _ _ _ _ us hl => match us, hl with | [_, _], _ => rfl⟩
  unfold S_are_steps
  exact (ass_cons (as_if (AW.at (aw_or (at_not (at_val (ae_B cr_isi T.b_isinstance (aa_cons (ae_v 0) (aa_cons (ae_type T.b_tuple) aa_nil))))) (aw_or1 (at_not (at_chain (op_leA) (op_leA) ae_int (ae_B cr_lenN T.b_len (aa_cons (ae_v 0) aa_nil)) (ae_glob T.c_MOST_STATES.choose_spec (fun _ _ => .int 40) ⟨_, rfl⟩)))))) (ass_cons (as_ret ae_bl)
    ass_nil) ass_nil)
    (ass_cons (as_ret (ae_B (cr_allA rfl) T.b_all (aa_cons (ae_lc [("row", 2)] rfl sc_are_steps.nd (blkOk_by rfl) (by decide) (ai_seq (ae_v 0)) (fun _ _ _ _ _ => (ag_nm 2 sc_are_steps.nd)) (fun _ _ _ _ _ => ats_nil) (fun _ _ _ _ _ => (ae_callX G_are_numbers (hr.mono (by first | decide | omega)) takes0 (aa_cons (ae_v 2) (aa_cons (ae_v 1) (aa_cons (ae_op op_subA (ae_B cr_lenN T.b_len (aa_cons (ae_v 0) aa_nil)) ae_int) aa_nil)))))) aa_nil)))
    ass_nil))
abbrev s_check_question : Stmt := topS 22
theorem sc_check_question : FnScope ["question", "letters", "steps", "answers"] ["question"] (defScope s_check_question) := ⟨rfl, rfl, rfl, by decide +kernel, rfl, by decide +kernel, by decide +kernel⟩
def S_check_question : SF :=
  (sSeq (sIf (bOr (bNot (eT (eFn oIsi (eCons (eVar 0) (eCons (eC (.ty "tuple")) eNil))))) (eB (eOp oNe (eFn oLenN (eCons (eVar 0) eNil)) (eC (.int 3))))) sBad sNil)
    (sSeq (sAsg (.tp [(.nm 1), (.nm 2), (.nm 3)]) (eVar 0))
    (sSeq (sIf (bNot (eT (eCall 3 F_is_number (eCons (eVar 1) (eCons (eC (.int 1)) (eCons (eC (.int 3)) eNil)))))) sBad sNil)
    (sSeq (sIf (bNot (eT (eCall 2 F_are_steps (eCons (eVar 2) (eCons (eVar 1) eNil))))) sBad sNil)
    (sSeq (sIf (bNot (eT (eCall 3 F_are_numbers (eCons (eVar 3) (eCons (eFn oLenN (eCons (eVar 2) eNil)) (eCons (eC (.int 3)) eNil)))))) sBad sNil)
    sNil)))))
def F_check_question : On' := defA 4 S_check_question
set_option maxHeartbeats 16000000 in
theorem ok_check_question {fa : Addr} {fd : FuncData} (T : Txt w K mg) (G_is_number : FnX P w K mg Tb base "is_number" 1 3 F_is_number) (G_are_steps : FnX P w K mg Tb base "are_steps" 3 2 F_are_steps) (G_are_numbers : FnX P w K mg Tb base "are_numbers" 2 3 F_are_numbers) (F : Fun K "check_question" "check_question" s_check_question fa fd) (hm : mg "check_question" = some (.ref fa)) : FnX P w K mg Tb base "check_question" 4 1 F_check_question := by
  refine ⟨fa, fd, ["question"], fn_A (k := 3) F sc_check_question (fun cdv A outer s₀ H E hr => ?_), hm, F.kp, F.binds (ps := ["question"]) fun _ _ _ _ _ _ us hl => match us, hl with | [_], _ => rfl⟩
  unfold S_check_question
  exact (ass_cons (as_if (AW.at (aw_or (at_not (at_val (ae_B cr_isi T.b_isinstance (aa_cons (ae_v 0) (aa_cons (ae_type T.b_tuple) aa_nil))))) (aw_or1 (at_cmp (op_neA (hu64 hr)) (ae_B cr_lenN T.b_len (aa_cons (ae_v 0) aa_nil)) ae_int)))) ass_never ass_nil)
    (ass_cons (as_asg (ae_v 0) (ag_tp rfl (ags_cons (ag_nm 1 sc_check_question.nd) (ags_cons (ag_nm 2 sc_check_question.nd) (ags_cons (ag_nm 3 sc_check_question.nd) ags_nil)))))
    (ass_cons (as_if (at_not (at_val (ae_callX G_is_number (hr.mono (by first | decide | omega)) (takes_of rfl rfl rfl rfl) (aa_cons (ae_v 1) (aa_cons ae_int (aa_cons (ae_glob T.c_MOST_LETTERS.choose_spec (fun _ _ => .int 3) ⟨_, rfl⟩) aa_nil)))))) ass_never ass_nil)
    (ass_cons (as_if (at_not (at_val (ae_callX G_are_steps (hr.mono (by first | decide | omega)) (takes_of rfl rfl rfl rfl) (aa_cons (ae_v 2) (aa_cons (ae_v 1) aa_nil))))) ass_never ass_nil)
    (ass_cons (as_if (at_not (at_val (ae_callX G_are_numbers (hr.mono (by first | decide | omega)) (takes_of rfl rfl rfl rfl) (aa_cons (ae_v 3) (aa_cons (ae_B cr_lenN T.b_len (aa_cons (ae_v 2) aa_nil)) (aa_cons (ae_glob T.c_MOST_ANSWER.choose_spec (fun _ _ => .int 3) ⟨_, rfl⟩) aa_nil)))))) ass_never ass_nil)
    ass_nil)))))
abbrev s_parted_groups : Stmt := topS 47
theorem sc_parted_groups : FnScope ["steps", "groups", "numbers", "parted", "state", "row", "sign", "reached"] ["steps", "groups"] (defScope s_parted_groups) := ⟨rfl, rfl, rfl, by decide +kernel, rfl, by decide +kernel, by decide +kernel⟩
def S_parted_groups : SF :=
  (sSeq (sAsg (.nm 2) eNewN)
    (sSeq (sAsg (.nm 3) (eLst eNil))
    (sSeq (sFor (iEnumA (eCons (eVar 0) eNil)) (.tp [(.nm 4), (.nm 5)]) (sSeq (sAsg (.nm 6) (eTup (eCons (eOp oIx (eVar 1) (eVar 4)) (eCons (eFn oTuple (eCons (eLc (iSeq (eVar 5)) (.nm 7) bYes (eOp oIx (eVar 1) (eVar 7)) [7]) eNil)) eNil))))
    (sSeq (sExpr (eMeth oAppend (eVar 3) (eCons (eMethN oSetd (eVar 2) (eCons (eVar 6) (eCons (eFn oLenN (eCons (eVar 2) eNil)) eNil))) eNil)))
    sNil)))
    (sSeq (sRet (eVar 3))
    sNil))))
def F_parted_groups : On' := defA 8 S_parted_groups
set_option maxHeartbeats 16000000 in
theorem ok_parted_groups {fa : Addr} {fd : FuncData} (T : Txt w K mg)  (F : Fun K "parted_groups" "parted_groups" s_parted_groups fa fd) (hm : mg "parted_groups" = some (.ref fa)) : FnX P w K mg Tb base "parted_groups" 1 2 F_parted_groups := by
  refine ⟨fa, fd, ["steps", "groups"], fn_A (k := 0) F sc_parted_groups (fun cdv A outer s₀ H E hr => ?_), hm, F.kp, F.binds (ps := ["steps", "groups"]) fun _ _ _ _ _ _ us hl => match us, hl with | [_, _], _ => rfl⟩
  unfold S_parted_groups
  exact (ass_cons (as_set 2 sc_parted_groups.nd ae_newN)
    (ass_cons (as_set 3 sc_parted_groups.nd (ae_lst aa_nil))
    (ass_cons (as_for (passes_of rfl) rfl (ai_enum T.b_enumerate (aa_cons (ae_v 0) aa_nil)) (ag_tp rfl (ags_cons (ag_nm 4 sc_parted_groups.nd) (ags_cons (ag_nm 5 sc_parted_groups.nd) ags_nil))) (ass_cons (as_set 6 sc_parted_groups.nd (ae_tup (aa_cons (ae_ix (ae_v 1) (ae_v 4)) (aa_cons (ae_Ty cr_tuple T.b_tuple (aa_cons (ae_lc [("reached", 7)] rfl sc_parted_groups.nd (blkOk_by rfl) (by decide) (ai_seq (ae_v 5)) (fun _ _ _ _ _ => (ag_nm 7 sc_parted_groups.nd)) (fun _ _ _ _ _ => ats_nil) (fun _ _ _ _ _ => (ae_ix (ae_v 1) (ae_v 7)))) aa_nil)) aa_nil))))
    (ass_cons (as_expr (ae_append (ae_v 3) (aa_cons (ae_setd (hu9 hr) (ae_v 2) (aa_cons (ae_v 6) (aa_cons (ae_B cr_lenN T.b_len (aa_cons (ae_v 2) aa_nil)) aa_nil))) aa_nil)))
    ass_nil)))
    (ass_cons (as_ret (ae_v 3))
    ass_nil))))
abbrev s_groups_of : Stmt := topS 46
theorem sc_groups_of : FnScope ["question", "most", "groups", "many"] ["question", "most"] (defScope s_groups_of) := ⟨rfl, rfl, rfl, by decide +kernel, rfl, by decide +kernel, by decide +kernel⟩
def S_groups_of : SF :=
  (sSeq (sAsg (.nm 2) (eFn oList (eCons (eOp oIx (eVar 0) (eC (.int 2))) eNil)))
    (sSeq (sAsg (.nm 3) (eC (.int 0)))
    (sSeq (fun τ M => whileA (eB (eOp oGt (eUn oLenSetX (eVar 2)) (eVar 3))) (sSeq (sAsg (.nm 3) (eUn oLenSetX (eVar 2)))
    (sSeq (sIf (bAnd (eB (eOp oIsNot (eVar 1) (eC .non))) (eB (eOp oGt (eVar 3) (eVar 1)))) sBad sNil)
    (sSeq (sAsg (.nm 2) (eCall 2 F_parted_groups (eCons (eOp oIx (eVar 0) (eC (.int 1))) (eCons (eVar 2) eNil))))
    sNil))) fuel τ M)
    (sSeq (sRet (eVar 2))
    sNil))))
def F_groups_of : On' := defA 4 S_groups_of
set_option maxHeartbeats 16000000 in
theorem ok_groups_of {fa : Addr} {fd : FuncData} (T : Txt w K mg) (G_parted_groups : FnX P w K mg Tb base "parted_groups" 1 2 F_parted_groups) (F : FunD K "groups_of" "groups_of" (defArgs s_groups_of) (defBody s_groups_of) (defScope s_groups_of) [.non] [] fa fd) (hm : mg "groups_of" = some (.ref fa)) : FnXD P w K mg Tb base "groups_of" 2 2 [.non] F_groups_of := by
  have h1 := F.binds1 (ps := ["question", "most"]) 2 1 (by simp) rfl fun _ _ _ _ _ _ _ us its hl hd => match us, its, hl, hd with | [_, _], [_], _, _ => ⟨_, rfl, rfl⟩
  have h2 := F.binds1 (ps := ["question", "most"]) 1 0 (by simp) rfl fun _ _ _ _ _ _ _ us its hl hd => match us, its, hl, hd with | [_], [_], _, _ => ⟨_, rfl, rfl⟩
  obtain ⟨u1, v1, h1⟩ := h1
  cases v1
  obtain ⟨u2, v2, h2⟩ := h2
  refine ⟨fa, fd, ["question", "most"], fn_AD (k := 1) (st := s_groups_of) F sc_groups_of (fun cdv A outer s₀ H E hr => ?_), hm, F.kp, h1, u2, h2, _, v2, fun _ _ => .cons .non .nil⟩
  unfold S_groups_of
  exact (ass_cons (as_set 2 sc_groups_of.nd (ae_Ty (cr_list rfl) T.b_list (aa_cons (ae_ix (ae_v 0) ae_int) aa_nil)))
    (ass_cons (as_set 3 sc_groups_of.nd ae_int)
    (ass_cons (as_while (fun _ _ => fuel) (passes_of rfl) (at_cmp (op_gtA) (ae_lenSetX T.b_len T.b_set (ae_v 2)) (ae_v 3)) (ass_cons (as_set 3 sc_groups_of.nd (ae_lenSetX T.b_len T.b_set (ae_v 2)))
    (ass_cons (as_if (AW.at (aw_and (at_cmp (op_isNotA) (ae_v 1) ae_non) (aw_and1 (at_cmp (op_gtA) (ae_v 3) (ae_v 1))))) ass_never ass_nil)
    (ass_cons (as_set 2 sc_groups_of.nd (ae_callX G_parted_groups (hr.mono (by first | decide | omega)) (takes_of rfl rfl rfl rfl) (aa_cons (ae_ix (ae_v 0) ae_int) (aa_cons (ae_v 2) aa_nil))))
    ass_nil))))
    (ass_cons (as_ret (ae_v 2))
    ass_nil))))
abbrev s_least_of : Stmt := topS 45
theorem sc_least_of : FnScope ["question", "most", "groups", "chosen", "numbers", "rows", "letters", "steps", "answers", "state", "row", "reached"] ["question", "most"] (defScope s_least_of) := ⟨rfl, rfl, rfl, by decide +kernel, rfl, by decide +kernel, by decide +kernel⟩
def S_least_of : SF :=
  (sSeq (sAsg (.tp [(.nm 6), (.nm 7), (.nm 8)]) (eVar 0))
    (sSeq (sAsg (.nm 2) (eCall 2 F_groups_of (eCons (eVar 0) (eCons (eVar 1) eNil))))
    (sSeq (sAsg (.nm 3) (eLst (eCons (eC (.int 0)) eNil)))
    (sSeq (sAsg (.nm 4) (eDisp1 (eOp oIx (eVar 2) (eC (.int 0))) (eC (.int 0))))
    (sSeq (sAsg (.nm 5) (eLst eNil))
    (sSeq (fun τ M => whileA (eB (eOp oLt (eFn oLenN (eCons (eVar 5) eNil)) (eFn oLenN (eCons (eVar 3) eNil)))) (sSeq (sAsg (.nm 9) (eOp oIx (eVar 3) (eFn oLenN (eCons (eVar 5) eNil))))
    (sSeq (sAsg (.nm 10) (eLst eNil))
    (sSeq (sFor (iSeq (eOp oIx (eVar 7) (eVar 9))) (.nm 11) (sSeq (sIf (eB (eOp oNotIn (eOp oIx (eVar 2) (eVar 11)) (eVar 4))) (sSeq (sDput (eVar 4) (eOp oIx (eVar 2) (eVar 11)) (eFn oLenN (eCons (eVar 3) eNil)))
    (sSeq (sExpr (eMeth oAppend (eVar 3) (eCons (eVar 11) eNil)))
    sNil)) sNil)
    (sSeq (sExpr (eMeth oAppend (eVar 10) (eCons (eOp oDget (eVar 4) (eOp oIx (eVar 2) (eVar 11))) eNil)))
    sNil)))
    (sSeq (sExpr (eMeth oAppend (eVar 5) (eCons (eFn oTuple (eCons (eVar 10) eNil)) eNil)))
    sNil)))) fuel τ M)
    (sSeq (sRet (eTup (eCons (eVar 6) (eCons (eFn oTuple (eCons (eVar 5) eNil)) (eCons (eFn oTuple (eCons (eLc (iSeq (eVar 3)) (.nm 9) bYes (eOp oIx (eVar 8) (eVar 9)) [9]) eNil)) eNil)))))
    sNil)))))))
def F_least_of : On' := defA 12 S_least_of
set_option maxHeartbeats 16000000 in
theorem ok_least_of {fa : Addr} {fd : FuncData} (T : Txt w K mg) (G_groups_of : FnXD P w K mg Tb base "groups_of" 2 2 [.non] F_groups_of) (F : FunD K "least_of" "least_of" (defArgs s_least_of) (defBody s_least_of) (defScope s_least_of) [.non] [] fa fd) (hm : mg "least_of" = some (.ref fa)) : FnXD P w K mg Tb base "least_of" 3 2 [.non] F_least_of := by
  have h1 := F.binds1 (ps := ["question", "most"]) 2 1 (by simp) rfl fun _ _ _ _ _ _ _ us its hl hd => match us, its, hl, hd with | [_, _], [_], _, _ => ⟨_, rfl, rfl⟩
  have h2 := F.binds1 (ps := ["question", "most"]) 1 0 (by simp) rfl fun _ _ _ _ _ _ _ us its hl hd => match us, its, hl, hd with | [_], [_], _, _ => ⟨_, rfl, rfl⟩
  obtain ⟨u1, v1, h1⟩ := h1
  cases v1
  obtain ⟨u2, v2, h2⟩ := h2
  refine ⟨fa, fd, ["question", "most"], fn_AD (k := 2) (st := s_least_of) F sc_least_of (fun cdv A outer s₀ H E hr => ?_), hm, F.kp, h1, u2, h2, _, v2, fun _ _ => .cons .non .nil⟩
  unfold S_least_of
  exact (ass_cons (as_asg (ae_v 0) (ag_tp rfl (ags_cons (ag_nm 6 sc_least_of.nd) (ags_cons (ag_nm 7 sc_least_of.nd) (ags_cons (ag_nm 8 sc_least_of.nd) ags_nil)))))
    (ass_cons (as_set 2 sc_least_of.nd (ae_callX G_groups_of.x (hr.mono (by first | decide | omega)) (takes_of rfl rfl rfl rfl) (aa_cons (ae_v 0) (aa_cons (ae_v 1) aa_nil))))
    (ass_cons (as_set 3 sc_least_of.nd (ae_lst (aa_cons ae_int aa_nil)))
    (ass_cons (as_set 4 sc_least_of.nd (ae_disp1 (ae_ix (ae_v 2) ae_int) ae_int))
    (ass_cons (as_set 5 sc_least_of.nd (ae_lst aa_nil))
    (ass_cons (as_while (fun _ _ => fuel) (passes_of rfl) (at_cmp (op_ltA) (ae_B cr_lenN T.b_len (aa_cons (ae_v 5) aa_nil)) (ae_B cr_lenN T.b_len (aa_cons (ae_v 3) aa_nil))) (ass_cons (as_set 9 sc_least_of.nd (ae_ix (ae_v 3) (ae_B cr_lenN T.b_len (aa_cons (ae_v 5) aa_nil))))
    (ass_cons (as_set 10 sc_least_of.nd (ae_lst aa_nil))
    (ass_cons (as_for (passes_of rfl) rfl (ai_seq (ae_ix (ae_v 7) (ae_v 9))) (ag_nm 11 sc_least_of.nd) (ass_cons (as_if (at_cmp (op_notInA (hu65 hr)) (ae_ix (ae_v 2) (ae_v 11)) (ae_v 4)) (ass_cons (as_dput (hu1 hr) (ae_v 4) (ae_ix (ae_v 2) (ae_v 11)) (ae_B cr_lenN T.b_len (aa_cons (ae_v 3) aa_nil)))
    (ass_cons (as_expr (ae_append (ae_v 3) (aa_cons (ae_v 11) aa_nil)))
    ass_nil)) ass_nil)
    (ass_cons (as_expr (ae_append (ae_v 10) (aa_cons (ae_dget (hu1 hr) (ae_v 4) (ae_ix (ae_v 2) (ae_v 11))) aa_nil)))
    ass_nil)))
    (ass_cons (as_expr (ae_append (ae_v 5) (aa_cons (ae_Ty cr_tuple T.b_tuple (aa_cons (ae_v 10) aa_nil)) aa_nil)))
    ass_nil)))))
    (ass_cons (as_ret (ae_tup (aa_cons (ae_v 6) (aa_cons (ae_Ty cr_tuple T.b_tuple (aa_cons (ae_v 5) aa_nil)) (aa_cons (ae_Ty cr_tuple T.b_tuple (aa_cons (ae_lc [("state", 9)] rfl sc_least_of.nd (blkOk_by rfl) (by decide) (ai_seq (ae_v 3)) (fun _ _ _ _ _ => (ag_nm 9 sc_least_of.nd)) (fun _ _ _ _ _ => ats_nil) (fun _ _ _ _ _ => (ae_ix (ae_v 8) (ae_v 9)))) aa_nil)) aa_nil)))))
    ass_nil)))))))
abbrev s_is_parting : Stmt := topS 80
theorem sc_is_parting : FnScope ["small", "letters", "steps", "_", "letter", "row"] ["small"] (defScope s_is_parting) := ⟨rfl, rfl, rfl, by decide +kernel, rfl, by decide +kernel, by decide +kernel⟩
def S_is_parting : SF :=
  (sSeq (sAsg (.tp [(.nm 1), (.nm 2), (.nm 3)]) (eVar 0))
    (sSeq (sRet (eFn oAll (eCons (eLc (iRng1 (eCons (eVar 1) eNil)) (.nm 4) bYes (eOp oEq (eFn oLenSt (eCons (eSc (iSeq (eVar 2)) (.nm 5) bYes (eOp oIx (eVar 5) (eVar 4)) [5]) eNil)) (eFn oLenN (eCons (eVar 2) eNil))) [4]) eNil)))
    sNil))
def F_is_parting : On' := defA 6 S_is_parting
set_option maxHeartbeats 16000000 in
theorem ok_is_parting {fa : Addr} {fd : FuncData} (T : Txt w K mg)  (F : Fun K "is_parting" "is_parting" s_is_parting fa fd) (hm : mg "is_parting" = some (.ref fa)) : FnX P w K mg Tb base "is_parting" 1 1 F_is_parting := by
  refine ⟨fa, fd, ["small"], fn_A (k := 0) F sc_is_parting (fun cdv A outer s₀ H E hr => ?_), hm, F.kp, F.binds (ps := ["small"]) fun _ _ _ _ _ _ us hl => match us, hl with | [_], _ => rfl⟩
  unfold S_is_parting
  exact (ass_cons (as_asg (ae_v 0) (ag_tp rfl (ags_cons (ag_nm 1 sc_is_parting.nd) (ags_cons (ag_nm 2 sc_is_parting.nd) (ags_cons (ag_nm 3 sc_is_parting.nd) ags_nil)))))
    (ass_cons (as_ret (ae_B (cr_allA rfl) T.b_all (aa_cons (ae_lc [("letter", 4)] rfl sc_is_parting.nd (blkOk_by rfl) (by decide) (ai_rng1 T.b_range (aa_cons (ae_v 1) aa_nil)) (fun _ _ _ _ _ => (ag_nm 4 sc_is_parting.nd)) (fun _ _ _ _ _ => ats_nil) (fun _ _ _ _ _ => (ae_cmp (op_eqA (hu64 hr)) (ae_B cr_lenSt T.b_len (aa_cons (ae_sc [("row", 5)] rfl sc_is_parting.nd (blkOk_by rfl) (by decide) (ai_seq (ae_v 2)) (fun _ _ _ _ _ => (ag_nm 5 sc_is_parting.nd)) (fun _ _ _ _ _ => ats_nil) (fun _ _ _ _ _ => (ae_ix (ae_v 5) (ae_v 4)))) aa_nil)) (ae_B cr_lenN T.b_len (aa_cons (ae_v 2) aa_nil))))) aa_nil)))
    ass_nil))
abbrev s_is_commuting : Stmt := topS 79
theorem sc_is_commuting : FnScope ["small", "row", "letters", "steps", "_", "a", "b"] ["small"] (defScope s_is_commuting) := ⟨rfl, rfl, rfl, by decide +kernel, rfl, by decide +kernel, by decide +kernel⟩
def S_is_commuting : SF :=
  (sSeq (sAsg (.tp [(.nm 2), (.nm 3), (.nm 4)]) (eVar 0))
    (sSeq (sFor (iSeq (eVar 3)) (.nm 1) (sSeq (sFor (iRng1 (eCons (eVar 2) eNil)) (.nm 5) (sSeq (sIf (eT (eFn oAny (eCons (eLc (iRng1 (eCons (eVar 5) eNil)) (.nm 6) bYes (eOp oNe (eOp oIx (eOp oIx (eVar 3) (eOp oIx (eVar 1) (eVar 5))) (eVar 6)) (eOp oIx (eOp oIx (eVar 3) (eOp oIx (eVar 1) (eVar 6))) (eVar 5))) [6]) eNil))) (sSeq (sRet (eC (.bl false)))
    sNil) sNil)
    sNil))
    sNil))
    (sSeq (sRet (eC (.bl true)))
    sNil)))
def F_is_commuting : On' := defA 7 S_is_commuting
set_option maxHeartbeats 16000000 in
theorem ok_is_commuting {fa : Addr} {fd : FuncData} (T : Txt w K mg)  (F : Fun K "is_commuting" "is_commuting" s_is_commuting fa fd) (hm : mg "is_commuting" = some (.ref fa)) : FnX P w K mg Tb base "is_commuting" 1 1 F_is_commuting := by
  refine ⟨fa, fd, ["small"], fn_A (k := 0) F sc_is_commuting (fun cdv A outer s₀ H E hr => ?_), hm, F.kp, F.binds (ps := ["small"]) fun _ _ _ _ _ _ us hl => match us, hl with | [_], _ => rfl⟩
  unfold S_is_commuting
  exact (ass_cons (as_asg (ae_v 0) (ag_tp rfl (ags_cons (ag_nm 2 sc_is_commuting.nd) (ags_cons (ag_nm 3 sc_is_commuting.nd) (ags_cons (ag_nm 4 sc_is_commuting.nd) ags_nil)))))
    (ass_cons (as_for (passes_of rfl) rfl (ai_seq (ae_v 3)) (ag_nm 1 sc_is_commuting.nd) (ass_cons (as_for (passes_of rfl) rfl (ai_rng1 T.b_range (aa_cons (ae_v 2) aa_nil)) (ag_nm 5 sc_is_commuting.nd) (ass_cons (as_if (at_val (ae_B (cr_anyA rfl) T.b_any (aa_cons (ae_lc [("b", 6)] rfl sc_is_commuting.nd (blkOk_by rfl) (by decide) (ai_rng1 T.b_range (aa_cons (ae_v 5) aa_nil)) (fun _ _ _ _ _ => (ag_nm 6 sc_is_commuting.nd)) (fun _ _ _ _ _ => ats_nil) (fun _ _ _ _ _ => (ae_cmp (op_neA (hu64 hr)) (ae_ix (ae_ix (ae_v 3) (ae_ix (ae_v 1) (ae_v 5))) (ae_v 6)) (ae_ix (ae_ix (ae_v 3) (ae_ix (ae_v 1) (ae_v 6))) (ae_v 5))))) aa_nil))) (ass_cons (as_ret ae_bl)
    ass_nil) ass_nil)
    ass_nil))
    ass_nil))
    (ass_cons (as_ret ae_bl)
    ass_nil)))
abbrev s_is_kept : Stmt := topS 78
theorem sc_is_kept : FnScope ["world", "small"] ["world", "small"] (defScope s_is_kept) := ⟨rfl, rfl, rfl, by decide +kernel, rfl, by decide +kernel, by decide +kernel⟩
def S_is_kept : SF :=
  (sSeq (sIf (bAnd (eB (eInK false (eVar 0) (kC tt_PLACELESS))) (bNot (eT (eCall 1 F_is_commuting (eCons (eVar 1) eNil))))) (sSeq (sRet (eC (.bl false)))
    sNil) sNil)
    (sSeq (sRet (eOr (eInK true (eVar 0) (kC tt_TAKING)) (eCall 1 F_is_parting (eCons (eVar 1) eNil))))
    sNil))
def F_is_kept : On' := defA 2 S_is_kept
set_option maxHeartbeats 16000000 in
theorem ok_is_kept {fa : Addr} {fd : FuncData} (T : Txt w K mg) (G_is_commuting : FnX P w K mg Tb base "is_commuting" 1 1 F_is_commuting) (G_is_parting : FnX P w K mg Tb base "is_parting" 1 1 F_is_parting) (F : Fun K "is_kept" "is_kept" s_is_kept fa fd) (hm : mg "is_kept" = some (.ref fa)) : FnX P w K mg Tb base "is_kept" 2 2 F_is_kept := by
  refine ⟨fa, fd, ["world", "small"], fn_A (k := 1) F sc_is_kept (fun cdv A outer s₀ H E hr => ?_), hm, F.kp, F.binds (ps := ["world", "small"]) fun _ _ _ _ _ _ us hl => match us, hl with | [_, _], _ => rfl⟩
  unfold S_is_kept
  exact (ass_cons (as_if (AW.at (aw_and (at_inK (ae_v 0) (ak_nm T.g_PLACELESS.choose_spec.1 T.g_PLACELESS.choose_spec.2)) (aw_and1 (at_not (at_val (ae_callX G_is_commuting (hr.mono (by first | decide | omega)) (takes_of rfl rfl rfl rfl) (aa_cons (ae_v 1) aa_nil))))))) (ass_cons (as_ret ae_bl)
    ass_nil) ass_nil)
    (ass_cons (as_ret (ae_or (ae_ninK (ae_v 0) (ak_nm T.g_TAKING.choose_spec.1 T.g_TAKING.choose_spec.2)) (ae_one (ae_callX G_is_parting (hr.mono (by first | decide | omega)) (takes_of rfl rfl rfl rfl) (aa_cons (ae_v 1) aa_nil)))))
    ass_nil))
abbrev s_summed : Stmt := topS 114
theorem sc_summed : FnScope ["question", "small"] ["question"] (defScope s_summed) := ⟨rfl, rfl, rfl, by decide +kernel, rfl, by decide +kernel, by decide +kernel⟩
def S_summed : SF :=
  (sSeq (sExpr (eCall 1 F_check_question (eCons (eVar 0) eNil)))
    (sSeq (sAsg (.nm 1) (eCallD 2 F_least_of [.non] (eCons (eVar 0) eNil)))
    (sSeq (sIf (bNot (eT (eCall 2 F_is_kept (eCons (eC (.str (Str.ofString "inout"))) (eCons (eVar 1) eNil))))) sBad sNil)
    (sSeq (sRet (eVar 1))
    sNil))))
def F_summed : On' := defA 2 S_summed
set_option maxHeartbeats 16000000 in
theorem ok_summed {fa : Addr} {fd : FuncData} (T : Txt w K mg) (G_check_question : FnX P w K mg Tb base "check_question" 4 1 F_check_question) (G_least_of : FnXD P w K mg Tb base "least_of" 3 2 [.non] F_least_of) (G_is_kept : FnX P w K mg Tb base "is_kept" 2 2 F_is_kept) (F : Fun K "summed" "summed" s_summed fa fd) (hm : mg "summed" = some (.ref fa)) : FnX P w K mg Tb base "summed" 5 1 F_summed := by
  refine ⟨fa, fd, ["question"], fn_A (k := 4) F sc_summed (fun cdv A outer s₀ H E hr => ?_), hm, F.kp, F.binds (ps := ["question"]) fun _ _ _ _ _ _ us hl => match us, hl with | [_], _ => rfl⟩
  unfold S_summed
  exact (ass_cons (as_expr (ae_callX G_check_question (hr.mono (by first | decide | omega)) (takes_of rfl rfl rfl rfl) (aa_cons (ae_v 0) aa_nil)))
    (ass_cons (as_set 1 sc_summed.nd (ae_callXD G_least_of (hr.mono (by first | decide | omega)) (takes_of rfl rfl rfl rfl) (aa_cons (ae_v 0) aa_nil)))
    (ass_cons (as_if (at_not (at_val (ae_callX G_is_kept (hr.mono (by first | decide | omega)) (takes_of rfl rfl rfl rfl) (aa_cons ae_str (aa_cons (ae_v 1) aa_nil))))) ass_never ass_nil)
    (ass_cons (as_ret (ae_v 1))
    ass_nil))))
abbrev s_bring_least : Stmt := topS 109
theorem sc_bring_least : FnScope ["rows", "base", "at", "places", "line", "_", "row", "column", "i", "j"] ["rows", "base", "at"] (defScope s_bring_least) := ⟨rfl, rfl, rfl, by decide +kernel, rfl, by decide +kernel, by decide +kernel⟩
def S_bring_least : SF :=
  (sSeq (sAsg (.nm 3) (eFn oRange2 (eCons (eVar 2) (eCons (eFn oLenN (eCons (eVar 0) eNil)) eNil))))
    (sSeq (sAsg (.tp [(.nm 5), (.nm 6), (.nm 7)]) (eFn oMinT (eCons (eLc2 (iRngA (eVar 3)) (.nm 8) bYes (iRngA (eVar 3)) (.nm 9) (eB (eOp oNe (eOp oIx (eOp oIx (eVar 0) (eVar 8)) (eVar 9)) (eC (.int 0)))) (eTup (eCons (eFn oAbs (eCons (eOp oIx (eOp oIx (eVar 0) (eVar 8)) (eVar 9)) eNil)) (eCons (eVar 8) (eCons (eVar 9) eNil)))) [8, 9] [9]) eNil)))
    (sSeq (sSwap (eVar 0) (eVar 2) (eVar 0) (eVar 6) (eCons (eOp oIx (eVar 0) (eVar 6)) (eCons (eOp oIx (eVar 0) (eVar 2)) eNil)))
    (sSeq (sFor (iSeq (eOp oAdd (eVar 0) (eVar 1))) (.nm 4) (sSeq (sSwap (eVar 4) (eVar 2) (eVar 4) (eVar 7) (eCons (eOp oIx (eVar 4) (eVar 7)) (eCons (eOp oIx (eVar 4) (eVar 2)) eNil)))
    sNil))
    sNil))))
def F_bring_least : On' := defA 10 S_bring_least
set_option maxHeartbeats 16000000 in
theorem ok_bring_least {fa : Addr} {fd : FuncData} (T : Txt w K mg)  (F : Fun K "bring_least" "bring_least" s_bring_least fa fd) (hm : mg "bring_least" = some (.ref fa)) : FnX P w K mg Tb base "bring_least" 1 3 F_bring_least := by
  refine ⟨fa, fd, ["rows", "base", "at"], fn_A (k := 0) F sc_bring_least (fun cdv A outer s₀ H E hr => ?_), hm, F.kp, F.binds (ps := ["rows", "base", "at"]) fun _ _ _ _ _ _ us hl => match us, hl with | [_, _, _], _ => rfl⟩
  unfold S_bring_least
  exact (ass_cons (as_set 3 sc_bring_least.nd (ae_Ty cr_range2 T.b_range (aa_cons (ae_v 2) (aa_cons (ae_B cr_lenN T.b_len (aa_cons (ae_v 0) aa_nil)) aa_nil))))
    (ass_cons (as_asg (ae_B (cr_minT (hu9 hr) rfl) T.b_min (aa_cons (ae_lc2 [("i", 8), ("j", 9)] [9] rfl sc_bring_least.nd (blkOk_by rfl) (by decide) (by decide) (by decide) (ai_rngV (ae_v 3)) (fun _ _ _ _ _ => (ag_nm 8 sc_bring_least.nd)) (fun _ _ _ _ _ => ats_nil) (fun _ _ _ _ _ => (ai_rngV (ae_v 3))) (fun _ _ _ _ _ => (ag_nm 9 sc_bring_least.nd)) (fun _ _ _ _ _ => (ats_one (at_cmp (op_neA (hu64 hr)) (ae_ix (ae_ix (ae_v 0) (ae_v 8)) (ae_v 9)) ae_int))) (fun _ _ _ _ _ => (ae_tup (aa_cons (ae_B cr_absA T.b_abs (aa_cons (ae_ix (ae_ix (ae_v 0) (ae_v 8)) (ae_v 9)) aa_nil)) (aa_cons (ae_v 8) (aa_cons (ae_v 9) aa_nil)))))) aa_nil)) (ag_tp rfl (ags_cons (ag_nm 5 sc_bring_least.nd) (ags_cons (ag_nm 6 sc_bring_least.nd) (ags_cons (ag_nm 7 sc_bring_least.nd) ags_nil)))))
    (ass_cons (as_swap rfl (ae_v 0) (ae_v 2) (ae_v 0) (ae_v 6) (aa_cons (ae_ix (ae_v 0) (ae_v 6)) (aa_cons (ae_ix (ae_v 0) (ae_v 2)) aa_nil)))
    (ass_cons (as_for (passes_of rfl) rfl (ai_seq (ae_op op_addA (ae_v 0) (ae_v 1))) (ag_nm 4 sc_bring_least.nd) (ass_cons (as_swap rfl (ae_v 4) (ae_v 2) (ae_v 4) (ae_v 7) (aa_cons (ae_ix (ae_v 4) (ae_v 7)) (aa_cons (ae_ix (ae_v 4) (ae_v 2)) aa_nil)))
    ass_nil))
    ass_nil))))
abbrev s_add_row : Stmt := topS 111
theorem sc_add_row : FnScope ["rows", "at", "other", "times", "place", "number"] ["rows", "at", "other", "times"] (defScope s_add_row) := ⟨rfl, rfl, rfl, by decide +kernel, rfl, by decide +kernel, by decide +kernel⟩
def S_add_row : SF :=
  (sSeq (sSetL (eVar 0) (eVar 1) (eLc (iEnumA (eCons (eOp oIx (eVar 0) (eVar 1)) eNil)) (.tp [(.nm 4), (.nm 5)]) bYes (eOp oAdd (eVar 5) (eOp oMul (eVar 3) (eOp oIx (eOp oIx (eVar 0) (eVar 2)) (eVar 4)))) [4, 5]))
    sNil)
def F_add_row : On' := defA 6 S_add_row
set_option maxHeartbeats 16000000 in
theorem ok_add_row {fa : Addr} {fd : FuncData} (T : Txt w K mg)  (F : Fun K "add_row" "add_row" s_add_row fa fd) (hm : mg "add_row" = some (.ref fa)) : FnX P w K mg Tb base "add_row" 1 4 F_add_row := by
  refine ⟨fa, fd, ["rows", "at", "other", "times"], fn_A (k := 0) F sc_add_row (fun cdv A outer s₀ H E hr => ?_), hm, F.kp, F.binds (ps := ["rows", "at", "other", "times"]) fun _ _ _ _ _ _ us hl => match us, hl with | [_, _, _, _], _ => rfl⟩
  unfold S_add_row
  exact (ass_cons (as_setL (ae_v 0) (ae_v 1) (ae_lc [("place", 4), ("number", 5)] rfl sc_add_row.nd (blkOk_by rfl) (by decide) (ai_enum T.b_enumerate (aa_cons (ae_ix (ae_v 0) (ae_v 1)) aa_nil)) (fun _ _ _ _ _ => (ag_tp rfl (ags_cons (ag_nm 4 sc_add_row.nd) (ags_cons (ag_nm 5 sc_add_row.nd) ags_nil)))) (fun _ _ _ _ _ => ats_nil) (fun _ _ _ _ _ => (ae_op op_addA (ae_v 5) (ae_op op_mulA (ae_v 3) (ae_ix (ae_ix (ae_v 0) (ae_v 2)) (ae_v 4)))))))
    ass_nil)
abbrev s_lower : Stmt := topS 110
theorem sc_lower : FnScope ["rows", "base", "at", "row", "column", "times", "line"] ["rows", "base", "at"] (defScope s_lower) := ⟨rfl, rfl, rfl, by decide +kernel, rfl, by decide +kernel, by decide +kernel⟩
def S_lower : SF :=
  (sSeq (sFor (iRng2 (eCons (eOp oAdd (eVar 2) (eC (.int 1))) (eCons (eFn oLenN (eCons (eVar 0) eNil)) eNil))) (.nm 3) (sSeq (sExpr (eCall 4 F_add_row (eCons (eVar 0) (eCons (eVar 3) (eCons (eVar 2) (eCons (eUn oNeg (eOp oFdiv (eOp oIx (eOp oIx (eVar 0) (eVar 3)) (eVar 2)) (eOp oIx (eOp oIx (eVar 0) (eVar 2)) (eVar 2)))) eNil))))))
    sNil))
    (sSeq (sFor (iRng2 (eCons (eOp oAdd (eVar 2) (eC (.int 1))) (eCons (eFn oLenN (eCons (eVar 0) eNil)) eNil))) (.nm 4) (sSeq (sAsg (.nm 5) (eOp oFdiv (eOp oIx (eOp oIx (eVar 0) (eVar 2)) (eVar 4)) (eOp oIx (eOp oIx (eVar 0) (eVar 2)) (eVar 2))))
    (sSeq (sFor (iSeq (eOp oAdd (eVar 0) (eVar 1))) (.nm 6) (sSeq sBad
    sNil))
    sNil)))
    sNil))
def F_lower : On' := defA 7 S_lower
set_option maxHeartbeats 16000000 in
theorem ok_lower {fa : Addr} {fd : FuncData} (T : Txt w K mg) (G_add_row : FnX P w K mg Tb base "add_row" 1 4 F_add_row) (F : Fun K "lower" "lower" s_lower fa fd) (hm : mg "lower" = some (.ref fa)) : FnX P w K mg Tb base "lower" 2 3 F_lower := by
  refine ⟨fa, fd, ["rows", "base", "at"], fn_A (k := 1) F sc_lower (fun cdv A outer s₀ H E hr => ?_), hm, F.kp, F.binds (ps := ["rows", "base", "at"]) fun _ _ _ _ _ _ us hl => match us, hl with | [_, _, _], _ => rfl⟩
  unfold S_lower
  exact (ass_cons (as_for (passes_of rfl) rfl (ai_rng2 T.b_range (aa_cons (ae_op op_addA (ae_v 2) ae_int) (aa_cons (ae_B cr_lenN T.b_len (aa_cons (ae_v 0) aa_nil)) aa_nil))) (ag_nm 3 sc_lower.nd) (ass_cons (as_expr (ae_callX G_add_row (hr.mono (by first | decide | omega)) (takes_of rfl rfl rfl rfl) (aa_cons (ae_v 0) (aa_cons (ae_v 3) (aa_cons (ae_v 2) (aa_cons (ae_un un_negA (ae_op op_fdivA (ae_ix (ae_ix (ae_v 0) (ae_v 3)) (ae_v 2)) (ae_ix (ae_ix (ae_v 0) (ae_v 2)) (ae_v 2)))) aa_nil))))))
    ass_nil))
    (ass_cons (as_for (passes_of rfl) rfl (ai_rng2 T.b_range (aa_cons (ae_op op_addA (ae_v 2) ae_int) (aa_cons (ae_B cr_lenN T.b_len (aa_cons (ae_v 0) aa_nil)) aa_nil))) (ag_nm 4 sc_lower.nd) (ass_cons (as_set 5 sc_lower.nd (ae_op op_fdivA (ae_ix (ae_ix (ae_v 0) (ae_v 2)) (ae_v 4)) (ae_ix (ae_ix (ae_v 0) (ae_v 2)) (ae_v 2))))
    (ass_cons (as_for (passes_of rfl) rfl (ai_seq (ae_op op_addA (ae_v 0) (ae_v 1))) (ag_nm 6 sc_lower.nd) (ass_cons as_never
    ass_nil))
    ass_nil)))
    ass_nil))
abbrev s_settle : Stmt := topS 108
theorem sc_settle : FnScope ["rows", "base", "at", "beyond", "odd", "row", "place"] ["rows", "base", "at"] (defScope s_settle) := ⟨rfl, rfl, rfl, by decide +kernel, rfl, by decide +kernel, by decide +kernel⟩
def S_settle : SF :=
  (sSeq (sAsg (.nm 3) (eFn oRange2 (eCons (eOp oAdd (eVar 2) (eC (.int 1))) (eCons (eFn oLenN (eCons (eVar 0) eNil)) eNil))))
    (sSeq (fun τ M => whileA (eT (eC (.bl true))) (sSeq (sExpr (eCall 3 F_bring_least (eCons (eVar 0) (eCons (eVar 1) (eCons (eVar 2) eNil)))))
    (sSeq (sExpr (eCall 3 F_lower (eCons (eVar 0) (eCons (eVar 1) (eCons (eVar 2) eNil)))))
    (sSeq (sIf (eT (eFn oAny (eCons (eLc (iRngA (eVar 3)) (.nm 6) bYes (eOr (eOp oNe (eOp oIx (eOp oIx (eVar 0) (eVar 2)) (eVar 6)) (eC (.int 0))) (eOp oNe (eOp oIx (eOp oIx (eVar 0) (eVar 6)) (eVar 2)) (eC (.int 0)))) [6]) eNil))) (sSeq sContinue
    sNil) sNil)
    (sSeq (sAsg (.nm 4) (eLc (iRngA (eVar 3)) (.nm 5) (eT (eFn oAny (eCons (eLc (iRngA (eVar 3)) (.nm 6) bYes (eOp oNe (eOp oMod (eOp oIx (eOp oIx (eVar 0) (eVar 5)) (eVar 6)) (eOp oIx (eOp oIx (eVar 0) (eVar 2)) (eVar 2))) (eC (.int 0))) [6]) eNil))) (eVar 5) [5]))
    (sSeq (sIf (bNot (eT (eVar 4))) (sSeq sRetN
    sNil) sNil)
    (sSeq (sExpr (eCall 4 F_add_row (eCons (eVar 0) (eCons (eVar 2) (eCons (eOp oIx (eVar 4) (eC (.int 0))) (eCons (eC (.int 1)) eNil))))))
    sNil)))))) fuel τ M)
    sNil))
def F_settle : On' := defA 7 S_settle
set_option maxHeartbeats 16000000 in
theorem ok_settle {fa : Addr} {fd : FuncData} (T : Txt w K mg) (G_bring_least : FnX P w K mg Tb base "bring_least" 1 3 F_bring_least) (G_lower : FnX P w K mg Tb base "lower" 2 3 F_lower) (G_add_row : FnX P w K mg Tb base "add_row" 1 4 F_add_row) (F : Fun K "settle" "settle" s_settle fa fd) (hm : mg "settle" = some (.ref fa)) : FnX P w K mg Tb base "settle" 3 3 F_settle := by
  refine ⟨fa, fd, ["rows", "base", "at"], fn_A (k := 2) F sc_settle (fun cdv A outer s₀ H E hr => ?_), hm, F.kp, F.binds (ps := ["rows", "base", "at"]) fun _ _ _ _ _ _ us hl => match us, hl with | [_, _, _], _ => rfl⟩
  unfold S_settle
  exact (ass_cons (as_set 3 sc_settle.nd (ae_Ty cr_range2 T.b_range (aa_cons (ae_op op_addA (ae_v 2) ae_int) (aa_cons (ae_B cr_lenN T.b_len (aa_cons (ae_v 0) aa_nil)) aa_nil))))
    (ass_cons (as_while (fun _ _ => fuel) (passes_of rfl) (at_val ae_bl) (ass_cons (as_expr (ae_callX G_bring_least (hr.mono (by first | decide | omega)) (takes_of rfl rfl rfl rfl) (aa_cons (ae_v 0) (aa_cons (ae_v 1) (aa_cons (ae_v 2) aa_nil)))))
    (ass_cons (as_expr (ae_callX G_lower (hr.mono (by first | decide | omega)) (takes_of rfl rfl rfl rfl) (aa_cons (ae_v 0) (aa_cons (ae_v 1) (aa_cons (ae_v 2) aa_nil)))))
    (ass_cons (as_if (at_val (ae_B (cr_anyA rfl) T.b_any (aa_cons (ae_lc [("place", 6)] rfl sc_settle.nd (blkOk_by rfl) (by decide) (ai_rngV (ae_v 3)) (fun _ _ _ _ _ => (ag_nm 6 sc_settle.nd)) (fun _ _ _ _ _ => ats_nil) (fun _ _ _ _ _ => (ae_or (ae_cmp (op_neA (hu64 hr)) (ae_ix (ae_ix (ae_v 0) (ae_v 2)) (ae_v 6)) ae_int) (ae_one (ae_cmp (op_neA (hu64 hr)) (ae_ix (ae_ix (ae_v 0) (ae_v 6)) (ae_v 2)) ae_int))))) aa_nil))) (ass_cons as_continue
    ass_nil) ass_nil)
    (ass_cons (as_setLc 4 [("row", 5)] rfl sc_settle.nd (sw_true rfl rfl rfl (by decide +kernel)) (blkOk_by rfl) (by decide) (ai_rngV (ae_v 3)) (fun _ _ _ _ _ => (ag_nm 5 sc_settle.nd)) (fun _ _ _ _ _ => (ats_one (at_val (ae_B (cr_anyA rfl) T.b_any (aa_cons (ae_lc [("place", 6)] rfl sc_settle.nd (blkOk_by rfl) (by decide) (ai_rngV (ae_v 3)) (fun _ _ _ _ _ => (ag_nm 6 sc_settle.nd)) (fun _ _ _ _ _ => ats_nil) (fun _ _ _ _ _ => (ae_cmp (op_neA (hu64 hr)) (ae_op op_modA (ae_ix (ae_ix (ae_v 0) (ae_v 5)) (ae_v 6)) (ae_ix (ae_ix (ae_v 0) (ae_v 2)) (ae_v 2))) ae_int))) aa_nil))))) (fun _ _ _ _ _ => (ae_v 5)))
    (ass_cons (as_if (at_not (at_val (ae_v 4))) (ass_cons as_retN
    ass_nil) ass_nil)
    (ass_cons (as_expr (ae_callX G_add_row (hr.mono (by first | decide | omega)) (takes_of rfl rfl rfl rfl) (aa_cons (ae_v 0) (aa_cons (ae_v 2) (aa_cons (ae_ix (ae_v 4) ae_int) (aa_cons ae_int aa_nil))))))
    ass_nil)))))))
    ass_nil))
abbrev s_plain_form : Stmt := topS 107
theorem sc_plain_form : FnScope ["rows", "lines", "places", "base", "at", "row", "column", "place"] ["rows"] (defScope s_plain_form) := ⟨rfl, rfl, rfl, by decide +kernel, rfl, by decide +kernel, by decide +kernel⟩
def S_plain_form : SF :=
  (sSeq (sAsg (.nm 1) (eLc (iSeq (eVar 0)) (.nm 5) bYes (eFn oList (eCons (eVar 5) eNil)) [5]))
    (sSeq (sAsg (.nm 2) (eFn oRange (eCons (eFn oLenN (eCons (eVar 1) eNil)) eNil)))
    (sSeq (sAsg (.nm 3) (eLc (iRngA (eVar 2)) (.nm 5) bYes (eLc (iRngA (eVar 2)) (.nm 6) bYes (eFn oInt1 (eCons (eOp oEq (eVar 5) (eVar 6)) eNil)) [6]) [5]))
    (sSeq (sFor (iRngA (eVar 2)) (.nm 4) (sSeq (sExpr (eCall 3 F_settle (eCons (eVar 1) (eCons (eVar 3) (eCons (eVar 4) eNil)))))
    sNil))
    (sSeq (sRet (eTup (eCons (eLc (iRngA (eVar 2)) (.nm 7) bYes (eFn oAbs (eCons (eOp oIx (eOp oIx (eVar 1) (eVar 7)) (eVar 7)) eNil)) [7]) (eCons (eVar 3) eNil))))
    sNil)))))
def F_plain_form : On' := defA 8 S_plain_form
set_option maxHeartbeats 16000000 in
theorem ok_plain_form {fa : Addr} {fd : FuncData} (T : Txt w K mg) (G_settle : FnX P w K mg Tb base "settle" 3 3 F_settle) (F : Fun K "plain_form" "plain_form" s_plain_form fa fd) (hm : mg "plain_form" = some (.ref fa)) : FnX P w K mg Tb base "plain_form" 4 1 F_plain_form := by
  refine ⟨fa, fd, ["rows"], fn_A (k := 3) F sc_plain_form (fun cdv A outer s₀ H E hr => ?_), hm, F.kp, F.binds (ps := ["rows"]) fun _ _ _ _ _ _ us hl => match us, hl with | [_], _ => rfl⟩
  unfold S_plain_form
  exact (ass_cons (as_set 1 sc_plain_form.nd (ae_lc [("row", 5)] rfl sc_plain_form.nd (blkOk_by rfl) (by decide) (ai_seq (ae_v 0)) (fun _ _ _ _ _ => (ag_nm 5 sc_plain_form.nd)) (fun _ _ _ _ _ => ats_nil) (fun _ _ _ _ _ => (ae_Ty (cr_list rfl) T.b_list (aa_cons (ae_v 5) aa_nil)))))
    (ass_cons (as_set 2 sc_plain_form.nd (ae_Ty cr_range T.b_range (aa_cons (ae_B cr_lenN T.b_len (aa_cons (ae_v 1) aa_nil)) aa_nil)))
    (ass_cons (as_setLc 3 [("row", 5)] rfl sc_plain_form.nd (sw_true rfl rfl rfl (by decide +kernel)) (blkOk_by rfl) (by decide) (ai_rngV (ae_v 2)) (fun _ _ _ _ _ => (ag_nm 5 sc_plain_form.nd)) (fun _ _ _ _ _ => ats_nil) (fun _ _ _ _ _ => (ae_lc [("column", 6)] rfl sc_plain_form.nd (blkOk_by rfl) (by decide) (ai_rngV (ae_v 2)) (fun _ _ _ _ _ => (ag_nm 6 sc_plain_form.nd)) (fun _ _ _ _ _ => ats_nil) (fun _ _ _ _ _ => (ae_Ty cr_int T.b_int (aa_cons (ae_cmp (op_eqA (hu64 hr)) (ae_v 5) (ae_v 6)) aa_nil))))))
    (ass_cons (as_for (passes_of rfl) rfl (ai_rngV (ae_v 2)) (ag_nm 4 sc_plain_form.nd) (ass_cons (as_expr (ae_callX G_settle (hr.mono (by first | decide | omega)) (takes_of rfl rfl rfl rfl) (aa_cons (ae_v 1) (aa_cons (ae_v 3) (aa_cons (ae_v 4) aa_nil)))))
    ass_nil))
    (ass_cons (as_ret (ae_tup (aa_cons (ae_lc [("place", 7)] rfl sc_plain_form.nd (blkOk_by rfl) (by decide) (ai_rngV (ae_v 2)) (fun _ _ _ _ _ => (ag_nm 7 sc_plain_form.nd)) (fun _ _ _ _ _ => ats_nil) (fun _ _ _ _ _ => (ae_B cr_absA T.b_abs (aa_cons (ae_ix (ae_ix (ae_v 1) (ae_v 7)) (ae_v 7)) aa_nil)))) (aa_cons (ae_v 3) aa_nil))))
    ass_nil)))))
abbrev s_counts_with : Stmt := topS 117
theorem sc_counts_with : FnScope ["steps", "counts", "letter", "times", "found", "state", "row", "reached", "many"] ["steps", "counts", "letter", "times"] (defScope s_counts_with) := ⟨rfl, rfl, rfl, by decide +kernel, rfl, by decide +kernel, by decide +kernel⟩
def S_counts_with : SF :=
  (sSeq (sAsg (.nm 4) eNewK)
    (sSeq (sFor (iItemsA (eVar 1)) (.tp [(.nm 5), (.nm 6)]) (sSeq (sAsg (.nm 7) (eVar 5))
    (sSeq (sFor (iRng1 (eCons (eVar 3) eNil)) (.nm 8) (sSeq (sDput (eVar 4) (eVar 7) (eOp oAdd (eOp oAdd (eSl (eVar 6) eNoPart (ePart (eVar 2))) (eLst (eCons (eVar 8) eNil))) (eSl (eVar 6) (ePart (eOp oAdd (eVar 2) (eC (.int 1)))) eNoPart)))
    (sSeq (sAsg (.nm 7) (eOp oIx (eOp oIx (eVar 0) (eVar 7)) (eVar 2)))
    sNil)))
    sNil)))
    (sSeq (sRet (eVar 4))
    sNil)))
def F_counts_with : On' := defA 9 S_counts_with
set_option maxHeartbeats 16000000 in
theorem ok_counts_with {fa : Addr} {fd : FuncData} (T : Txt w K mg)  (F : Fun K "counts_with" "counts_with" s_counts_with fa fd) (hm : mg "counts_with" = some (.ref fa)) : FnX P w K mg Tb base "counts_with" 1 4 F_counts_with := by
  refine ⟨fa, fd, ["steps", "counts", "letter", "times"], fn_A (k := 0) F sc_counts_with (fun cdv A outer s₀ H E hr => ?_), hm, F.kp, F.binds (ps := ["steps", "counts", "letter", "times"]) fun _ _ _ _ _ _ us hl => match us, hl with | [_, _, _, _], _ => rfl⟩
  unfold S_counts_with
  exact (ass_cons (as_set 4 sc_counts_with.nd ae_newK)
    (ass_cons (as_for (passes_of rfl) rfl (ai_itemsL (ae_v 1)) (ag_tp rfl (ags_cons (ag_nm 5 sc_counts_with.nd) (ags_cons (ag_nm 6 sc_counts_with.nd) ags_nil))) (ass_cons (as_set 7 sc_counts_with.nd (ae_v 5))
    (ass_cons (as_for (passes_of rfl) rfl (ai_rng1 T.b_range (aa_cons (ae_v 3) aa_nil)) (ag_nm 8 sc_counts_with.nd) (ass_cons (as_dput (hu1 hr) (ae_v 4) (ae_v 7) (ae_op op_addA (ae_op op_addA (ae_sl (ae_v 6) ap_none (ap_some (ae_v 2))) (ae_lst (aa_cons (ae_v 8) aa_nil))) (ae_sl (ae_v 6) (ap_some (ae_op op_addA (ae_v 2) ae_int)) ap_none)))
    (ass_cons (as_set 7 sc_counts_with.nd (ae_ix (ae_ix (ae_v 0) (ae_v 7)) (ae_v 2)))
    ass_nil)))
    ass_nil)))
    (ass_cons (as_ret (ae_v 4))
    ass_nil)))
abbrev s_relations_of : Stmt := topS 116
theorem sc_relations_of : FnScope ["small", "counts", "rows", "letter", "letters", "steps", "_", "state", "times", "place", "many"] ["small"] (defScope s_relations_of) := ⟨rfl, rfl, rfl, by decide +kernel, rfl, by decide +kernel, by decide +kernel⟩
def S_relations_of : SF :=
  (sSeq (sAsg (.tp [(.nm 4), (.nm 5), (.nm 6)]) (eVar 0))
    (sSeq (sAsg (.nm 1) (eDisp1 (eC (.int 0)) (eOp oMul (eLst (eCons (eC (.int 0)) eNil)) (eVar 4))))
    (sSeq (sAsg (.nm 2) (eLst eNil))
    (sSeq (sFor (iRng1 (eCons (eVar 4) eNil)) (.nm 3) (sSeq (sAsg (.nm 7) (eOp oIx (eOp oIx (eVar 5) (eC (.int 0))) (eVar 3)))
    (sSeq (sAsg (.nm 8) (eC (.int 1)))
    (sSeq (fun τ M => whileA (eB (eOp oNotIn (eVar 7) (eVar 1))) (sSeq (sAsg (.nm 7) (eOp oIx (eOp oIx (eVar 5) (eVar 7)) (eVar 3)))
    (sSeq (sAug 8 (fun i j => i + j) (eC (.int 1)))
    sNil)) fuel τ M)
    (sSeq (sExpr (eMeth oAppend (eVar 2) (eCons (eLc (iEnumA (eCons (eOp oDget (eVar 1) (eVar 7)) eNil)) (.tp [(.nm 9), (.nm 10)]) bYes (eOp oSub (eOp oMul (eVar 8) (eFn oInt1 (eCons (eOp oEq (eVar 9) (eVar 3)) eNil))) (eVar 10)) [9, 10]) eNil)))
    (sSeq (sAsg (.nm 1) (eCall 4 F_counts_with (eCons (eVar 5) (eCons (eVar 1) (eCons (eVar 3) (eCons (eVar 8) eNil))))))
    sNil))))))
    (sSeq (sRet (eVar 2))
    sNil)))))
def F_relations_of : On' := defA 11 S_relations_of
set_option maxHeartbeats 16000000 in
theorem ok_relations_of {fa : Addr} {fd : FuncData} (T : Txt w K mg) (G_counts_with : FnX P w K mg Tb base "counts_with" 1 4 F_counts_with) (F : Fun K "relations_of" "relations_of" s_relations_of fa fd) (hm : mg "relations_of" = some (.ref fa)) : FnX P w K mg Tb base "relations_of" 2 1 F_relations_of := by
  refine ⟨fa, fd, ["small"], fn_A (k := 1) F sc_relations_of (fun cdv A outer s₀ H E hr => ?_), hm, F.kp, F.binds (ps := ["small"]) fun _ _ _ _ _ _ us hl => match us, hl with | [_], _ => rfl⟩
  unfold S_relations_of
  exact (ass_cons (as_asg (ae_v 0) (ag_tp rfl (ags_cons (ag_nm 4 sc_relations_of.nd) (ags_cons (ag_nm 5 sc_relations_of.nd) (ags_cons (ag_nm 6 sc_relations_of.nd) ags_nil)))))
    (ass_cons (as_set 1 sc_relations_of.nd (ae_disp1 ae_int (ae_op op_mulA (ae_lst (aa_cons ae_int aa_nil)) (ae_v 4))))
    (ass_cons (as_set 2 sc_relations_of.nd (ae_lst aa_nil))
    (ass_cons (as_for (passes_of rfl) rfl (ai_rng1 T.b_range (aa_cons (ae_v 4) aa_nil)) (ag_nm 3 sc_relations_of.nd) (ass_cons (as_set 7 sc_relations_of.nd (ae_ix (ae_ix (ae_v 5) ae_int) (ae_v 3)))
    (ass_cons (as_set 8 sc_relations_of.nd ae_int)
    (ass_cons (as_while (fun _ _ => fuel) (passes_of rfl) (at_cmp (op_notInA (hu65 hr)) (ae_v 7) (ae_v 1)) (ass_cons (as_set 7 sc_relations_of.nd (ae_ix (ae_ix (ae_v 5) (ae_v 7)) (ae_v 3)))
    (ass_cons (as_aug 8 sc_relations_of.nd ip_add ae_int)
    ass_nil)))
    (ass_cons (as_expr (ae_append (ae_v 2) (aa_cons (ae_lc [("place", 9), ("many", 10)] rfl sc_relations_of.nd (blkOk_by rfl) (by decide) (ai_enum T.b_enumerate (aa_cons (ae_dget (hu1 hr) (ae_v 1) (ae_v 7)) aa_nil)) (fun _ _ _ _ _ => (ag_tp rfl (ags_cons (ag_nm 9 sc_relations_of.nd) (ags_cons (ag_nm 10 sc_relations_of.nd) ags_nil)))) (fun _ _ _ _ _ => ats_nil) (fun _ _ _ _ _ => (ae_op op_subA (ae_op op_mulA (ae_v 8) (ae_Ty cr_int T.b_int (aa_cons (ae_cmp (op_eqA (hu64 hr)) (ae_v 9) (ae_v 3)) aa_nil))) (ae_v 10)))) aa_nil)))
    (ass_cons (as_set 1 sc_relations_of.nd (ae_callX G_counts_with (hr.mono (by first | decide | omega)) (takes_of rfl rfl rfl rfl) (aa_cons (ae_v 5) (aa_cons (ae_v 1) (aa_cons (ae_v 3) (aa_cons (ae_v 8) aa_nil))))))
    ass_nil))))))
    (ass_cons (as_ret (ae_v 2))
    ass_nil)))))
abbrev s_weights_of : Stmt := topS 115
theorem sc_weights_of : FnScope ["small", "kept", "moduli", "numbers", "base", "place", "number", "row"] ["small"] (defScope s_weights_of) := ⟨rfl, rfl, rfl, by decide +kernel, rfl, by decide +kernel, by decide +kernel⟩
def S_weights_of : SF :=
  (sSeq (sAsg (.tp [(.nm 3), (.nm 4)]) (eCall 1 F_plain_form (eCons (eCall 1 F_relations_of (eCons (eVar 0) eNil)) eNil)))
    (sSeq (sAsg (.nm 1) (eLc (iEnumA (eCons (eVar 3) eNil)) (.tp [(.nm 5), (.nm 6)]) (eB (eOp oGt (eVar 6) (eC (.int 1)))) (eVar 5) [5, 6]))
    (sSeq (sAsg (.nm 2) (eFn oTuple (eCons (eLc (iSeq (eVar 1)) (.nm 5) bYes (eOp oIx (eVar 3) (eVar 5)) [5]) eNil)))
    (sSeq (sRet (eTup (eCons (eVar 2) (eCons (eFn oTuple (eCons (eLc (iSeq (eVar 4)) (.nm 7) bYes (eFn oTuple (eCons (eLc (iSeq (eVar 1)) (.nm 5) bYes (eOp oMod (eOp oIx (eVar 7) (eVar 5)) (eOp oIx (eVar 3) (eVar 5))) [5]) eNil)) [7]) eNil)) eNil))))
    sNil))))
def F_weights_of : On' := defA 8 S_weights_of
set_option maxHeartbeats 16000000 in
theorem ok_weights_of {fa : Addr} {fd : FuncData} (T : Txt w K mg) (G_plain_form : FnX P w K mg Tb base "plain_form" 4 1 F_plain_form) (G_relations_of : FnX P w K mg Tb base "relations_of" 2 1 F_relations_of) (F : Fun K "weights_of" "weights_of" s_weights_of fa fd) (hm : mg "weights_of" = some (.ref fa)) : FnX P w K mg Tb base "weights_of" 5 1 F_weights_of := by
  refine ⟨fa, fd, ["small"], fn_A (k := 4) F sc_weights_of (fun cdv A outer s₀ H E hr => ?_), hm, F.kp, F.binds (ps := ["small"]) fun _ _ _ _ _ _ us hl => match us, hl with | [_], _ => rfl⟩
  unfold S_weights_of
  exact (ass_cons (as_asg (ae_callX G_plain_form (hr.mono (by first | decide | omega)) (takes_of rfl rfl rfl rfl) (aa_cons (ae_callX G_relations_of (hr.mono (by first | decide | omega)) (takes_of rfl rfl rfl rfl) (aa_cons (ae_v 0) aa_nil)) aa_nil)) (ag_tp rfl (ags_cons (ag_nm 3 sc_weights_of.nd) (ags_cons (ag_nm 4 sc_weights_of.nd) ags_nil))))
    (ass_cons (as_set 1 sc_weights_of.nd (ae_lc [("place", 5), ("number", 6)] rfl sc_weights_of.nd (blkOk_by rfl) (by decide) (ai_enum T.b_enumerate (aa_cons (ae_v 3) aa_nil)) (fun _ _ _ _ _ => (ag_tp rfl (ags_cons (ag_nm 5 sc_weights_of.nd) (ags_cons (ag_nm 6 sc_weights_of.nd) ags_nil)))) (fun _ _ _ _ _ => (ats_one (at_cmp (op_gtA) (ae_v 6) ae_int))) (fun _ _ _ _ _ => (ae_v 5))))
    (ass_cons (as_set 2 sc_weights_of.nd (ae_Ty cr_tuple T.b_tuple (aa_cons (ae_lc [("place", 5)] rfl sc_weights_of.nd (blkOk_by rfl) (by decide) (ai_seq (ae_v 1)) (fun _ _ _ _ _ => (ag_nm 5 sc_weights_of.nd)) (fun _ _ _ _ _ => ats_nil) (fun _ _ _ _ _ => (ae_ix (ae_v 3) (ae_v 5)))) aa_nil)))
    (ass_cons (as_ret (ae_tup (aa_cons (ae_v 2) (aa_cons (ae_Ty cr_tuple T.b_tuple (aa_cons (ae_lc [("row", 7)] rfl sc_weights_of.nd (blkOk_by rfl) (by decide) (ai_seq (ae_v 4)) (fun _ _ _ _ _ => (ag_nm 7 sc_weights_of.nd)) (fun _ _ _ _ _ => ats_nil) (fun _ _ _ _ _ => (ae_Ty cr_tuple T.b_tuple (aa_cons (ae_lc [("place", 5)] rfl sc_weights_of.nd (blkOk_by rfl) (by decide) (ai_seq (ae_v 1)) (fun _ _ _ _ _ => (ag_nm 5 sc_weights_of.nd)) (fun _ _ _ _ _ => ats_nil) (fun _ _ _ _ _ => (ae_op op_modA (ae_ix (ae_v 7) (ae_v 5)) (ae_ix (ae_v 3) (ae_v 5))))) aa_nil)))) aa_nil)) aa_nil))))
    ass_nil))))
abbrev s_sums_met : Stmt := topS 118
theorem sc_sums_met : FnScope ["small", "moduli", "weights", "met", "known", "done", "state", "total", "letter", "weight", "added", "pair", "place", "part"] ["small", "moduli", "weights"] (defScope s_sums_met) := ⟨rfl, rfl, rfl, by decide +kernel, rfl, by decide +kernel, by decide +kernel⟩
def S_sums_met : SF :=
  (sSeq (sAsg (.nm 3) (eLst (eCons (eTup (eCons (eC (.int 0)) (eCons (eOp oMulT (eTup (eCons (eC (.int 0)) eNil)) (eFn oLenN (eCons (eVar 1) eNil))) eNil))) eNil)))
    (sSeq (sAsg (.nm 4) (eDispNN (eOp oIx (eVar 3) (eC (.int 0))) (eC (.bl true))))
    (sSeq (sAsg (.nm 5) (eC (.int 0)))
    (sSeq (fun τ M => whileA (eB (eOp oLt (eVar 5) (eFn oLenN (eCons (eVar 3) eNil)))) (sSeq (sAsg (.tp [(.nm 6), (.nm 7)]) (eOp oIx (eVar 3) (eVar 5)))
    (sSeq (sFor (iEnumA (eCons (eVar 2) eNil)) (.tp [(.nm 8), (.nm 9)]) (sSeq (sAsg (.nm 10) (eLc (iEnumA (eCons (eVar 9) eNil)) (.tp [(.nm 12), (.nm 13)]) bYes (eOp oMod (eOp oAdd (eOp oIx (eVar 7) (eVar 12)) (eVar 13)) (eOp oIx (eVar 1) (eVar 12))) [12, 13]))
    (sSeq (sAsg (.nm 11) (eTup (eCons (eOp oIx (eOp oIx (eOp oIx (eVar 0) (eC (.int 1))) (eVar 6)) (eVar 8)) (eCons (eFn oTuple (eCons (eVar 10) eNil)) eNil))))
    (sSeq (sIf (eB (eOp oNotInN (eVar 11) (eVar 4))) (sSeq (sDputN (eVar 4) (eVar 11) (eC (.bl true)))
    (sSeq (sExpr (eMeth oAppend (eVar 3) (eCons (eVar 11) eNil)))
    sNil)) sNil)
    sNil))))
    (sSeq (sAug 5 (fun i j => i + j) (eC (.int 1)))
    sNil))) fuel τ M)
    (sSeq (sRet (eVar 3))
    sNil)))))
def F_sums_met : On' := defA 14 S_sums_met
set_option maxHeartbeats 16000000 in
theorem ok_sums_met {fa : Addr} {fd : FuncData} (T : Txt w K mg)  (F : Fun K "sums_met" "sums_met" s_sums_met fa fd) (hm : mg "sums_met" = some (.ref fa)) : FnX P w K mg Tb base "sums_met" 1 3 F_sums_met := by
  refine ⟨fa, fd, ["small", "moduli", "weights"], fn_A (k := 0) F sc_sums_met (fun cdv A outer s₀ H E hr => ?_), hm, F.kp, F.binds (ps := ["small", "moduli", "weights"]) fun _ _ _ _ _ _ us hl => match us, hl with | [_, _, _], _ => rfl⟩
  unfold S_sums_met
  exact (ass_cons (as_set 3 sc_sums_met.nd (ae_lst (aa_cons (ae_tup (aa_cons ae_int (aa_cons (ae_op op_mulT (ae_tup (aa_cons ae_int aa_nil)) (ae_B cr_lenN T.b_len (aa_cons (ae_v 1) aa_nil))) aa_nil))) aa_nil)))
    (ass_cons (as_set 4 sc_sums_met.nd (ae_dispNN (hu9 hr) (ae_ix (ae_v 3) ae_int) ae_bl))
    (ass_cons (as_set 5 sc_sums_met.nd ae_int)
    (ass_cons (as_while (fun _ _ => fuel) (passes_of rfl) (at_cmp (op_ltA) (ae_v 5) (ae_B cr_lenN T.b_len (aa_cons (ae_v 3) aa_nil))) (ass_cons (as_asg (ae_ix (ae_v 3) (ae_v 5)) (ag_tp rfl (ags_cons (ag_nm 6 sc_sums_met.nd) (ags_cons (ag_nm 7 sc_sums_met.nd) ags_nil))))
    (ass_cons (as_for (passes_of rfl) rfl (ai_enum T.b_enumerate (aa_cons (ae_v 2) aa_nil)) (ag_tp rfl (ags_cons (ag_nm 8 sc_sums_met.nd) (ags_cons (ag_nm 9 sc_sums_met.nd) ags_nil))) (ass_cons (as_setLc 10 [("place", 12), ("part", 13)] rfl sc_sums_met.nd (sw_true rfl rfl rfl (by decide +kernel)) (blkOk_by rfl) (by decide) (ai_enum T.b_enumerate (aa_cons (ae_v 9) aa_nil)) (fun _ _ _ _ _ => (ag_tp rfl (ags_cons (ag_nm 12 sc_sums_met.nd) (ags_cons (ag_nm 13 sc_sums_met.nd) ags_nil)))) (fun _ _ _ _ _ => ats_nil) (fun _ _ _ _ _ => (ae_op op_modA (ae_op op_addA (ae_ix (ae_v 7) (ae_v 12)) (ae_v 13)) (ae_ix (ae_v 1) (ae_v 12)))))
    (ass_cons (as_set 11 sc_sums_met.nd (ae_tup (aa_cons (ae_ix (ae_ix (ae_ix (ae_v 0) ae_int) (ae_v 6)) (ae_v 8)) (aa_cons (ae_Ty cr_tuple T.b_tuple (aa_cons (ae_v 10) aa_nil)) aa_nil))))
    (ass_cons (as_if (at_cmp (op_notInN (hu9 hr)) (ae_v 11) (ae_v 4)) (ass_cons (as_dputN (hu9 hr) (ae_v 4) (ae_v 11) ae_bl)
    (ass_cons (as_expr (ae_append (ae_v 3) (aa_cons (ae_v 11) aa_nil)))
    ass_nil)) ass_nil)
    ass_nil))))
    (ass_cons (as_aug 5 sc_sums_met.nd ip_add ae_int)
    ass_nil))))
    (ass_cons (as_ret (ae_v 3))
    ass_nil)))))
abbrev s_sums : Stmt := topS 113
theorem sc_sums : FnScope ["question", "small", "found", "moduli", "weights", "state", "total"] ["question"] (defScope s_sums) := ⟨rfl, rfl, rfl, by decide +kernel, rfl, by decide +kernel, by decide +kernel⟩
def S_sums : SF :=
  (sSeq (sAsg (.nm 1) (eCall 1 F_summed (eCons (eVar 0) eNil)))
    (sSeq (sAsg (.tp [(.nm 3), (.nm 4)]) (eCall 1 F_weights_of (eCons (eVar 1) eNil)))
    (sSeq (sAsg (.nm 2) eNewN)
    (sSeq (sFor (iSeq (eCall 3 F_sums_met (eCons (eVar 1) (eCons (eVar 3) (eCons (eVar 4) eNil))))) (.tp [(.nm 5), (.nm 6)]) (sSeq (sDputN (eVar 2) (eVar 6) (eOp oIx (eOp oIx (eVar 1) (eC (.int 2))) (eVar 5)))
    sNil))
    (sSeq (sRet (eTup (eCons (eVar 3) (eCons (eVar 4) (eCons (eDc (iSeq (eFn oSortDN (eCons (eVar 2) eNil))) (.nm 6) bYes (eVar 6) (eOp oNget (eVar 2) (eVar 6)) [6]) eNil)))))
    sNil)))))
def F_sums : On' := defA 7 S_sums
set_option maxHeartbeats 16000000 in
theorem ok_sums {fa : Addr} {fd : FuncData} (T : Txt w K mg) (G_summed : FnX P w K mg Tb base "summed" 5 1 F_summed) (G_weights_of : FnX P w K mg Tb base "weights_of" 5 1 F_weights_of) (G_sums_met : FnX P w K mg Tb base "sums_met" 1 3 F_sums_met) (F : Fun K "sums" "sums" s_sums fa fd) (hm : mg "sums" = some (.ref fa)) : FnX P w K mg Tb base "sums" 6 1 F_sums := by
  refine ⟨fa, fd, ["question"], fn_A (k := 5) F sc_sums (fun cdv A outer s₀ H E hr => ?_), hm, F.kp, F.binds (ps := ["question"]) fun _ _ _ _ _ _ us hl => match us, hl with | [_], _ => rfl⟩
  unfold S_sums
  exact (ass_cons (as_set 1 sc_sums.nd (ae_callX G_summed (hr.mono (by first | decide | omega)) (takes_of rfl rfl rfl rfl) (aa_cons (ae_v 0) aa_nil)))
    (ass_cons (as_asg (ae_callX G_weights_of (hr.mono (by first | decide | omega)) (takes_of rfl rfl rfl rfl) (aa_cons (ae_v 1) aa_nil)) (ag_tp rfl (ags_cons (ag_nm 3 sc_sums.nd) (ags_cons (ag_nm 4 sc_sums.nd) ags_nil))))
    (ass_cons (as_set 2 sc_sums.nd ae_newN)
    (ass_cons (as_for (passes_of rfl) rfl (ai_seq (ae_callX G_sums_met (hr.mono (by first | decide | omega)) (takes_of rfl rfl rfl rfl) (aa_cons (ae_v 1) (aa_cons (ae_v 3) (aa_cons (ae_v 4) aa_nil))))) (ag_tp rfl (ags_cons (ag_nm 5 sc_sums.nd) (ags_cons (ag_nm 6 sc_sums.nd) ags_nil))) (ass_cons (as_dputN (hu9 hr) (ae_v 2) (ae_v 6) (ae_ix (ae_ix (ae_v 1) ae_int) (ae_v 5)))
    ass_nil))
    (ass_cons (as_ret (ae_tup (aa_cons (ae_v 3) (aa_cons (ae_v 4) (aa_cons (ae_dc [("total", 6)] (hu9 hr) rfl sc_sums.nd (blkOk_by rfl) (by decide) (ai_seq (ae_B (cr_sortDN rfl) T.b_sorted (aa_cons (ae_v 2) aa_nil))) (fun _ _ _ _ _ => (ag_nm 6 sc_sums.nd)) (fun _ _ _ _ _ => ats_nil) (fun _ _ _ _ _ => (ae_v 6)) (fun _ _ _ _ _ => (ae_nget (hu9 hr) (ae_v 2) (ae_v 6)))) aa_nil)))))
    ass_nil)))))
abbrev s_check_world : Stmt := topS 55
theorem sc_check_world : FnScope ["world"] ["world"] (defScope s_check_world) := ⟨rfl, rfl, rfl, by decide +kernel, rfl, by decide +kernel, by decide +kernel⟩
def S_check_world : SF :=
  (sSeq (sIf (bOr (bNot (eT (eFn oIsi (eCons (eVar 0) (eCons (eC (.ty "str")) eNil))))) (eB (eInT true tb_WORDS (eVar 0)))) sBad sNil)
    sNil)
def F_check_world : On' := defA 1 S_check_world
set_option maxHeartbeats 16000000 in
theorem ok_check_world {fa : Addr} {fd : FuncData} (T : Txt w K mg)  (F : Fun K "check_world" "check_world" s_check_world fa fd) (hm : mg "check_world" = some (.ref fa)) : FnX P w K mg Tb base "check_world" 1 1 F_check_world := by
  refine ⟨fa, fd, ["world"], fn_A (k := 0) F sc_check_world (fun cdv A outer s₀ H E hr => ?_), hm, F.kp, F.binds (ps := ["world"]) fun _ _ _ _ _ _ us hl => match us, hl with | [_], _ => rfl⟩
  unfold S_check_world
  exact (ass_cons (as_if (AW.at (aw_or (at_not (at_val (ae_B cr_isi T.b_isinstance (aa_cons (ae_v 0) (aa_cons (ae_type T.b_str) aa_nil))))) (aw_or1 (at_ninT T.g_WORDS.choose_spec.1 T.g_WORDS.choose_spec.2 (ae_v 0))))) ass_never ass_nil)
    ass_nil)
abbrev s_check_states : Stmt := topS 82
theorem sc_check_states : FnScope ["value", "many", "steps", "answers", "state", "row"] ["value", "many"] (defScope s_check_states) := ⟨rfl, rfl, rfl, by decide +kernel, rfl, by decide +kernel, by decide +kernel⟩
def S_check_states : SF :=
  (sSeq (sIf (bOr (bNot (eT (eFn oIsi (eCons (eVar 0) (eCons (eC (.ty "tuple")) eNil))))) (eB (eOp oNe (eFn oLenN (eCons (eVar 0) eNil)) (eC (.int 2))))) sBad sNil)
    (sSeq (sAsg (.tp [(.nm 2), (.nm 3)]) (eVar 0))
    (sSeq (sIf (bOr (bNot (eT (eFn oIsi (eCons (eVar 2) (eCons (eC (.ty "tuple")) eNil))))) (bNot (eB (eChain oLe oLe (eC (.int 1)) (eFn oLenN (eCons (eVar 2) eNil)) (eC (.int 3000)))))) sBad sNil)
    (sSeq (sIf (bOr (bNot (eT (eFn oIsi (eCons (eVar 3) (eCons (eC (.ty "tuple")) eNil))))) (eB (eOp oNe (eFn oLenN (eCons (eVar 3) eNil)) (eFn oLenN (eCons (eVar 2) eNil))))) sBad sNil)
    (sSeq (sFor (iEnumA (eCons (eVar 2) eNil)) (.tp [(.nm 4), (.nm 5)]) (sSeq (sIf (bOr (bNot (eT (eCall 3 F_are_numbers (eCons (eVar 5) (eCons (eVar 1) (eCons (eOp oSub (eFn oLenN (eCons (eVar 2) eNil)) (eC (.int 1))) eNil)))))) (bNot (eT (eCall 3 F_is_number (eCons (eOp oIx (eVar 3) (eVar 4)) (eCons (eC (.int 0)) (eCons (eC (.int 3)) eNil))))))) sBad sNil)
    sNil))
    sNil)))))
def F_check_states : On' := defA 6 S_check_states
set_option maxHeartbeats 16000000 in
theorem ok_check_states {fa : Addr} {fd : FuncData} (T : Txt w K mg) (G_are_numbers : FnX P w K mg Tb base "are_numbers" 2 3 F_are_numbers) (G_is_number : FnX P w K mg Tb base "is_number" 1 3 F_is_number) (F : Fun K "check_states" "check_states" s_check_states fa fd) (hm : mg "check_states" = some (.ref fa)) : FnX P w K mg Tb base "check_states" 3 2 F_check_states := by
  refine ⟨fa, fd, ["value", "many"], fn_A (k := 2) F sc_check_states (fun cdv A outer s₀ H E hr => ?_), hm, F.kp, F.binds (ps := ["value", "many"]) fun _ _ _ _ _ _ us hl => match us, hl with | [_, _], _ => rfl⟩
  unfold S_check_states
  exact (ass_cons (as_if (AW.at (aw_or (at_not (at_val (ae_B cr_isi T.b_isinstance (aa_cons (ae_v 0) (aa_cons (ae_type T.b_tuple) aa_nil))))) (aw_or1 (at_cmp (op_neA (hu64 hr)) (ae_B cr_lenN T.b_len (aa_cons (ae_v 0) aa_nil)) ae_int)))) ass_never ass_nil)
    (ass_cons (as_asg (ae_v 0) (ag_tp rfl (ags_cons (ag_nm 2 sc_check_states.nd) (ags_cons (ag_nm 3 sc_check_states.nd) ags_nil))))
    (ass_cons (as_if (AW.at (aw_or (at_not (at_val (ae_B cr_isi T.b_isinstance (aa_cons (ae_v 2) (aa_cons (ae_type T.b_tuple) aa_nil))))) (aw_or1 (at_not (at_chain (op_leA) (op_leA) ae_int (ae_B cr_lenN T.b_len (aa_cons (ae_v 2) aa_nil)) (ae_glob T.c_MOST_MEMORIES.choose_spec (fun _ _ => .int 3000) ⟨_, rfl⟩)))))) ass_never ass_nil)
    (ass_cons (as_if (AW.at (aw_or (at_not (at_val (ae_B cr_isi T.b_isinstance (aa_cons (ae_v 3) (aa_cons (ae_type T.b_tuple) aa_nil))))) (aw_or1 (at_cmp (op_neA (hu64 hr)) (ae_B cr_lenN T.b_len (aa_cons (ae_v 3) aa_nil)) (ae_B cr_lenN T.b_len (aa_cons (ae_v 2) aa_nil)))))) ass_never ass_nil)
    (ass_cons (as_for (passes_of rfl) rfl (ai_enum T.b_enumerate (aa_cons (ae_v 2) aa_nil)) (ag_tp rfl (ags_cons (ag_nm 4 sc_check_states.nd) (ags_cons (ag_nm 5 sc_check_states.nd) ags_nil))) (ass_cons (as_if (AW.at (aw_or (at_not (at_val (ae_callX G_are_numbers (hr.mono (by first | decide | omega)) (takes_of rfl rfl rfl rfl) (aa_cons (ae_v 5) (aa_cons (ae_v 1) (aa_cons (ae_op op_subA (ae_B cr_lenN T.b_len (aa_cons (ae_v 2) aa_nil)) ae_int) aa_nil)))))) (aw_or1 (at_not (at_val (ae_callX G_is_number (hr.mono (by first | decide | omega)) (takes_of rfl rfl rfl rfl) (aa_cons (ae_ix (ae_v 3) (ae_v 4)) (aa_cons ae_int (aa_cons (ae_glob T.c_MOST_ANSWER.choose_spec (fun _ _ => .int 3) ⟨_, rfl⟩) aa_nil))))))))) ass_never ass_nil)
    ass_nil))
    ass_nil)))))
abbrev s_check_letters : Stmt := topS 21
theorem sc_check_letters : FnScope ["letters"] ["letters"] (defScope s_check_letters) := ⟨rfl, rfl, rfl, by decide +kernel, rfl, by decide +kernel, by decide +kernel⟩
def S_check_letters : SF :=
  (sSeq (sIf (bNot (eT (eCall 3 F_is_number (eCons (eVar 0) (eCons (eC (.int 1)) (eCons (eC (.int 3)) eNil)))))) sBad sNil)
    sNil)
def F_check_letters : On' := defA 1 S_check_letters
set_option maxHeartbeats 16000000 in
theorem ok_check_letters {fa : Addr} {fd : FuncData} (T : Txt w K mg) (G_is_number : FnX P w K mg Tb base "is_number" 1 3 F_is_number) (F : Fun K "check_letters" "check_letters" s_check_letters fa fd) (hm : mg "check_letters" = some (.ref fa)) : FnX P w K mg Tb base "check_letters" 2 1 F_check_letters := by
  refine ⟨fa, fd, ["letters"], fn_A (k := 1) F sc_check_letters (fun cdv A outer s₀ H E hr => ?_), hm, F.kp, F.binds (ps := ["letters"]) fun _ _ _ _ _ _ us hl => match us, hl with | [_], _ => rfl⟩
  unfold S_check_letters
  exact (ass_cons (as_if (at_not (at_val (ae_callX G_is_number (hr.mono (by first | decide | omega)) (takes_of rfl rfl rfl rfl) (aa_cons (ae_v 0) (aa_cons ae_int (aa_cons (ae_glob T.c_MOST_LETTERS.choose_spec (fun _ _ => .int 3) ⟨_, rfl⟩) aa_nil)))))) ass_never ass_nil)
    ass_nil)
abbrev s_messages_with : Stmt := topS 59
theorem sc_messages_with : FnScope ["world", "letters", "word", "row", "letter"] ["world", "letters", "word"] (defScope s_messages_with) := ⟨rfl, rfl, rfl, by decide +kernel, rfl, by decide +kernel, by decide +kernel⟩
def S_messages_with : SF :=
  (sSeq (sIf (eB (eOp oNe (eVar 2) (eC (.str (Str.ofString "turn"))))) (sSeq (sRet (eLc (iRng1 (eCons (eVar 1) eNil)) (.nm 4) bYes (eTup (eCons (eVar 2) (eCons (eVar 4) eNil))) [4]))
    sNil) sNil)
    (sSeq (sIf (eB (eOp oEq (eVar 0) (eC (.str (Str.ofString "reverse"))))) (sSeq (sRet (eLst (eCons (eTup (eCons (eC (.str (Str.ofString "turn"))) eNil)) eNil)))
    sNil) sNil)
    (sSeq (sRet (eLc (iPerm (g1 (eVar 1))) (.nm 3) bYes (eTup (eCons (eC (.str (Str.ofString "turn"))) (eCons (eVar 3) eNil))) [3]))
    sNil)))
def F_messages_with : On' := defA 5 S_messages_with
set_option maxHeartbeats 16000000 in
theorem ok_messages_with {fa : Addr} {fd : FuncData} (T : Txt w K mg)  (F : Fun K "messages_with" "messages_with" s_messages_with fa fd) (hm : mg "messages_with" = some (.ref fa)) : FnX P w K mg Tb base "messages_with" 1 3 F_messages_with := by
  refine ⟨fa, fd, ["world", "letters", "word"], fn_A (k := 0) F sc_messages_with (fun cdv A outer s₀ H E hr => ?_), hm, F.kp, F.binds (ps := ["world", "letters", "word"]) fun _ _ _ _ _ _ us hl => match us, hl with | [_, _, _], _ => rfl⟩
  unfold S_messages_with
  exact (ass_cons (as_if (at_cmp (op_neA (hu64 hr)) (ae_v 2) ae_str) (ass_cons (as_ret (ae_lc [("letter", 4)] rfl sc_messages_with.nd (blkOk_by rfl) (by decide) (ai_rng1 T.b_range (aa_cons (ae_v 1) aa_nil)) (fun _ _ _ _ _ => (ag_nm 4 sc_messages_with.nd)) (fun _ _ _ _ _ => ats_nil) (fun _ _ _ _ _ => (ae_tup (aa_cons (ae_v 2) (aa_cons (ae_v 4) aa_nil))))))
    ass_nil) ass_nil)
    (ass_cons (as_if (at_cmp (op_eqA (hu64 hr)) (ae_v 0) ae_str) (ass_cons (as_ret (ae_lst (aa_cons (ae_tup (aa_cons ae_str aa_nil)) aa_nil)))
    ass_nil) ass_nil)
    (ass_cons (as_ret (ae_lc [("row", 3)] rfl sc_messages_with.nd (blkOk_by rfl) (by decide) (ai_perm rfl T.p_permutations (ar_1 T.b_range (ae_v 1))) (fun _ _ _ _ _ => (ag_nm 3 sc_messages_with.nd)) (fun _ _ _ _ _ => ats_nil) (fun _ _ _ _ _ => (ae_tup (aa_cons ae_str (aa_cons (ae_v 3) aa_nil))))))
    ass_nil)))
abbrev s_messages : Stmt := topS 54
theorem sc_messages : FnScope ["world", "letters", "found", "word"] ["world", "letters"] (defScope s_messages) := ⟨rfl, rfl, rfl, by decide +kernel, rfl, by decide +kernel, by decide +kernel⟩
def S_messages : SF :=
  (sSeq (sExpr (eCall 1 F_check_world (eCons (eVar 0) eNil)))
    (sSeq (sExpr (eCall 1 F_check_letters (eCons (eVar 1) eNil)))
    (sSeq (sAsg (.nm 2) (eLst eNil))
    (sSeq (sFor (iK (kIx tb_WORDS (eVar 0))) (.nm 3) (sSeq (sExpr (eMeth oExtend (eVar 2) (eCons (eCall 3 F_messages_with (eCons (eVar 0) (eCons (eVar 1) (eCons (eVar 3) eNil)))) eNil)))
    sNil))
    (sSeq (sRet (eFn oTupleF (eCons (eFn oSortM (eCons (eVar 2) eNil)) eNil)))
    sNil)))))
def F_messages : On' := defA 4 S_messages
set_option maxHeartbeats 16000000 in
theorem ok_messages {fa : Addr} {fd : FuncData} (T : Txt w K mg) (G_check_world : FnX P w K mg Tb base "check_world" 1 1 F_check_world) (G_check_letters : FnX P w K mg Tb base "check_letters" 2 1 F_check_letters) (G_messages_with : FnX P w K mg Tb base "messages_with" 1 3 F_messages_with) (F : Fun K "messages" "messages" s_messages fa fd) (hm : mg "messages" = some (.ref fa)) : FnX P w K mg Tb base "messages" 3 2 F_messages := by
  refine ⟨fa, fd, ["world", "letters"], fn_A (k := 2) F sc_messages (fun cdv A outer s₀ H E hr => ?_), hm, F.kp, F.binds (ps := ["world", "letters"]) fun _ _ _ _ _ _ us hl => match us, hl with | [_, _], _ => rfl⟩
  unfold S_messages
  exact (ass_cons (as_expr (ae_callX G_check_world (hr.mono (by first | decide | omega)) (takes_of rfl rfl rfl rfl) (aa_cons (ae_v 0) aa_nil)))
    (ass_cons (as_expr (ae_callX G_check_letters (hr.mono (by first | decide | omega)) (takes_of rfl rfl rfl rfl) (aa_cons (ae_v 1) aa_nil)))
    (ass_cons (as_set 2 sc_messages.nd (ae_lst aa_nil))
    (ass_cons (as_for (passes_of rfl) rfl (ai_K (ak_ix T.g_WORDS.choose_spec.1 T.g_WORDS.choose_spec.2 (ae_v 0))) (ag_nm 3 sc_messages.nd) (ass_cons (as_expr (ae_extend (ae_v 2) (aa_cons (ae_callX G_messages_with (hr.mono (by first | decide | omega)) (takes_of rfl rfl rfl rfl) (aa_cons (ae_v 0) (aa_cons (ae_v 1) (aa_cons (ae_v 3) aa_nil)))) aa_nil)))
    ass_nil))
    (ass_cons (as_ret (ae_Ty cr_tupleF T.b_tuple (aa_cons (ae_B (cr_sortM (hu64 hr)) T.b_sorted (aa_cons (ae_v 2) aa_nil)) aa_nil)))
    ass_nil)))))
abbrev s_check_keeper : Stmt := topS 81
theorem sc_check_keeper : FnScope ["world", "letters", "value"] ["world", "letters", "value"] (defScope s_check_keeper) := ⟨rfl, rfl, rfl, by decide +kernel, rfl, by decide +kernel, by decide +kernel⟩
def S_check_keeper : SF :=
  (sSeq (sExpr (eCall 2 F_check_states (eCons (eVar 2) (eCons (eFn oLenF (eCons (eCall 2 F_messages (eCons (eVar 0) (eCons (eVar 1) eNil))) eNil)) eNil))))
    sNil)
def F_check_keeper : On' := defA 3 S_check_keeper
set_option maxHeartbeats 16000000 in
theorem ok_check_keeper {fa : Addr} {fd : FuncData} (T : Txt w K mg) (G_check_states : FnX P w K mg Tb base "check_states" 3 2 F_check_states) (G_messages : FnX P w K mg Tb base "messages" 3 2 F_messages) (F : Fun K "check_keeper" "check_keeper" s_check_keeper fa fd) (hm : mg "check_keeper" = some (.ref fa)) : FnX P w K mg Tb base "check_keeper" 4 3 F_check_keeper := by
  refine ⟨fa, fd, ["world", "letters", "value"], fn_A (k := 3) F sc_check_keeper (fun cdv A outer s₀ H E hr => ?_), hm, F.kp, F.binds (ps := ["world", "letters", "value"]) fun _ _ _ _ _ _ us hl => match us, hl with | [_, _, _], _ => rfl⟩
  unfold S_check_keeper
  exact (ass_cons (as_expr (ae_callX G_check_states (hr.mono (by first | decide | omega)) (takes_of rfl rfl rfl rfl) (aa_cons (ae_v 2) (aa_cons (ae_B cr_lenF T.b_len (aa_cons (ae_callX G_messages (hr.mono (by first | decide | omega)) (takes_of rfl rfl rfl rfl) (aa_cons (ae_v 0) (aa_cons (ae_v 1) aa_nil))) aa_nil)) aa_nil))))
    ass_nil)
abbrev s_check_told : Stmt := topS 96
theorem sc_check_told : FnScope ["world", "question", "keeper"] ["world", "question", "keeper"] (defScope s_check_told) := ⟨rfl, rfl, rfl, by decide +kernel, rfl, by decide +kernel, by decide +kernel⟩
def S_check_told : SF :=
  (sSeq (sExpr (eCall 1 F_check_world (eCons (eVar 0) eNil)))
    (sSeq (sExpr (eCall 1 F_check_question (eCons (eVar 1) eNil)))
    (sSeq (sExpr (eCall 3 F_check_keeper (eCons (eVar 0) (eCons (eOp oIx (eVar 1) (eC (.int 0))) (eCons (eVar 2) eNil)))))
    sNil)))
def F_check_told : On' := defA 3 S_check_told
set_option maxHeartbeats 16000000 in
theorem ok_check_told {fa : Addr} {fd : FuncData} (T : Txt w K mg) (G_check_world : FnX P w K mg Tb base "check_world" 1 1 F_check_world) (G_check_question : FnX P w K mg Tb base "check_question" 4 1 F_check_question) (G_check_keeper : FnX P w K mg Tb base "check_keeper" 4 3 F_check_keeper) (F : Fun K "check_told" "check_told" s_check_told fa fd) (hm : mg "check_told" = some (.ref fa)) : FnX P w K mg Tb base "check_told" 5 3 F_check_told := by
  refine ⟨fa, fd, ["world", "question", "keeper"], fn_A (k := 4) F sc_check_told (fun cdv A outer s₀ H E hr => ?_), hm, F.kp, F.binds (ps := ["world", "question", "keeper"]) fun _ _ _ _ _ _ us hl => match us, hl with | [_, _, _], _ => rfl⟩
  unfold S_check_told
  exact (ass_cons (as_expr (ae_callX G_check_world (hr.mono (by first | decide | omega)) (takes_of rfl rfl rfl rfl) (aa_cons (ae_v 0) aa_nil)))
    (ass_cons (as_expr (ae_callX G_check_question (hr.mono (by first | decide | omega)) (takes_of rfl rfl rfl rfl) (aa_cons (ae_v 1) aa_nil)))
    (ass_cons (as_expr (ae_callX G_check_keeper (hr.mono (by first | decide | omega)) (takes_of rfl rfl rfl rfl) (aa_cons (ae_v 0) (aa_cons (ae_ix (ae_v 1) ae_int) (aa_cons (ae_v 2) aa_nil)))))
    ass_nil)))
abbrev s_puts_alone : Stmt := topS 100
theorem sc_puts_alone : FnScope ["letters", "keeper", "every", "places", "letter", "row", "place"] ["letters", "keeper", "every"] (defScope s_puts_alone) := ⟨rfl, rfl, rfl, by decide +kernel, rfl, by decide +kernel, by decide +kernel⟩
def S_puts_alone : SF :=
  (sSeq (sAsg (.nm 3) (eLc (iRng1 (eCons (eVar 0) eNil)) (.nm 4) bYes (eMethF oIndexF (eVar 2) (eCons (eTup (eCons (eC (.str (Str.ofString "put"))) (eCons (eVar 4) eNil))) eNil)) [4]))
    (sSeq (sRet (eTup (eCons (eVar 0) (eCons (eFn oTuple (eCons (eLc (iSeq (eOp oIx (eVar 1) (eC (.int 0)))) (.nm 5) bYes (eFn oTuple (eCons (eLc (iSeq (eVar 3)) (.nm 6) bYes (eOp oIx (eVar 5) (eVar 6)) [6]) eNil)) [5]) eNil)) (eCons (eOp oIx (eVar 1) (eC (.int 1))) eNil)))))
    sNil))
def F_puts_alone : On' := defA 7 S_puts_alone
set_option maxHeartbeats 16000000 in
theorem ok_puts_alone {fa : Addr} {fd : FuncData} (T : Txt w K mg)  (F : Fun K "puts_alone" "puts_alone" s_puts_alone fa fd) (hm : mg "puts_alone" = some (.ref fa)) : FnX P w K mg Tb base "puts_alone" 1 3 F_puts_alone := by
  refine ⟨fa, fd, ["letters", "keeper", "every"], fn_A (k := 0) F sc_puts_alone (fun cdv A outer s₀ H E hr => ?_), hm, F.kp, F.binds (ps := ["letters", "keeper", "every"]) fun _ _ _ _ _ _ us hl => match us, hl with | [_, _, _], _ => rfl⟩
  unfold S_puts_alone
  exact (ass_cons (as_set 3 sc_puts_alone.nd (ae_lc [("letter", 4)] rfl sc_puts_alone.nd (blkOk_by rfl) (by decide) (ai_rng1 T.b_range (aa_cons (ae_v 0) aa_nil)) (fun _ _ _ _ _ => (ag_nm 4 sc_puts_alone.nd)) (fun _ _ _ _ _ => ats_nil) (fun _ _ _ _ _ => (ae_indexF (hu65 hr) (ae_v 2) (aa_cons (ae_tup (aa_cons ae_str (aa_cons (ae_v 4) aa_nil))) aa_nil)))))
    (ass_cons (as_ret (ae_tup (aa_cons (ae_v 0) (aa_cons (ae_Ty cr_tuple T.b_tuple (aa_cons (ae_lc [("row", 5)] rfl sc_puts_alone.nd (blkOk_by rfl) (by decide) (ai_seq (ae_ix (ae_v 1) ae_int)) (fun _ _ _ _ _ => (ag_nm 5 sc_puts_alone.nd)) (fun _ _ _ _ _ => ats_nil) (fun _ _ _ _ _ => (ae_Ty cr_tuple T.b_tuple (aa_cons (ae_lc [("place", 6)] rfl sc_puts_alone.nd (blkOk_by rfl) (by decide) (ai_seq (ae_v 3)) (fun _ _ _ _ _ => (ag_nm 6 sc_puts_alone.nd)) (fun _ _ _ _ _ => ats_nil) (fun _ _ _ _ _ => (ae_ix (ae_v 5) (ae_v 6)))) aa_nil)))) aa_nil)) (aa_cons (ae_ix (ae_v 1) ae_int) aa_nil)))))
    ass_nil))
abbrev s_text_back : Stmt := topS 44
theorem sc_text_back : FnScope ["came", "place", "text", "letter"] ["came", "place"] (defScope s_text_back) := ⟨rfl, rfl, rfl, by decide +kernel, rfl, by decide +kernel, by decide +kernel⟩
def S_text_back : SF :=
  (sSeq (sAsg (.nm 2) (eLst eNil))
    (sSeq (fun τ M => whileA (eB (eOp oIsNot (eOp oDget (eVar 0) (eVar 1)) (eC .non))) (sSeq (sAsg (.tp [(.nm 1), (.nm 3)]) (eOp oDget (eVar 0) (eVar 1)))
    (sSeq (sExpr (eMeth oAppend (eVar 2) (eCons (eVar 3) eNil)))
    sNil)) fuel τ M)
    (sSeq (sRet (eFn oTuple (eCons (eUn oRev (eVar 2)) eNil)))
    sNil)))
def F_text_back : On' := defA 4 S_text_back
set_option maxHeartbeats 16000000 in
theorem ok_text_back {fa : Addr} {fd : FuncData} (T : Txt w K mg)  (F : Fun K "text_back" "text_back" s_text_back fa fd) (hm : mg "text_back" = some (.ref fa)) : FnX P w K mg Tb base "text_back" 1 2 F_text_back := by
  refine ⟨fa, fd, ["came", "place"], fn_A (k := 0) F sc_text_back (fun cdv A outer s₀ H E hr => ?_), hm, F.kp, F.binds (ps := ["came", "place"]) fun _ _ _ _ _ _ us hl => match us, hl with | [_, _], _ => rfl⟩
  unfold S_text_back
  exact (ass_cons (as_set 2 sc_text_back.nd (ae_lst aa_nil))
    (ass_cons (as_while (fun _ _ => fuel) (passes_of rfl) (at_cmp (op_isNotA) (ae_dget (hu1 hr) (ae_v 0) (ae_v 1)) ae_non) (ass_cons (as_asg (ae_dget (hu1 hr) (ae_v 0) (ae_v 1)) (ag_tp rfl (ags_cons (ag_nm 1 sc_text_back.nd) (ags_cons (ag_nm 3 sc_text_back.nd) ags_nil))))
    (ass_cons (as_expr (ae_append (ae_v 2) (aa_cons (ae_v 3) aa_nil)))
    ass_nil)))
    (ass_cons (as_ret (ae_Ty cr_tuple T.b_tuple (aa_cons (ae_rev (ae_v 2)) aa_nil)))
    ass_nil)))
abbrev s_parting_of : Stmt := topS 43
theorem sc_parting_of : FnScope ["one", "other", "pairs", "came", "done", "letter", "first", "second", "reached"] ["one", "other"] (defScope s_parting_of) := ⟨rfl, rfl, rfl, by decide +kernel, rfl, by decide +kernel, by decide +kernel⟩
def S_parting_of : SF :=
  (sSeq (sAsg (.nm 2) (eLst (eCons (eTup (eCons (eC (.int 0)) (eCons (eC (.int 0)) eNil))) eNil)))
    (sSeq (sAsg (.nm 3) (eDispT (eTup (eCons (eC (.int 0)) (eCons (eC (.int 0)) eNil))) (eC .non)))
    (sSeq (sAsg (.nm 4) (eC (.int 0)))
    (sSeq (fun τ M => whileA (eB (eOp oLt (eVar 4) (eFn oLenN (eCons (eVar 2) eNil)))) (sSeq (sAsg (.tp [(.nm 6), (.nm 7)]) (eOp oIx (eVar 2) (eVar 4)))
    (sSeq (sIf (eB (eOp oNe (eOp oIx (eOp oIx (eVar 0) (eC (.int 2))) (eVar 6)) (eOp oIx (eOp oIx (eVar 1) (eC (.int 2))) (eVar 7)))) (sSeq (sRet (eCall 2 F_text_back (eCons (eVar 3) (eCons (eOp oIx (eVar 2) (eVar 4)) eNil))))
    sNil) sNil)
    (sSeq (sFor (iRng1 (eCons (eOp oIx (eVar 0) (eC (.int 0))) eNil)) (.nm 5) (sSeq (sAsg (.nm 8) (eTup (eCons (eOp oIx (eOp oIx (eOp oIx (eVar 0) (eC (.int 1))) (eVar 6)) (eVar 5)) (eCons (eOp oIx (eOp oIx (eOp oIx (eVar 1) (eC (.int 1))) (eVar 7)) (eVar 5)) eNil))))
    (sSeq (sIf (eB (eOp oNotIn (eVar 8) (eVar 3))) (sSeq (sDput (eVar 3) (eVar 8) (eTup (eCons (eOp oIx (eVar 2) (eVar 4)) (eCons (eVar 5) eNil))))
    (sSeq (sExpr (eMeth oAppend (eVar 2) (eCons (eVar 8) eNil)))
    sNil)) sNil)
    sNil)))
    (sSeq (sAug 4 (fun i j => i + j) (eC (.int 1)))
    sNil)))) fuel τ M)
    (sSeq (sRet (eC .non))
    sNil)))))
def F_parting_of : On' := defA 9 S_parting_of
set_option maxHeartbeats 16000000 in
theorem ok_parting_of {fa : Addr} {fd : FuncData} (T : Txt w K mg) (G_text_back : FnX P w K mg Tb base "text_back" 1 2 F_text_back) (F : Fun K "parting_of" "parting_of" s_parting_of fa fd) (hm : mg "parting_of" = some (.ref fa)) : FnX P w K mg Tb base "parting_of" 2 2 F_parting_of := by
  refine ⟨fa, fd, ["one", "other"], fn_A (k := 1) F sc_parting_of (fun cdv A outer s₀ H E hr => ?_), hm, F.kp, F.binds (ps := ["one", "other"]) fun _ _ _ _ _ _ us hl => match us, hl with | [_, _], _ => rfl⟩
  unfold S_parting_of
  exact (ass_cons (as_set 2 sc_parting_of.nd (ae_lst (aa_cons (ae_tup (aa_cons ae_int (aa_cons ae_int aa_nil))) aa_nil)))
    (ass_cons (as_set 3 sc_parting_of.nd (ae_dispT (hu1 hr) (ae_tup (aa_cons ae_int (aa_cons ae_int aa_nil))) ae_non))
    (ass_cons (as_set 4 sc_parting_of.nd ae_int)
    (ass_cons (as_while (fun _ _ => fuel) (passes_of rfl) (at_cmp (op_ltA) (ae_v 4) (ae_B cr_lenN T.b_len (aa_cons (ae_v 2) aa_nil))) (ass_cons (as_asg (ae_ix (ae_v 2) (ae_v 4)) (ag_tp rfl (ags_cons (ag_nm 6 sc_parting_of.nd) (ags_cons (ag_nm 7 sc_parting_of.nd) ags_nil))))
    (ass_cons (as_if (at_cmp (op_neA (hu64 hr)) (ae_ix (ae_ix (ae_v 0) ae_int) (ae_v 6)) (ae_ix (ae_ix (ae_v 1) ae_int) (ae_v 7))) (ass_cons (as_ret (ae_callX G_text_back (hr.mono (by first | decide | omega)) (takes_of rfl rfl rfl rfl) (aa_cons (ae_v 3) (aa_cons (ae_ix (ae_v 2) (ae_v 4)) aa_nil))))
    ass_nil) ass_nil)
    (ass_cons (as_for (passes_of rfl) rfl (ai_rng1 T.b_range (aa_cons (ae_ix (ae_v 0) ae_int) aa_nil)) (ag_nm 5 sc_parting_of.nd) (ass_cons (as_set 8 sc_parting_of.nd (ae_tup (aa_cons (ae_ix (ae_ix (ae_ix (ae_v 0) ae_int) (ae_v 6)) (ae_v 5)) (aa_cons (ae_ix (ae_ix (ae_ix (ae_v 1) ae_int) (ae_v 7)) (ae_v 5)) aa_nil))))
    (ass_cons (as_if (at_cmp (op_notInA (hu65 hr)) (ae_v 8) (ae_v 3)) (ass_cons (as_dput (hu1 hr) (ae_v 3) (ae_v 8) (ae_tup (aa_cons (ae_ix (ae_v 2) (ae_v 4)) (aa_cons (ae_v 5) aa_nil))))
    (ass_cons (as_expr (ae_append (ae_v 2) (aa_cons (ae_v 8) aa_nil)))
    ass_nil)) ass_nil)
    ass_nil)))
    (ass_cons (as_aug 4 sc_parting_of.nd ip_add ae_int)
    ass_nil)))))
    (ass_cons (as_ret ae_non)
    ass_nil)))))
abbrev s_edits_at_end : Stmt := topS 105
theorem sc_edits_at_end : FnScope ["world", "row", "found", "length", "word", "letter"] ["world", "row"] (defScope s_edits_at_end) := ⟨rfl, rfl, rfl, by decide +kernel, rfl, by decide +kernel, by decide +kernel⟩
def S_edits_at_end : SF :=
  (sSeq (sIf (eB (eInK true (eVar 0) (kC tt_PLACED))) (sSeq (sRet (eVar 1))
    sNil) sNil)
    (sSeq (sAsg (.nm 2) (eLst eNil))
    (sSeq (sAsg (.nm 3) (eC (.int 0)))
    (sSeq (sFor (iSeq (eVar 1)) (.tp [(.nm 4), (.nm 5)]) (sSeq (sIf (eB (eOp oEq (eVar 4) (eC (.str (Str.ofString "put"))))) (sSeq (sExpr (eMeth oAppend (eVar 2) (eCons (eTup (eCons (eVar 4) (eCons (eVar 5) (eCons (eVar 3) eNil)))) eNil)))
    (sSeq (sAug 3 (fun i j => i + j) (eC (.int 1)))
    sNil)) (sSeq (sAug 3 (fun i j => i - j) (eC (.int 1)))
    (sSeq (sExpr (eMeth oAppend (eVar 2) (eCons (eTup (eCons (eVar 4) (eCons (eVar 5) (eCons (eVar 3) eNil)))) eNil)))
    sNil)))
    sNil))
    (sSeq (sRet (eFn oTuple (eCons (eVar 2) eNil)))
    sNil)))))
def F_edits_at_end : On' := defA 6 S_edits_at_end
set_option maxHeartbeats 16000000 in
theorem ok_edits_at_end {fa : Addr} {fd : FuncData} (T : Txt w K mg)  (F : Fun K "edits_at_end" "edits_at_end" s_edits_at_end fa fd) (hm : mg "edits_at_end" = some (.ref fa)) : FnX P w K mg Tb base "edits_at_end" 1 2 F_edits_at_end := by
  refine ⟨fa, fd, ["world", "row"], fn_A (k := 0) F sc_edits_at_end (fun cdv A outer s₀ H E hr => ?_), hm, F.kp, F.binds (ps := ["world", "row"]) fun _ _ _ _ _ _ us hl => match us, hl with | [_, _], _ => rfl⟩
  unfold S_edits_at_end
  exact (ass_cons (as_if (at_ninK (ae_v 0) (ak_nm T.g_PLACED.choose_spec.1 T.g_PLACED.choose_spec.2)) (ass_cons (as_ret (ae_v 1))
    ass_nil) ass_nil)
    (ass_cons (as_set 2 sc_edits_at_end.nd (ae_lst aa_nil))
    (ass_cons (as_set 3 sc_edits_at_end.nd ae_int)
    (ass_cons (as_for (passes_of rfl) rfl (ai_seq (ae_v 1)) (ag_tp rfl (ags_cons (ag_nm 4 sc_edits_at_end.nd) (ags_cons (ag_nm 5 sc_edits_at_end.nd) ags_nil))) (ass_cons (as_if (at_cmp (op_eqA (hu64 hr)) (ae_v 4) ae_str) (ass_cons (as_expr (ae_append (ae_v 2) (aa_cons (ae_tup (aa_cons (ae_v 4) (aa_cons (ae_v 5) (aa_cons (ae_v 3) aa_nil)))) aa_nil)))
    (ass_cons (as_aug 3 sc_edits_at_end.nd ip_add ae_int)
    ass_nil)) (ass_cons (as_aug 3 sc_edits_at_end.nd ip_sub ae_int)
    (ass_cons (as_expr (ae_append (ae_v 2) (aa_cons (ae_tup (aa_cons (ae_v 4) (aa_cons (ae_v 5) (aa_cons (ae_v 3) aa_nil)))) aa_nil)))
    ass_nil)))
    ass_nil))
    (ass_cons (as_ret (ae_Ty cr_tuple T.b_tuple (aa_cons (ae_v 2) aa_nil)))
    ass_nil)))))
abbrev s_texts_longer : Stmt := topS 91
theorem sc_texts_longer : FnScope ["small", "texts", "found", "state", "letter", "reached"] ["small", "texts"] (defScope s_texts_longer) := ⟨rfl, rfl, rfl, by decide +kernel, rfl, by decide +kernel, by decide +kernel⟩
def S_texts_longer : SF :=
  (sSeq (sAsg (.nm 2) eNewK)
    (sSeq (sForD 1 (.nm 3) (sSeq (sFor (iEnumA (eCons (eOp oIx (eOp oIx (eVar 0) (eC (.int 1))) (eVar 3)) eNil)) (.tp [(.nm 4), (.nm 5)]) (sSeq (sExpr (eSetdK (eVar 2) (eVar 5) (eOp oAdd (eOp oDget (eVar 1) (eVar 3)) (eTup (eCons (eVar 4) eNil)))))
    sNil))
    sNil))
    (sSeq (sRet (eVar 2))
    sNil)))
def F_texts_longer : On' := defA 6 S_texts_longer
set_option maxHeartbeats 16000000 in
theorem ok_texts_longer {fa : Addr} {fd : FuncData} (T : Txt w K mg)  (F : Fun K "texts_longer" "texts_longer" s_texts_longer fa fd) (hm : mg "texts_longer" = some (.ref fa)) : FnX P w K mg Tb base "texts_longer" 1 2 F_texts_longer := by
  refine ⟨fa, fd, ["small", "texts"], fn_A (k := 0) F sc_texts_longer (fun cdv A outer s₀ H E hr => ?_), hm, F.kp, F.binds (ps := ["small", "texts"]) fun _ _ _ _ _ _ us hl => match us, hl with | [_, _], _ => rfl⟩
  unfold S_texts_longer
  exact (ass_cons (as_set 2 sc_texts_longer.nd ae_newK)
    (ass_cons (as_forD (passes_of rfl) rfl (ae_v 1) (ag_nm 3 sc_texts_longer.nd) (ass_cons (as_for (passes_of rfl) rfl (ai_enum T.b_enumerate (aa_cons (ae_ix (ae_ix (ae_v 0) ae_int) (ae_v 3)) aa_nil)) (ag_tp rfl (ags_cons (ag_nm 4 sc_texts_longer.nd) (ags_cons (ag_nm 5 sc_texts_longer.nd) ags_nil))) (ass_cons (as_expr (ae_setdK (ae_v 2) (ae_v 5) (ae_op op_addA (ae_dget (hu1 hr) (ae_v 1) (ae_v 3)) (ae_tup (aa_cons (ae_v 4) aa_nil)))))
    ass_nil))
    ass_nil))
    (ass_cons (as_ret (ae_v 2))
    ass_nil)))
abbrev s_long_texts : Stmt := topS 90
theorem sc_long_texts : FnScope ["small", "least_many", "found", "_", "states", "done", "longer", "reached"] ["small", "least_many"] (defScope s_long_texts) := ⟨rfl, rfl, rfl, by decide +kernel, rfl, by decide +kernel, by decide +kernel⟩
def S_long_texts : SF :=
  (sSeq (sAsg (.nm 2) (eDisp1 (eC (.int 0)) (eTup eNil)))
    (sSeq (sFor (iRng1 (eCons (eVar 1) eNil)) (.nm 3) (sSeq (sAsg (.nm 2) (eCall 2 F_texts_longer (eCons (eVar 0) (eCons (eVar 2) eNil))))
    sNil))
    (sSeq (sAsg (.nm 4) (eFn oListD (eCons (eVar 2) eNil)))
    (sSeq (sAsg (.nm 5) (eC (.int 0)))
    (sSeq (fun τ M => whileA (eB (eOp oLt (eVar 5) (eFn oLenN (eCons (eVar 4) eNil)))) (sSeq (sAsg (.nm 6) (eCall 2 F_texts_longer (eCons (eVar 0) (eCons (eDisp1 (eOp oIx (eVar 4) (eVar 5)) (eOp oDget (eVar 2) (eOp oIx (eVar 4) (eVar 5)))) eNil))))
    (sSeq (sForD 6 (.nm 7) (sSeq (sIf (eB (eOp oNotIn (eVar 7) (eVar 2))) (sSeq (sDput (eVar 2) (eVar 7) (eOp oDget (eVar 6) (eVar 7)))
    (sSeq (sExpr (eMeth oAppend (eVar 4) (eCons (eVar 7) eNil)))
    sNil)) sNil)
    sNil))
    (sSeq (sAug 5 (fun i j => i + j) (eC (.int 1)))
    sNil))) fuel τ M)
    (sSeq (sRet (eVar 2))
    sNil))))))
def F_long_texts : On' := defA 8 S_long_texts
set_option maxHeartbeats 16000000 in
theorem ok_long_texts {fa : Addr} {fd : FuncData} (T : Txt w K mg) (G_texts_longer : FnX P w K mg Tb base "texts_longer" 1 2 F_texts_longer) (F : Fun K "long_texts" "long_texts" s_long_texts fa fd) (hm : mg "long_texts" = some (.ref fa)) : FnX P w K mg Tb base "long_texts" 2 2 F_long_texts := by
  refine ⟨fa, fd, ["small", "least_many"], fn_A (k := 1) F sc_long_texts (fun cdv A outer s₀ H E hr => ?_), hm, F.kp, F.binds (ps := ["small", "least_many"]) fun _ _ _ _ _ _ us hl => match us, hl with | [_, _], _ => rfl⟩
  unfold S_long_texts
  exact (ass_cons (as_set 2 sc_long_texts.nd (ae_disp1 ae_int (ae_tup aa_nil)))
    (ass_cons (as_for (passes_of rfl) rfl (ai_rng1 T.b_range (aa_cons (ae_v 1) aa_nil)) (ag_nm 3 sc_long_texts.nd) (ass_cons (as_set 2 sc_long_texts.nd (ae_callX G_texts_longer (hr.mono (by first | decide | omega)) (takes_of rfl rfl rfl rfl) (aa_cons (ae_v 0) (aa_cons (ae_v 2) aa_nil))))
    ass_nil))
    (ass_cons (as_set 4 sc_long_texts.nd (ae_Ty (cr_listD rfl) T.b_list (aa_cons (ae_v 2) aa_nil)))
    (ass_cons (as_set 5 sc_long_texts.nd ae_int)
    (ass_cons (as_while (fun _ _ => fuel) (passes_of rfl) (at_cmp (op_ltA) (ae_v 5) (ae_B cr_lenN T.b_len (aa_cons (ae_v 4) aa_nil))) (ass_cons (as_set 6 sc_long_texts.nd (ae_callX G_texts_longer (hr.mono (by first | decide | omega)) (takes_of rfl rfl rfl rfl) (aa_cons (ae_v 0) (aa_cons (ae_disp1 (ae_ix (ae_v 4) (ae_v 5)) (ae_dget (hu1 hr) (ae_v 2) (ae_ix (ae_v 4) (ae_v 5)))) aa_nil))))
    (ass_cons (as_forD (passes_of rfl) rfl (ae_v 6) (ag_nm 7 sc_long_texts.nd) (ass_cons (as_if (at_cmp (op_notInA (hu65 hr)) (ae_v 7) (ae_v 2)) (ass_cons (as_dput (hu1 hr) (ae_v 2) (ae_v 7) (ae_dget (hu1 hr) (ae_v 6) (ae_v 7)))
    (ass_cons (as_expr (ae_append (ae_v 4) (aa_cons (ae_v 7) aa_nil)))
    ass_nil)) ass_nil)
    ass_nil))
    (ass_cons (as_aug 5 sc_long_texts.nd ip_add ae_int)
    ass_nil))))
    (ass_cons (as_ret (ae_v 2))
    ass_nil))))))
abbrev s_first_texts : Stmt := topS 89
theorem sc_first_texts : FnScope ["small"] ["small"] (defScope s_first_texts) := ⟨rfl, rfl, rfl, by decide +kernel, rfl, by decide +kernel, by decide +kernel⟩
def S_first_texts : SF :=
  (sSeq (sRet (eCall 2 F_long_texts (eCons (eVar 0) (eCons (eC (.int 0)) eNil))))
    sNil)
def F_first_texts : On' := defA 1 S_first_texts
set_option maxHeartbeats 16000000 in
theorem ok_first_texts {fa : Addr} {fd : FuncData} (T : Txt w K mg) (G_long_texts : FnX P w K mg Tb base "long_texts" 2 2 F_long_texts) (F : Fun K "first_texts" "first_texts" s_first_texts fa fd) (hm : mg "first_texts" = some (.ref fa)) : FnX P w K mg Tb base "first_texts" 3 1 F_first_texts := by
  refine ⟨fa, fd, ["small"], fn_A (k := 2) F sc_first_texts (fun cdv A outer s₀ H E hr => ?_), hm, F.kp, F.binds (ps := ["small"]) fun _ _ _ _ _ _ us hl => match us, hl with | [_], _ => rfl⟩
  unfold S_first_texts
  exact (ass_cons (as_ret (ae_callX G_long_texts (hr.mono (by first | decide | omega)) (takes_of rfl rfl rfl rfl) (aa_cons (ae_v 0) (aa_cons ae_int aa_nil))))
    ass_nil)
abbrev s_parting_texts : Stmt := topS 92
theorem sc_parting_texts : FnScope ["small", "states", "every", "found", "letters", "steps", "answers", "one", "other", "longer", "letter", "pair", "text", "reached"] ["small"] (defScope s_parting_texts) := ⟨rfl, rfl, rfl, by decide +kernel, rfl, by decide +kernel, by decide +kernel⟩
def S_parting_texts : SF :=
  (sSeq (sAsg (.tp [(.nm 4), (.nm 5), (.nm 6)]) (eVar 0))
    (sSeq (sAsg (.nm 1) (eFn oRange (eCons (eFn oLenN (eCons (eVar 5) eNil)) eNil)))
    (sSeq (sAsg (.nm 2) (eLc2 (iRngA (eVar 1)) (.nm 7) bYes (iRngA (eVar 1)) (.nm 8) (eB (eOp oNe (eVar 7) (eVar 8))) (eTup (eCons (eVar 7) (eCons (eVar 8) eNil))) [7, 8] [8]))
    (sSeq (sAsg (.nm 3) eNewT)
    (sSeq (sFor (iSeq (eVar 2)) (.tp [(.nm 7), (.nm 8)]) (sSeq (sIf (eB (eOp oNe (eOp oIx (eVar 6) (eVar 7)) (eOp oIx (eVar 6) (eVar 8)))) (sSeq (sDput (eVar 3) (eTup (eCons (eVar 7) (eCons (eVar 8) eNil))) (eTup eNil))
    sNil) sNil)
    sNil))
    (sSeq (fun τ M => whileA (eB (eOp oLt (eFn oLenN (eCons (eVar 3) eNil)) (eFn oLenN (eCons (eVar 2) eNil)))) (sSeq (sAsg (.nm 9) (eLst eNil))
    (sSeq (sFor (iSeq (eLc (iSeq (eVar 2)) (.nm 11) (eB (eOp oNotIn (eVar 11) (eVar 3))) (eVar 11) [11])) (.tp [(.nm 7), (.nm 8)]) (sSeq (sFor (iRng1 (eCons (eVar 4) eNil)) (.nm 10) (sSeq (sAsg (.nm 13) (eTup (eCons (eOp oIx (eOp oIx (eVar 5) (eVar 7)) (eVar 10)) (eCons (eOp oIx (eOp oIx (eVar 5) (eVar 8)) (eVar 10)) eNil))))
    (sSeq (sIf (eB (eOp oIn (eVar 13) (eVar 3))) (sSeq (sExpr (eMeth oAppend (eVar 9) (eCons (eTup (eCons (eTup (eCons (eVar 7) (eCons (eVar 8) eNil))) (eCons (eOp oAdd (eTup (eCons (eVar 10) eNil)) (eOp oDget (eVar 3) (eVar 13))) eNil))) eNil)))
    (sSeq sBreak
    sNil)) sNil)
    sNil)))
    sNil))
    (sSeq (sFor (iSeq (eVar 9)) (.tp [(.nm 11), (.nm 12)]) (sSeq (sDput (eVar 3) (eVar 11) (eVar 12))
    sNil))
    sNil))) fuel τ M)
    (sSeq (sRet (eVar 3))
    sNil)))))))
def F_parting_texts : On' := defA 14 S_parting_texts
set_option maxHeartbeats 16000000 in
theorem ok_parting_texts {fa : Addr} {fd : FuncData} (T : Txt w K mg)  (F : Fun K "parting_texts" "parting_texts" s_parting_texts fa fd) (hm : mg "parting_texts" = some (.ref fa)) : FnX P w K mg Tb base "parting_texts" 1 1 F_parting_texts := by
  refine ⟨fa, fd, ["small"], fn_A (k := 0) F sc_parting_texts (fun cdv A outer s₀ H E hr => ?_), hm, F.kp, F.binds (ps := ["small"]) fun _ _ _ _ _ _ us hl => match us, hl with | [_], _ => rfl⟩
  unfold S_parting_texts
  exact (ass_cons (as_asg (ae_v 0) (ag_tp rfl (ags_cons (ag_nm 4 sc_parting_texts.nd) (ags_cons (ag_nm 5 sc_parting_texts.nd) (ags_cons (ag_nm 6 sc_parting_texts.nd) ags_nil)))))
    (ass_cons (as_set 1 sc_parting_texts.nd (ae_Ty cr_range T.b_range (aa_cons (ae_B cr_lenN T.b_len (aa_cons (ae_v 5) aa_nil)) aa_nil)))
    (ass_cons (as_setLc2 2 [("one", 7), ("other", 8)] [8] rfl sc_parting_texts.nd (sw_true rfl rfl rfl (by decide +kernel)) (blkOk_by rfl) (by decide) (by decide) (by decide) (ai_rngV (ae_v 1)) (fun _ _ _ _ _ => (ag_nm 7 sc_parting_texts.nd)) (fun _ _ _ _ _ => ats_nil) (fun _ _ _ _ _ => (ai_rngV (ae_v 1))) (fun _ _ _ _ _ => (ag_nm 8 sc_parting_texts.nd)) (fun _ _ _ _ _ => (ats_one (at_cmp (op_neA (hu64 hr)) (ae_v 7) (ae_v 8)))) (fun _ _ _ _ _ => (ae_tup (aa_cons (ae_v 7) (aa_cons (ae_v 8) aa_nil)))))
    (ass_cons (as_set 3 sc_parting_texts.nd ae_newT)
    (ass_cons (as_for (passes_of rfl) rfl (ai_seq (ae_v 2)) (ag_tp rfl (ags_cons (ag_nm 7 sc_parting_texts.nd) (ags_cons (ag_nm 8 sc_parting_texts.nd) ags_nil))) (ass_cons (as_if (at_cmp (op_neA (hu64 hr)) (ae_ix (ae_v 6) (ae_v 7)) (ae_ix (ae_v 6) (ae_v 8))) (ass_cons (as_dput (hu1 hr) (ae_v 3) (ae_tup (aa_cons (ae_v 7) (aa_cons (ae_v 8) aa_nil))) (ae_tup aa_nil))
    ass_nil) ass_nil)
    ass_nil))
    (ass_cons (as_while (fun _ _ => fuel) (passes_of rfl) (at_cmp (op_ltA) (ae_B cr_lenN T.b_len (aa_cons (ae_v 3) aa_nil)) (ae_B cr_lenN T.b_len (aa_cons (ae_v 2) aa_nil))) (ass_cons (as_set 9 sc_parting_texts.nd (ae_lst aa_nil))
    (ass_cons (as_for (passes_of rfl) rfl (ai_seq (ae_lc [("pair", 11)] rfl sc_parting_texts.nd (blkOk_by rfl) (by decide) (ai_seq (ae_v 2)) (fun _ _ _ _ _ => (ag_nm 11 sc_parting_texts.nd)) (fun _ _ _ _ _ => (ats_one (at_cmp (op_notInA (hu65 hr)) (ae_v 11) (ae_v 3)))) (fun _ _ _ _ _ => (ae_v 11)))) (ag_tp rfl (ags_cons (ag_nm 7 sc_parting_texts.nd) (ags_cons (ag_nm 8 sc_parting_texts.nd) ags_nil))) (ass_cons (as_for (passes_of rfl) rfl (ai_rng1 T.b_range (aa_cons (ae_v 4) aa_nil)) (ag_nm 10 sc_parting_texts.nd) (ass_cons (as_set 13 sc_parting_texts.nd (ae_tup (aa_cons (ae_ix (ae_ix (ae_v 5) (ae_v 7)) (ae_v 10)) (aa_cons (ae_ix (ae_ix (ae_v 5) (ae_v 8)) (ae_v 10)) aa_nil))))
    (ass_cons (as_if (at_cmp (op_inA (hu65 hr)) (ae_v 13) (ae_v 3)) (ass_cons (as_expr (ae_append (ae_v 9) (aa_cons (ae_tup (aa_cons (ae_tup (aa_cons (ae_v 7) (aa_cons (ae_v 8) aa_nil))) (aa_cons (ae_op op_addA (ae_tup (aa_cons (ae_v 10) aa_nil)) (ae_dget (hu1 hr) (ae_v 3) (ae_v 13))) aa_nil))) aa_nil)))
    (ass_cons as_break
    ass_nil)) ass_nil)
    ass_nil)))
    ass_nil))
    (ass_cons (as_for (passes_of rfl) rfl (ai_seq (ae_v 9)) (ag_tp rfl (ags_cons (ag_nm 11 sc_parting_texts.nd) (ags_cons (ag_nm 12 sc_parting_texts.nd) ags_nil))) (ass_cons (as_dput (hu1 hr) (ae_v 3) (ae_v 11) (ae_v 12))
    ass_nil))
    ass_nil))))
    (ass_cons (as_ret (ae_v 3))
    ass_nil)))))))
abbrev s_order_reason : Stmt := topS 87
theorem sc_order_reason : FnScope ["small", "firsts", "tails", "found", "letters", "steps", "_", "state", "row", "a", "b", "pair"] ["small"] (defScope s_order_reason) := ⟨rfl, rfl, rfl, by decide +kernel, rfl, by decide +kernel, by decide +kernel⟩
def S_order_reason : SF :=
  (sSeq (sAsg (.tp [(.nm 4), (.nm 5), (.nm 6)]) (eVar 0))
    (sSeq (sAsg (.nm 1) (eCall 1 F_first_texts (eCons (eVar 0) eNil)))
    (sSeq (sAsg (.nm 2) (eCall 1 F_parting_texts (eCons (eVar 0) eNil)))
    (sSeq (sAsg (.nm 3) (eLst eNil))
    (sSeq (sFor (iEnumA (eCons (eVar 5) eNil)) (.tp [(.nm 7), (.nm 8)]) (sSeq (sFor (iRng1 (eCons (eVar 4) eNil)) (.nm 9) (sSeq (sFor (iRng1 (eCons (eVar 9) eNil)) (.nm 10) (sSeq (sAsg (.nm 11) (eTup (eCons (eOp oIx (eOp oIx (eVar 5) (eOp oIx (eVar 8) (eVar 9))) (eVar 10)) (eCons (eOp oIx (eOp oIx (eVar 5) (eOp oIx (eVar 8) (eVar 10))) (eVar 9)) eNil))))
    (sSeq (sIf (eB (eOp oIn (eVar 11) (eVar 2))) (sSeq (sExpr (eMeth oAppend (eVar 3) (eCons (eTup (eCons (eC (.str (Str.ofString "order"))) (eCons (eOp oDget (eVar 1) (eVar 7)) (eCons (eVar 9) (eCons (eVar 10) (eCons (eOp oDget (eVar 2) (eVar 11)) eNil)))))) eNil)))
    sNil) sNil)
    sNil)))
    sNil))
    sNil))
    (sSeq (sRet (eMinKc (eVar 3) (eOp oAdd (eFn oLenN (eCons (eOp oIx (eVar 12) (eC (.int 1))) eNil)) (eFn oLenN (eCons (eOp oIx (eVar 12) (eC (.int 4))) eNil)))))
    sNil))))))
def F_order_reason : On' := defA 12 S_order_reason
set_option maxHeartbeats 16000000 in
theorem ok_order_reason {fa : Addr} {fd : FuncData} (T : Txt w K mg) (G_first_texts : FnX P w K mg Tb base "first_texts" 3 1 F_first_texts) (G_parting_texts : FnX P w K mg Tb base "parting_texts" 1 1 F_parting_texts) (F : Fun K "order_reason" "order_reason" s_order_reason fa fd) (hm : mg "order_reason" = some (.ref fa)) {cL pL : Addr} (B : LamB mg Tb base fd ((("order_reason" : Str) ++ ".<locals>.") ++ "<lambda>") cL pL) : FnX P w K mg Tb base "order_reason" 4 1 F_order_reason := by
  refine ⟨fa, fd, ["small"], fn_AL (k := 3) F sc_order_reason B (fun cdv A outer s₀ H E hr LI => ?_), hm, F.kp, F.binds (ps := ["small"]) fun _ _ _ _ _ _ us hl => match us, hl with | [_], _ => rfl⟩
  unfold S_order_reason
  exact (ass_cons (as_asg (ae_v 0) (ag_tp rfl (ags_cons (ag_nm 4 sc_order_reason.nd) (ags_cons (ag_nm 5 sc_order_reason.nd) (ags_cons (ag_nm 6 sc_order_reason.nd) ags_nil)))))
    (ass_cons (as_set 1 sc_order_reason.nd (ae_callX G_first_texts (hr.mono (by first | decide | omega)) (takes_of rfl rfl rfl rfl) (aa_cons (ae_v 0) aa_nil)))
    (ass_cons (as_set 2 sc_order_reason.nd (ae_callX G_parting_texts (hr.mono (by first | decide | omega)) (takes_of rfl rfl rfl rfl) (aa_cons (ae_v 0) aa_nil)))
    (ass_cons (as_set 3 sc_order_reason.nd (ae_lst aa_nil))
    (ass_cons (as_for (passes_of rfl) rfl (ai_enum T.b_enumerate (aa_cons (ae_v 5) aa_nil)) (ag_tp rfl (ags_cons (ag_nm 7 sc_order_reason.nd) (ags_cons (ag_nm 8 sc_order_reason.nd) ags_nil))) (ass_cons (as_for (passes_of rfl) rfl (ai_rng1 T.b_range (aa_cons (ae_v 4) aa_nil)) (ag_nm 9 sc_order_reason.nd) (ass_cons (as_for (passes_of rfl) rfl (ai_rng1 T.b_range (aa_cons (ae_v 9) aa_nil)) (ag_nm 10 sc_order_reason.nd) (ass_cons (as_set 11 sc_order_reason.nd (ae_tup (aa_cons (ae_ix (ae_ix (ae_v 5) (ae_ix (ae_v 8) (ae_v 9))) (ae_v 10)) (aa_cons (ae_ix (ae_ix (ae_v 5) (ae_ix (ae_v 8) (ae_v 10))) (ae_v 9)) aa_nil))))
    (ass_cons (as_if (at_cmp (op_inA (hu65 hr)) (ae_v 11) (ae_v 2)) (ass_cons (as_expr (ae_append (ae_v 3) (aa_cons (ae_tup (aa_cons ae_str (aa_cons (ae_dget (hu1 hr) (ae_v 1) (ae_v 7)) (aa_cons (ae_v 9) (aa_cons (ae_v 10) (aa_cons (ae_dget (hu1 hr) (ae_v 2) (ae_v 11)) aa_nil)))))) aa_nil)))
    ass_nil) ass_nil)
    ass_nil)))
    ass_nil))
    ass_nil))
    (ass_cons (as_ret (AE.weak (ae_minK (kl := 0) T.b_min hr (ae_v 3) LI (lamP_by (sc := defScope s_order_reason) (by decide +kernel)) (fun A outer s s' H E f c' hr2 => (ae_op op_addA (ae_B cr_lenN T.b_len (aa_cons (ae_ix (ae_v 12) ae_int) aa_nil)) (ae_B cr_lenN T.b_len (aa_cons (ae_ix (ae_v 12) ae_int) aa_nil)))) (show ∀ x ∈ (["value"] : List Str), x ∉ (["small", "firsts", "tails", "found", "letters", "steps", "_", "state", "row", "a", "b", "pair"] : List Str) from by decide +kernel) (by omega) (fun _ _ _ _ _ us hl => match us, hl with | [_], _ => rfl)) (eMinKc_le (pure_addI (pure_fn1 pure_lenN (pure_op pure_ix pure_var pure_C)) (pure_fn1 pure_lenN (pure_op pure_ix pure_var pure_C)) (int_fn1 int_lenN)))))
    ass_nil))))))
abbrev s_puts_of : Stmt := topS 104
theorem sc_puts_of : FnScope ["text", "letter"] ["text"] (defScope s_puts_of) := ⟨rfl, rfl, rfl, by decide +kernel, rfl, by decide +kernel, by decide +kernel⟩
def S_puts_of : SF :=
  (sSeq (sRet (eFn oTuple (eCons (eLc (iSeq (eVar 0)) (.nm 1) bYes (eTup (eCons (eC (.str (Str.ofString "put"))) (eCons (eVar 1) eNil))) [1]) eNil)))
    sNil)
def F_puts_of : On' := defA 2 S_puts_of
set_option maxHeartbeats 16000000 in
theorem ok_puts_of {fa : Addr} {fd : FuncData} (T : Txt w K mg)  (F : Fun K "puts_of" "puts_of" s_puts_of fa fd) (hm : mg "puts_of" = some (.ref fa)) : FnX P w K mg Tb base "puts_of" 1 1 F_puts_of := by
  refine ⟨fa, fd, ["text"], fn_A (k := 0) F sc_puts_of (fun cdv A outer s₀ H E hr => ?_), hm, F.kp, F.binds (ps := ["text"]) fun _ _ _ _ _ _ us hl => match us, hl with | [_], _ => rfl⟩
  unfold S_puts_of
  exact (ass_cons (as_ret (ae_Ty cr_tuple T.b_tuple (aa_cons (ae_lc [("letter", 1)] rfl sc_puts_of.nd (blkOk_by rfl) (by decide) (ai_seq (ae_v 0)) (fun _ _ _ _ _ => (ag_nm 1 sc_puts_of.nd)) (fun _ _ _ _ _ => ats_nil) (fun _ _ _ _ _ => (ae_tup (aa_cons ae_str (aa_cons (ae_v 1) aa_nil))))) aa_nil)))
    ass_nil)
abbrev s_order_rows : Stmt := topS 101
theorem sc_order_rows : FnScope ["world", "small", "row", "spot", "_", "before", "a", "b", "behind"] ["world", "small"] (defScope s_order_rows) := ⟨rfl, rfl, rfl, by decide +kernel, rfl, by decide +kernel, by decide +kernel⟩
def S_order_rows : SF :=
  (sSeq (sAsg (.tp [(.nm 4), (.nm 5), (.nm 6), (.nm 7), (.nm 8)]) (eCall 1 F_order_reason (eCons (eVar 1) eNil)))
    (sSeq (sAsg (.nm 2) (eCall 2 F_edits_at_end (eCons (eVar 0) (eCons (eCall 1 F_puts_of (eCons (eOp oAdd (eOp oAdd (eVar 5) (eTup (eCons (eVar 6) (eCons (eVar 7) eNil)))) (eVar 8)) eNil)) eNil))))
    (sSeq (sAsg (.nm 3) (eFn oLenN (eCons (eVar 5) eNil)))
    (sSeq (sRet (eLst (eCons (eVar 2) (eCons (eOp oAdd (eOp oAdd (eSl (eVar 2) eNoPart (ePart (eOp oAdd (eVar 3) (eC (.int 1))))) (eTup (eCons (eTup (eCons (eC (.str (Str.ofString "put"))) (eCons (eVar 7) (eCons (eVar 3) eNil)))) eNil))) (eSl (eVar 2) (ePart (eOp oAdd (eVar 3) (eC (.int 2)))) eNoPart)) eNil))))
    sNil))))
def F_order_rows : On' := defA 9 S_order_rows
set_option maxHeartbeats 16000000 in
theorem ok_order_rows {fa : Addr} {fd : FuncData} (T : Txt w K mg) (G_order_reason : FnX P w K mg Tb base "order_reason" 4 1 F_order_reason) (G_edits_at_end : FnX P w K mg Tb base "edits_at_end" 1 2 F_edits_at_end) (G_puts_of : FnX P w K mg Tb base "puts_of" 1 1 F_puts_of) (F : Fun K "order_rows" "order_rows" s_order_rows fa fd) (hm : mg "order_rows" = some (.ref fa)) : FnX P w K mg Tb base "order_rows" 5 2 F_order_rows := by
  refine ⟨fa, fd, ["world", "small"], fn_A (k := 4) F sc_order_rows (fun cdv A outer s₀ H E hr => ?_), hm, F.kp, F.binds (ps := ["world", "small"]) fun _ _ _ _ _ _ us hl => match us, hl with | [_, _], _ => rfl⟩
  unfold S_order_rows
  exact (ass_cons (as_asg (ae_callX G_order_reason (hr.mono (by first | decide | omega)) (takes_of rfl rfl rfl rfl) (aa_cons (ae_v 1) aa_nil)) (ag_tp rfl (ags_cons (ag_nm 4 sc_order_rows.nd) (ags_cons (ag_nm 5 sc_order_rows.nd) (ags_cons (ag_nm 6 sc_order_rows.nd) (ags_cons (ag_nm 7 sc_order_rows.nd) (ags_cons (ag_nm 8 sc_order_rows.nd) ags_nil)))))))
    (ass_cons (as_set 2 sc_order_rows.nd (ae_callX G_edits_at_end (hr.mono (by first | decide | omega)) (takes_of rfl rfl rfl rfl) (aa_cons (ae_v 0) (aa_cons (ae_callX G_puts_of (hr.mono (by first | decide | omega)) (takes_of rfl rfl rfl rfl) (aa_cons (ae_op op_addA (ae_op op_addA (ae_v 5) (ae_tup (aa_cons (ae_v 6) (aa_cons (ae_v 7) aa_nil)))) (ae_v 8)) aa_nil)) aa_nil))))
    (ass_cons (as_set 3 sc_order_rows.nd (ae_B cr_lenN T.b_len (aa_cons (ae_v 5) aa_nil)))
    (ass_cons (as_ret (ae_lst (aa_cons (ae_v 2) (aa_cons (ae_op op_addA (ae_op op_addA (ae_sl (ae_v 2) ap_none (ap_some (ae_op op_addA (ae_v 3) ae_int))) (ae_tup (aa_cons (ae_tup (aa_cons ae_str (aa_cons (ae_v 7) (aa_cons (ae_v 3) aa_nil)))) aa_nil))) (ae_sl (ae_v 2) (ap_some (ae_op op_addA (ae_v 3) ae_int)) ap_none)) aa_nil))))
    ass_nil))))
abbrev s_turn_of : Stmt := topS 103
theorem sc_turn_of : FnScope ["steps", "state", "letter", "known"] ["steps", "state", "letter"] (defScope s_turn_of) := ⟨rfl, rfl, rfl, by decide +kernel, rfl, by decide +kernel, by decide +kernel⟩
def S_turn_of : SF :=
  (sSeq (sAsg (.nm 3) eNewK)
    (sSeq (fun τ M => whileA (eB (eOp oNotIn (eVar 1) (eVar 3))) (sSeq (sDput (eVar 3) (eVar 1) (eFn oLenN (eCons (eVar 3) eNil)))
    (sSeq (sAsg (.nm 1) (eOp oIx (eOp oIx (eVar 0) (eVar 1)) (eVar 2)))
    sNil)) fuel τ M)
    (sSeq (sRet (eTup (eCons (eOp oDget (eVar 3) (eVar 1)) (eCons (eFn oLenN (eCons (eVar 3) eNil)) eNil))))
    sNil)))
def F_turn_of : On' := defA 4 S_turn_of
set_option maxHeartbeats 16000000 in
theorem ok_turn_of {fa : Addr} {fd : FuncData} (T : Txt w K mg)  (F : Fun K "turn_of" "turn_of" s_turn_of fa fd) (hm : mg "turn_of" = some (.ref fa)) : FnX P w K mg Tb base "turn_of" 1 3 F_turn_of := by
  refine ⟨fa, fd, ["steps", "state", "letter"], fn_A (k := 0) F sc_turn_of (fun cdv A outer s₀ H E hr => ?_), hm, F.kp, F.binds (ps := ["steps", "state", "letter"]) fun _ _ _ _ _ _ us hl => match us, hl with | [_, _, _], _ => rfl⟩
  unfold S_turn_of
  exact (ass_cons (as_set 3 sc_turn_of.nd ae_newK)
    (ass_cons (as_while (fun _ _ => fuel) (passes_of rfl) (at_cmp (op_notInA (hu65 hr)) (ae_v 1) (ae_v 3)) (ass_cons (as_dput (hu1 hr) (ae_v 3) (ae_v 1) (ae_B cr_lenN T.b_len (aa_cons (ae_v 3) aa_nil)))
    (ass_cons (as_set 1 sc_turn_of.nd (ae_ix (ae_ix (ae_v 0) (ae_v 1)) (ae_v 2)))
    ass_nil)))
    (ass_cons (as_ret (ae_tup (aa_cons (ae_dget (hu1 hr) (ae_v 3) (ae_v 1)) (aa_cons (ae_B cr_lenN T.b_len (aa_cons (ae_v 3) aa_nil)) aa_nil))))
    ass_nil)))
abbrev s_state_from : Stmt := topS 42
theorem sc_state_from : FnScope ["steps", "state", "text", "letter"] ["steps", "state", "text"] (defScope s_state_from) := ⟨rfl, rfl, rfl, by decide +kernel, rfl, by decide +kernel, by decide +kernel⟩
def S_state_from : SF :=
  (sSeq (sFor (iSeq (eVar 2)) (.nm 3) (sSeq (sAsg (.nm 1) (eOp oIx (eOp oIx (eVar 0) (eVar 1)) (eVar 3)))
    sNil))
    (sSeq (sRet (eVar 1))
    sNil))
def F_state_from : On' := defA 4 S_state_from
set_option maxHeartbeats 16000000 in
theorem ok_state_from {fa : Addr} {fd : FuncData} (T : Txt w K mg)  (F : Fun K "state_from" "state_from" s_state_from fa fd) (hm : mg "state_from" = some (.ref fa)) : FnX P w K mg Tb base "state_from" 1 3 F_state_from := by
  refine ⟨fa, fd, ["steps", "state", "text"], fn_A (k := 0) F sc_state_from (fun cdv A outer s₀ H E hr => ?_), hm, F.kp, F.binds (ps := ["steps", "state", "text"]) fun _ _ _ _ _ _ us hl => match us, hl with | [_, _, _], _ => rfl⟩
  unfold S_state_from
  exact (ass_cons (as_for (passes_of rfl) rfl (ai_seq (ae_v 2)) (ag_nm 3 sc_state_from.nd) (ass_cons (as_set 1 sc_state_from.nd (ae_ix (ae_ix (ae_v 0) (ae_v 1)) (ae_v 3)))
    ass_nil))
    (ass_cons (as_ret (ae_v 1))
    ass_nil))
abbrev s_merge_rows : Stmt := topS 102
theorem sc_merge_rows : FnScope ["world", "small", "alone", "off", "firsts", "tails", "rows", "state", "letters", "steps", "_", "letter", "left", "few", "many", "tail", "times"] ["world", "small", "alone"] (defScope s_merge_rows) := ⟨rfl, rfl, rfl, by decide +kernel, rfl, by decide +kernel, by decide +kernel⟩
def S_merge_rows : SF :=
  (sSeq (sAsg (.tp [(.nm 8), (.nm 9), (.nm 10)]) (eVar 1))
    (sSeq (sAsg (.nm 3) (eIf (eB (eInK false (eVar 0) (kC tt_PLACED))) (eC (.str (Str.ofString "take"))) (eC (.str (Str.ofString "chop")))))
    (sSeq (sAsg (.nm 4) (eCall 1 F_first_texts (eCons (eVar 1) eNil)))
    (sSeq (sAsg (.nm 5) (eCall 1 F_parting_texts (eCons (eVar 1) eNil)))
    (sSeq (sAsg (.nm 6) (eLst eNil))
    (sSeq (sFor (iRng1 (eCons (eFn oLenN (eCons (eVar 9) eNil)) eNil)) (.nm 7) (sSeq (sFor (iRng1 (eCons (eVar 8) eNil)) (.nm 11) (sSeq (sAsg (.tp [(.nm 13), (.nm 14)]) (eCall 3 F_turn_of (eCons (eOp oIx (eVar 2) (eC (.int 1))) (eCons (eCall 3 F_state_from (eCons (eOp oIx (eVar 2) (eC (.int 1))) (eCons (eC (.int 0)) (eCons (eOp oDget (eVar 4) (eVar 7)) eNil)))) (eCons (eVar 11) eNil)))))
    (sSeq (sAsg (.nm 12) (eCall 3 F_state_from (eCons (eVar 9) (eCons (eVar 7) (eCons (eOp oMulZ (eTup (eCons (eVar 11) eNil)) (eOp oSub (eVar 14) (eVar 13))) eNil)))))
    (sSeq (sIf (eB (eOp oNe (eVar 12) (eVar 7))) (sSeq (sAsg (.nm 15) (eOp oAdd (eOp oMulZ (eTup (eCons (eTup (eCons (eVar 3) (eCons (eVar 11) eNil))) eNil)) (eVar 13)) (eCall 1 F_puts_of (eCons (eOp oDget (eVar 5) (eTup (eCons (eVar 7) (eCons (eVar 12) eNil)))) eNil))))
    (sSeq (sFor (iSeq (eTup (eCons (eVar 13) (eCons (eVar 14) eNil)))) (.nm 16) (sSeq (sExpr (eMeth oAppend (eVar 6) (eCons (eOp oAdd (eCall 1 F_puts_of (eCons (eOp oAdd (eOp oDget (eVar 4) (eVar 7)) (eOp oMulZ (eTup (eCons (eVar 11) eNil)) (eVar 16))) eNil)) (eVar 15)) eNil)))
    sNil))
    sNil)) sNil)
    sNil))))
    sNil))
    (sSeq (sRet (eVar 6))
    sNil)))))))
def F_merge_rows : On' := defA 17 S_merge_rows
set_option maxHeartbeats 16000000 in
theorem ok_merge_rows {fa : Addr} {fd : FuncData} (T : Txt w K mg) (G_first_texts : FnX P w K mg Tb base "first_texts" 3 1 F_first_texts) (G_parting_texts : FnX P w K mg Tb base "parting_texts" 1 1 F_parting_texts) (G_turn_of : FnX P w K mg Tb base "turn_of" 1 3 F_turn_of) (G_state_from : FnX P w K mg Tb base "state_from" 1 3 F_state_from) (G_puts_of : FnX P w K mg Tb base "puts_of" 1 1 F_puts_of) (F : Fun K "merge_rows" "merge_rows" s_merge_rows fa fd) (hm : mg "merge_rows" = some (.ref fa)) : FnX P w K mg Tb base "merge_rows" 4 3 F_merge_rows := by
  refine ⟨fa, fd, ["world", "small", "alone"], fn_A (k := 3) F sc_merge_rows (fun cdv A outer s₀ H E hr => ?_), hm, F.kp, F.binds (ps := ["world", "small", "alone"]) fun _ _ _ _ _ _ us hl => match us, hl with | [_, _, _], _ => rfl⟩
  unfold S_merge_rows
  exact (ass_cons (as_asg (ae_v 1) (ag_tp rfl (ags_cons (ag_nm 8 sc_merge_rows.nd) (ags_cons (ag_nm 9 sc_merge_rows.nd) (ags_cons (ag_nm 10 sc_merge_rows.nd) ags_nil)))))
    (ass_cons (as_set 3 sc_merge_rows.nd (ae_if (at_inK (ae_v 0) (ak_nm T.g_PLACED.choose_spec.1 T.g_PLACED.choose_spec.2)) ae_str ae_str))
    (ass_cons (as_set 4 sc_merge_rows.nd (ae_callX G_first_texts (hr.mono (by first | decide | omega)) (takes_of rfl rfl rfl rfl) (aa_cons (ae_v 1) aa_nil)))
    (ass_cons (as_set 5 sc_merge_rows.nd (ae_callX G_parting_texts (hr.mono (by first | decide | omega)) (takes_of rfl rfl rfl rfl) (aa_cons (ae_v 1) aa_nil)))
    (ass_cons (as_set 6 sc_merge_rows.nd (ae_lst aa_nil))
    (ass_cons (as_for (passes_of rfl) rfl (ai_rng1 T.b_range (aa_cons (ae_B cr_lenN T.b_len (aa_cons (ae_v 9) aa_nil)) aa_nil)) (ag_nm 7 sc_merge_rows.nd) (ass_cons (as_for (passes_of rfl) rfl (ai_rng1 T.b_range (aa_cons (ae_v 8) aa_nil)) (ag_nm 11 sc_merge_rows.nd) (ass_cons (as_asg (ae_callX G_turn_of (hr.mono (by first | decide | omega)) (takes_of rfl rfl rfl rfl) (aa_cons (ae_ix (ae_v 2) ae_int) (aa_cons (ae_callX G_state_from (hr.mono (by first | decide | omega)) (takes_of rfl rfl rfl rfl) (aa_cons (ae_ix (ae_v 2) ae_int) (aa_cons ae_int (aa_cons (ae_dget (hu1 hr) (ae_v 4) (ae_v 7)) aa_nil)))) (aa_cons (ae_v 11) aa_nil)))) (ag_tp rfl (ags_cons (ag_nm 13 sc_merge_rows.nd) (ags_cons (ag_nm 14 sc_merge_rows.nd) ags_nil))))
    (ass_cons (as_set 12 sc_merge_rows.nd (ae_callX G_state_from (hr.mono (by first | decide | omega)) (takes_of rfl rfl rfl rfl) (aa_cons (ae_v 9) (aa_cons (ae_v 7) (aa_cons (ae_op op_mulZ (ae_tup (aa_cons (ae_v 11) aa_nil)) (ae_op op_subA (ae_v 14) (ae_v 13))) aa_nil)))))
    (ass_cons (as_if (at_cmp (op_neA (hu64 hr)) (ae_v 12) (ae_v 7)) (ass_cons (as_set 15 sc_merge_rows.nd (ae_op op_addA (ae_op op_mulZ (ae_tup (aa_cons (ae_tup (aa_cons (ae_v 3) (aa_cons (ae_v 11) aa_nil))) aa_nil)) (ae_v 13)) (ae_callX G_puts_of (hr.mono (by first | decide | omega)) (takes_of rfl rfl rfl rfl) (aa_cons (ae_dget (hu1 hr) (ae_v 5) (ae_tup (aa_cons (ae_v 7) (aa_cons (ae_v 12) aa_nil)))) aa_nil))))
    (ass_cons (as_for (passes_of rfl) rfl (ai_seq (ae_tup (aa_cons (ae_v 13) (aa_cons (ae_v 14) aa_nil)))) (ag_nm 16 sc_merge_rows.nd) (ass_cons (as_expr (ae_append (ae_v 6) (aa_cons (ae_op op_addA (ae_callX G_puts_of (hr.mono (by first | decide | omega)) (takes_of rfl rfl rfl rfl) (aa_cons (ae_op op_addA (ae_dget (hu1 hr) (ae_v 4) (ae_v 7)) (ae_op op_mulZ (ae_tup (aa_cons (ae_v 11) aa_nil)) (ae_v 16))) aa_nil)) (ae_v 15)) aa_nil)))
    ass_nil))
    ass_nil)) ass_nil)
    ass_nil))))
    ass_nil))
    (ass_cons (as_ret (ae_v 6))
    ass_nil)))))))
abbrev s_fooling_rows : Stmt := topS 99
theorem sc_fooling_rows : FnScope ["world", "small", "keeper", "alone", "rows", "text", "told_row"] ["world", "small", "keeper"] (defScope s_fooling_rows) := ⟨rfl, rfl, rfl, by decide +kernel, rfl, by decide +kernel, by decide +kernel⟩
def S_fooling_rows : SF :=
  (sSeq (sAsg (.nm 3) (eCall 3 F_puts_alone (eCons (eOp oIx (eVar 1) (eC (.int 0))) (eCons (eVar 2) (eCons (eCall 2 F_messages (eCons (eVar 0) (eCons (eOp oIx (eVar 1) (eC (.int 0))) eNil))) eNil)))))
    (sSeq (sAsg (.nm 4) (eLst eNil))
    (sSeq (sAsg (.nm 5) (eCall 2 F_parting_of (eCons (eVar 1) (eCons (eVar 3) eNil))))
    (sSeq (sIf (eB (eOp oIsNot (eVar 5) (eC .non))) (sSeq (sExpr (eMeth oAppend (eVar 4) (eCons (eCall 2 F_edits_at_end (eCons (eVar 0) (eCons (eCall 1 F_puts_of (eCons (eVar 5) eNil)) eNil))) eNil)))
    sNil) sNil)
    (sSeq (sIf (bAnd (eB (eInK false (eVar 0) (kC tt_PLACELESS))) (bNot (eT (eCall 1 F_is_commuting (eCons (eVar 1) eNil))))) (sSeq (sExpr (eMeth oExtend (eVar 4) (eCons (eCall 2 F_order_rows (eCons (eVar 0) (eCons (eVar 1) eNil))) eNil)))
    sNil) sNil)
    (sSeq (sIf (eB (eInK false (eVar 0) (kC tt_TAKING))) (sSeq (sExpr (eMeth oExtend (eVar 4) (eCons (eLc (iSeq (eCall 3 F_merge_rows (eCons (eVar 0) (eCons (eVar 1) (eCons (eVar 3) eNil))))) (.nm 6) bYes (eCall 2 F_edits_at_end (eCons (eVar 0) (eCons (eVar 6) eNil))) [6]) eNil)))
    sNil) sNil)
    (sSeq (sRet (eVar 4))
    sNil)))))))
def F_fooling_rows : On' := defA 7 S_fooling_rows
set_option maxHeartbeats 16000000 in
theorem ok_fooling_rows {fa : Addr} {fd : FuncData} (T : Txt w K mg) (G_puts_alone : FnX P w K mg Tb base "puts_alone" 1 3 F_puts_alone) (G_messages : FnX P w K mg Tb base "messages" 3 2 F_messages) (G_parting_of : FnX P w K mg Tb base "parting_of" 2 2 F_parting_of) (G_edits_at_end : FnX P w K mg Tb base "edits_at_end" 1 2 F_edits_at_end) (G_puts_of : FnX P w K mg Tb base "puts_of" 1 1 F_puts_of) (G_is_commuting : FnX P w K mg Tb base "is_commuting" 1 1 F_is_commuting) (G_order_rows : FnX P w K mg Tb base "order_rows" 5 2 F_order_rows) (G_merge_rows : FnX P w K mg Tb base "merge_rows" 4 3 F_merge_rows) (F : Fun K "fooling_rows" "fooling_rows" s_fooling_rows fa fd) (hm : mg "fooling_rows" = some (.ref fa)) : FnX P w K mg Tb base "fooling_rows" 6 3 F_fooling_rows := by
  refine ⟨fa, fd, ["world", "small", "keeper"], fn_A (k := 5) F sc_fooling_rows (fun cdv A outer s₀ H E hr => ?_), hm, F.kp, F.binds (ps := ["world", "small", "keeper"]) fun _ _ _ _ _ _ us hl => match us, hl with | [_, _, _], _ => rfl⟩
  unfold S_fooling_rows
  exact (ass_cons (as_set 3 sc_fooling_rows.nd (ae_callX G_puts_alone (hr.mono (by first | decide | omega)) (takes_of rfl rfl rfl rfl) (aa_cons (ae_ix (ae_v 1) ae_int) (aa_cons (ae_v 2) (aa_cons (ae_callX G_messages (hr.mono (by first | decide | omega)) (takes_of rfl rfl rfl rfl) (aa_cons (ae_v 0) (aa_cons (ae_ix (ae_v 1) ae_int) aa_nil))) aa_nil)))))
    (ass_cons (as_set 4 sc_fooling_rows.nd (ae_lst aa_nil))
    (ass_cons (as_set 5 sc_fooling_rows.nd (ae_callX G_parting_of (hr.mono (by first | decide | omega)) (takes_of rfl rfl rfl rfl) (aa_cons (ae_v 1) (aa_cons (ae_v 3) aa_nil))))
    (ass_cons (as_if (at_cmp (op_isNotA) (ae_v 5) ae_non) (ass_cons (as_expr (ae_append (ae_v 4) (aa_cons (ae_callX G_edits_at_end (hr.mono (by first | decide | omega)) (takes_of rfl rfl rfl rfl) (aa_cons (ae_v 0) (aa_cons (ae_callX G_puts_of (hr.mono (by first | decide | omega)) (takes_of rfl rfl rfl rfl) (aa_cons (ae_v 5) aa_nil)) aa_nil))) aa_nil)))
    ass_nil) ass_nil)
    (ass_cons (as_if (AW.at (aw_and (at_inK (ae_v 0) (ak_nm T.g_PLACELESS.choose_spec.1 T.g_PLACELESS.choose_spec.2)) (aw_and1 (at_not (at_val (ae_callX G_is_commuting (hr.mono (by first | decide | omega)) (takes_of rfl rfl rfl rfl) (aa_cons (ae_v 1) aa_nil))))))) (ass_cons (as_expr (ae_extend (ae_v 4) (aa_cons (ae_callX G_order_rows (hr.mono (by first | decide | omega)) (takes_of rfl rfl rfl rfl) (aa_cons (ae_v 0) (aa_cons (ae_v 1) aa_nil))) aa_nil)))
    ass_nil) ass_nil)
    (ass_cons (as_if (at_inK (ae_v 0) (ak_nm T.g_TAKING.choose_spec.1 T.g_TAKING.choose_spec.2)) (ass_cons (as_expr (ae_extend (ae_v 4) (aa_cons (ae_lc [("told_row", 6)] rfl sc_fooling_rows.nd (blkOk_by rfl) (by decide) (ai_seq (ae_callX G_merge_rows (hr.mono (by first | decide | omega)) (takes_of rfl rfl rfl rfl) (aa_cons (ae_v 0) (aa_cons (ae_v 1) (aa_cons (ae_v 3) aa_nil))))) (fun _ _ _ _ _ => (ag_nm 6 sc_fooling_rows.nd)) (fun _ _ _ _ _ => ats_nil) (fun _ _ _ _ _ => (ae_callX G_edits_at_end (hr.mono (by first | decide | omega)) takes0 (aa_cons (ae_v 0) (aa_cons (ae_v 6) aa_nil))))) aa_nil)))
    ass_nil) ass_nil)
    (ass_cons (as_ret (ae_v 4))
    ass_nil)))))))
abbrev s_kept_answers : Stmt := topS 85
theorem sc_kept_answers : FnScope ["every", "keeper", "row", "numbers", "state", "found", "message", "steps", "answers", "number"] ["every", "keeper", "row"] (defScope s_kept_answers) := ⟨rfl, rfl, rfl, by decide +kernel, rfl, by decide +kernel, by decide +kernel⟩
def S_kept_answers : SF :=
  (sSeq (sAsg (.nm 3) (eDc (iEnumF (eCons (eVar 0) eNil)) (.tp [(.nm 9), (.nm 6)]) bYes (eVar 6) (eVar 9) [9, 6]))
    (sSeq (sAsg (.tp [(.nm 7), (.nm 8)]) (eVar 1))
    (sSeq (sAsg (.nm 4) (eC (.int 0)))
    (sSeq (sAsg (.nm 5) (eLst (eCons (eOp oIx (eVar 8) (eC (.int 0))) eNil)))
    (sSeq (sFor (iSeq (eVar 2)) (.nm 6) (sSeq (sAsg (.nm 4) (eOp oIx (eOp oIx (eVar 7) (eVar 4)) (eOp oNget (eVar 3) (eVar 6))))
    (sSeq (sExpr (eMeth oAppend (eVar 5) (eCons (eOp oIx (eVar 8) (eVar 4)) eNil)))
    sNil)))
    (sSeq (sRet (eFn oTuple (eCons (eVar 5) eNil)))
    sNil))))))
def F_kept_answers : On' := defA 10 S_kept_answers
set_option maxHeartbeats 16000000 in
theorem ok_kept_answers {fa : Addr} {fd : FuncData} (T : Txt w K mg)  (F : Fun K "kept_answers" "kept_answers" s_kept_answers fa fd) (hm : mg "kept_answers" = some (.ref fa)) : FnX P w K mg Tb base "kept_answers" 1 3 F_kept_answers := by
  refine ⟨fa, fd, ["every", "keeper", "row"], fn_A (k := 0) F sc_kept_answers (fun cdv A outer s₀ H E hr => ?_), hm, F.kp, F.binds (ps := ["every", "keeper", "row"]) fun _ _ _ _ _ _ us hl => match us, hl with | [_, _, _], _ => rfl⟩
  unfold S_kept_answers
  exact (ass_cons (as_setDc 3 [("number", 9), ("message", 6)] (hu9 hr) rfl sc_kept_answers.nd (sw_trueD rfl rfl rfl (by decide +kernel)) (blkOk_by rfl) (by decide) (ai_enumF T.b_enumerate (aa_cons (ae_v 0) aa_nil)) (fun _ _ _ _ _ => (ag_tp rfl (ags_cons (ag_nm 9 sc_kept_answers.nd) (ags_cons (ag_nm 6 sc_kept_answers.nd) ags_nil)))) (fun _ _ _ _ _ => ats_nil) (fun _ _ _ _ _ => (ae_v 6)) (fun _ _ _ _ _ => (ae_v 9)))
    (ass_cons (as_asg (ae_v 1) (ag_tp rfl (ags_cons (ag_nm 7 sc_kept_answers.nd) (ags_cons (ag_nm 8 sc_kept_answers.nd) ags_nil))))
    (ass_cons (as_set 4 sc_kept_answers.nd ae_int)
    (ass_cons (as_set 5 sc_kept_answers.nd (ae_lst (aa_cons (ae_ix (ae_v 8) ae_int) aa_nil)))
    (ass_cons (as_for (passes_of rfl) rfl (ai_seq (ae_v 2)) (ag_nm 6 sc_kept_answers.nd) (ass_cons (as_set 4 sc_kept_answers.nd (ae_ix (ae_ix (ae_v 7) (ae_v 4)) (ae_nget (hu9 hr) (ae_v 3) (ae_v 6))))
    (ass_cons (as_expr (ae_append (ae_v 5) (aa_cons (ae_ix (ae_v 8) (ae_v 4)) aa_nil)))
    ass_nil)))
    (ass_cons (as_ret (ae_Ty cr_tuple T.b_tuple (aa_cons (ae_v 5) aa_nil)))
    ass_nil))))))
abbrev s_ends_wrong : Stmt := topS 98
theorem sc_ends_wrong : FnScope ["question", "text", "keeper", "every", "row", "state"] ["question", "text", "keeper", "every", "row"] (defScope s_ends_wrong) := ⟨rfl, rfl, rfl, by decide +kernel, rfl, by decide +kernel, by decide +kernel⟩
def S_ends_wrong : SF :=
  (sSeq (sAsg (.nm 5) (eCall 3 F_state_from (eCons (eOp oIx (eVar 0) (eC (.int 1))) (eCons (eC (.int 0)) (eCons (eVar 1) eNil)))))
    (sSeq (sRet (eOp oNe (eOp oIx (eCall 3 F_kept_answers (eCons (eVar 3) (eCons (eVar 2) (eCons (eVar 4) eNil)))) (eUn oNeg (eC (.int 1)))) (eOp oIx (eOp oIx (eVar 0) (eC (.int 2))) (eVar 5))))
    sNil))
def F_ends_wrong : On' := defA 6 S_ends_wrong
set_option maxHeartbeats 16000000 in
theorem ok_ends_wrong {fa : Addr} {fd : FuncData} (T : Txt w K mg) (G_state_from : FnX P w K mg Tb base "state_from" 1 3 F_state_from) (G_kept_answers : FnX P w K mg Tb base "kept_answers" 1 3 F_kept_answers) (F : Fun K "ends_wrong" "ends_wrong" s_ends_wrong fa fd) (hm : mg "ends_wrong" = some (.ref fa)) : FnX P w K mg Tb base "ends_wrong" 2 5 F_ends_wrong := by
  refine ⟨fa, fd, ["question", "text", "keeper", "every", "row"], fn_A (k := 1) F sc_ends_wrong (fun cdv A outer s₀ H E hr => ?_), hm, F.kp, F.binds (ps := ["question", "text", "keeper", "every", "row"]) fun _ _ _ _ _ _ us hl => match us, hl with | [_, _, _, _, _], _ => rfl⟩
  unfold S_ends_wrong
  exact (ass_cons (as_set 5 sc_ends_wrong.nd (ae_callX G_state_from (hr.mono (by first | decide | omega)) (takes_of rfl rfl rfl rfl) (aa_cons (ae_ix (ae_v 0) ae_int) (aa_cons ae_int (aa_cons (ae_v 1) aa_nil)))))
    (ass_cons (as_ret (ae_cmp (op_neA (hu64 hr)) (ae_ix (ae_callX G_kept_answers (hr.mono (by first | decide | omega)) (takes_of rfl rfl rfl rfl) (aa_cons (ae_v 3) (aa_cons (ae_v 2) (aa_cons (ae_v 4) aa_nil)))) (ae_un un_negA ae_int)) (ae_ix (ae_ix (ae_v 0) ae_int) (ae_v 5))))
    ass_nil))
abbrev s_texts_by : Stmt := topS 57
theorem sc_texts_by : FnScope ["edits", "behind", "texts", "index", "edit", "text"] ["edits", "behind"] (defScope s_texts_by) := ⟨rfl, rfl, rfl, by decide +kernel, rfl, by decide +kernel, by decide +kernel⟩
def S_texts_by (l0 : Nat) (act : On') : SF :=
  (sSeq (sIf (bOr (bNot (eT (eFn oIsi (eCons (eVar 0) (eCons (eC (.ty "tuple")) eNil))))) (eB (eOp oGt (eFn oLenN (eCons (eVar 0) eNil)) (eC (.int 100))))) sBad sNil)
    (sSeq (sAsg (.nm 2) (eLst (eCons (eTup eNil) eNil)))
    (sSeq (sFor (iEnumA (eCons (eVar 0) eNil)) (.tp [(.nm 3), (.nm 4)]) (sSeq (sAsg (.nm 5) (eAct 1 l0 2 act (eCons (eOp oIx (eVar 2) (eUn oNeg (eC (.int 1)))) (eCons (eVar 4) eNil))))
    (sSeq (sIf (eB (eOp oIs (eVar 5) (eC .non))) sBad sNil)
    (sSeq (sExpr (eMeth oAppend (eVar 2) (eCons (eVar 5) eNil)))
    sNil))))
    (sSeq (sRet (eVar 2))
    sNil))))
set_option maxHeartbeats 16000000 in
theorem ok_texts_by {k : Nat} (hk : 0 ≤ k) {fa : Addr} {fd : FuncData} (T : Txt w K mg)  (F : Fun K "texts_by" "texts_by" s_texts_by fa fd) (hm : mg "texts_by" = some (.ref fa)) : FnL P w K mg Tb base "texts_by" k 2 2 6 S_texts_by := by
  refine ⟨fa, fd, s_texts_by, ["edits", "behind", "texts", "index", "edit", "text"], ["edits", "behind"], F, sc_texts_by, hm, rfl, rfl, F.binds (ps := ["edits", "behind"]) fun _ _ _ _ _ _ us hl => match us, hl with | [_, _], _ => rfl, fun cdv A outer s₀ H E l0 r act hr ha => ?_⟩
  unfold S_texts_by
  exact (ass_cons (as_if (AW.at (aw_or (at_not (at_val (ae_B cr_isi T.b_isinstance (aa_cons (ae_v 0) (aa_cons (ae_type T.b_tuple) aa_nil))))) (aw_or1 (at_cmp (op_gtA) (ae_B cr_lenN T.b_len (aa_cons (ae_v 0) aa_nil)) (ae_glob T.c_MOST_EDITS.choose_spec (fun _ _ => .int 100) ⟨_, rfl⟩))))) ass_never ass_nil)
    (ass_cons (as_set 2 sc_texts_by.nd (ae_lst (aa_cons (ae_tup aa_nil) aa_nil)))
    (ass_cons (as_for (passes_of rfl) rfl (ai_enum T.b_enumerate (aa_cons (ae_v 0) aa_nil)) (ag_tp rfl (ags_cons (ag_nm 3 sc_texts_by.nd) (ags_cons (ag_nm 4 sc_texts_by.nd) ags_nil))) (ass_cons (as_set 5 sc_texts_by.nd (ae_act 1 ha (takes_of rfl rfl rfl rfl) (aa_cons (ae_ix (ae_v 2) (ae_un un_negA ae_int)) (aa_cons (ae_v 4) aa_nil))))
    (ass_cons (as_if (at_cmp (op_isA) (ae_v 5) ae_non) ass_never ass_nil)
    (ass_cons (as_expr (ae_append (ae_v 2) (aa_cons (ae_v 5) aa_nil)))
    ass_nil))))
    (ass_cons (as_ret (ae_v 2))
    ass_nil))))
abbrev s_place_of : Stmt := topS 65
theorem sc_place_of : FnScope ["text", "edit"] ["text", "edit"] (defScope s_place_of) := ⟨rfl, rfl, rfl, by decide +kernel, rfl, by decide +kernel, by decide +kernel⟩
def S_place_of : SF :=
  (sSeq (sIf (eB (eOp oEq (eFn oLenN (eCons (eVar 1) eNil)) (eC (.int 3)))) (sSeq (sRet (eOp oIx (eVar 1) (eC (.int 2))))
    sNil) sNil)
    (sSeq (sIf (eB (eOp oEq (eOp oIx (eVar 1) (eC (.int 0))) (eC (.str (Str.ofString "put"))))) (sSeq (sRet (eFn oLenN (eCons (eVar 0) eNil)))
    sNil) sNil)
    (sSeq (sIf (eB (eOp oEq (eOp oIx (eVar 1) (eC (.int 0))) (eC (.str (Str.ofString "chop"))))) (sSeq (sRet (eOp oSub (eFn oLenN (eCons (eVar 0) eNil)) (eC (.int 1))))
    sNil) sNil)
    (sSeq (sRet (eC (.int 0)))
    sNil))))
def F_place_of : On' := defA 2 S_place_of
set_option maxHeartbeats 16000000 in
theorem ok_place_of {fa : Addr} {fd : FuncData} (T : Txt w K mg)  (F : Fun K "place_of" "place_of" s_place_of fa fd) (hm : mg "place_of" = some (.ref fa)) : FnX P w K mg Tb base "place_of" 1 2 F_place_of := by
  refine ⟨fa, fd, ["text", "edit"], fn_A (k := 0) F sc_place_of (fun cdv A outer s₀ H E hr => ?_), hm, F.kp, F.binds (ps := ["text", "edit"]) fun _ _ _ _ _ _ us hl => match us, hl with | [_, _], _ => rfl⟩
  unfold S_place_of
  exact (ass_cons (as_if (at_cmp (op_eqA (hu64 hr)) (ae_B cr_lenN T.b_len (aa_cons (ae_v 1) aa_nil)) ae_int) (ass_cons (as_ret (ae_ix (ae_v 1) ae_int))
    ass_nil) ass_nil)
    (ass_cons (as_if (at_cmp (op_eqA (hu64 hr)) (ae_ix (ae_v 1) ae_int) ae_str) (ass_cons (as_ret (ae_B cr_lenN T.b_len (aa_cons (ae_v 0) aa_nil)))
    ass_nil) ass_nil)
    (ass_cons (as_if (at_cmp (op_eqA (hu64 hr)) (ae_ix (ae_v 1) ae_int) ae_str) (ass_cons (as_ret (ae_op op_subA (ae_B cr_lenN T.b_len (aa_cons (ae_v 0) aa_nil)) ae_int))
    ass_nil) ass_nil)
    (ass_cons (as_ret ae_int)
    ass_nil))))
abbrev s_text_without : Stmt := topS 67
theorem sc_text_without : FnScope ["text", "letter", "place"] ["text", "letter", "place"] (defScope s_text_without) := ⟨rfl, rfl, rfl, by decide +kernel, rfl, by decide +kernel, by decide +kernel⟩
def S_text_without : SF :=
  (sSeq (sIf (bOr (bNot (eB (eChain oLe oLt (eC (.int 0)) (eVar 2) (eFn oLenN (eCons (eVar 0) eNil))))) (eB (eOp oNe (eOp oIx (eVar 0) (eVar 2)) (eVar 1)))) (sSeq (sRet (eC .non))
    sNil) sNil)
    (sSeq (sRet (eOp oAdd (eSl (eVar 0) eNoPart (ePart (eVar 2))) (eSl (eVar 0) (ePart (eOp oAdd (eVar 2) (eC (.int 1)))) eNoPart)))
    sNil))
def F_text_without : On' := defA 3 S_text_without
set_option maxHeartbeats 16000000 in
theorem ok_text_without {fa : Addr} {fd : FuncData} (T : Txt w K mg)  (F : Fun K "text_without" "text_without" s_text_without fa fd) (hm : mg "text_without" = some (.ref fa)) : FnX P w K mg Tb base "text_without" 1 3 F_text_without := by
  refine ⟨fa, fd, ["text", "letter", "place"], fn_A (k := 0) F sc_text_without (fun cdv A outer s₀ H E hr => ?_), hm, F.kp, F.binds (ps := ["text", "letter", "place"]) fun _ _ _ _ _ _ us hl => match us, hl with | [_, _, _], _ => rfl⟩
  unfold S_text_without
  exact (ass_cons (as_if (AW.at (aw_or (at_not (at_chain (op_leA) (op_ltA) ae_int (ae_v 2) (ae_B cr_lenN T.b_len (aa_cons (ae_v 0) aa_nil)))) (aw_or1 (at_cmp (op_neA (hu64 hr)) (ae_ix (ae_v 0) (ae_v 2)) (ae_v 1))))) (ass_cons (as_ret ae_non)
    ass_nil) ass_nil)
    (ass_cons (as_ret (ae_op op_addA (ae_sl (ae_v 0) ap_none (ap_some (ae_v 2))) (ae_sl (ae_v 0) (ap_some (ae_op op_addA (ae_v 2) ae_int)) ap_none)))
    ass_nil))
abbrev s_turned_text : Stmt := topS 68
theorem sc_turned_text : FnScope ["text", "edit", "row", "letter"] ["text", "edit"] (defScope s_turned_text) := ⟨rfl, rfl, rfl, by decide +kernel, rfl, by decide +kernel, by decide +kernel⟩
def S_turned_text : SF :=
  (sSeq (sIf (eB (eOp oEq (eFn oLenN (eCons (eVar 1) eNil)) (eC (.int 1)))) (sSeq (sRet (eUn oRev (eVar 0)))
    sNil) sNil)
    (sSeq (sAsg (.nm 2) (eOp oIx (eVar 1) (eC (.int 1))))
    (sSeq (sRet (eFn oTuple (eCons (eLc (iSeq (eVar 0)) (.nm 3) bYes (eOp oIx (eVar 2) (eVar 3)) [3]) eNil)))
    sNil)))
def F_turned_text : On' := defA 4 S_turned_text
set_option maxHeartbeats 16000000 in
theorem ok_turned_text {fa : Addr} {fd : FuncData} (T : Txt w K mg)  (F : Fun K "turned_text" "turned_text" s_turned_text fa fd) (hm : mg "turned_text" = some (.ref fa)) : FnX P w K mg Tb base "turned_text" 1 2 F_turned_text := by
  refine ⟨fa, fd, ["text", "edit"], fn_A (k := 0) F sc_turned_text (fun cdv A outer s₀ H E hr => ?_), hm, F.kp, F.binds (ps := ["text", "edit"]) fun _ _ _ _ _ _ us hl => match us, hl with | [_, _], _ => rfl⟩
  unfold S_turned_text
  exact (ass_cons (as_if (at_cmp (op_eqA (hu64 hr)) (ae_B cr_lenN T.b_len (aa_cons (ae_v 1) aa_nil)) ae_int) (ass_cons (as_ret (ae_rev (ae_v 0)))
    ass_nil) ass_nil)
    (ass_cons (as_set 2 sc_turned_text.nd (ae_ix (ae_v 1) ae_int))
    (ass_cons (as_ret (ae_Ty cr_tuple T.b_tuple (aa_cons (ae_lc [("letter", 3)] rfl sc_turned_text.nd (blkOk_by rfl) (by decide) (ai_seq (ae_v 0)) (fun _ _ _ _ _ => (ag_nm 3 sc_turned_text.nd)) (fun _ _ _ _ _ => ats_nil) (fun _ _ _ _ _ => (ae_ix (ae_v 2) (ae_v 3)))) aa_nil)))
    ass_nil)))
abbrev s_text_with : Stmt := topS 66
theorem sc_text_with : FnScope ["text", "letter", "place"] ["text", "letter", "place"] (defScope s_text_with) := ⟨rfl, rfl, rfl, by decide +kernel, rfl, by decide +kernel, by decide +kernel⟩
def S_text_with : SF :=
  (sSeq (sIf (bOr (eB (eOp oGt (eVar 2) (eFn oLenN (eCons (eVar 0) eNil)))) (eB (eOp oEq (eFn oLenN (eCons (eVar 0) eNil)) (eC (.int 60))))) (sSeq (sRet (eC .non))
    sNil) sNil)
    (sSeq (sRet (eOp oAdd (eOp oAdd (eSl (eVar 0) eNoPart (ePart (eVar 2))) (eTup (eCons (eVar 1) eNil))) (eSl (eVar 0) (ePart (eVar 2)) eNoPart)))
    sNil))
def F_text_with : On' := defA 3 S_text_with
set_option maxHeartbeats 16000000 in
theorem ok_text_with {fa : Addr} {fd : FuncData} (T : Txt w K mg)  (F : Fun K "text_with" "text_with" s_text_with fa fd) (hm : mg "text_with" = some (.ref fa)) : FnX P w K mg Tb base "text_with" 1 3 F_text_with := by
  refine ⟨fa, fd, ["text", "letter", "place"], fn_A (k := 0) F sc_text_with (fun cdv A outer s₀ H E hr => ?_), hm, F.kp, F.binds (ps := ["text", "letter", "place"]) fun _ _ _ _ _ _ us hl => match us, hl with | [_, _, _], _ => rfl⟩
  unfold S_text_with
  exact (ass_cons (as_if (AW.at (aw_or (at_cmp (op_gtA) (ae_v 2) (ae_B cr_lenN T.b_len (aa_cons (ae_v 0) aa_nil))) (aw_or1 (at_cmp (op_eqA (hu64 hr)) (ae_B cr_lenN T.b_len (aa_cons (ae_v 0) aa_nil)) (ae_glob T.c_MOST_TEXT.choose_spec (fun _ _ => .int 60) ⟨_, rfl⟩))))) (ass_cons (as_ret ae_non)
    ass_nil) ass_nil)
    (ass_cons (as_ret (ae_op op_addA (ae_op op_addA (ae_sl (ae_v 0) ap_none (ap_some (ae_v 2))) (ae_tup (aa_cons (ae_v 1) aa_nil))) (ae_sl (ae_v 0) (ap_some (ae_v 2)) ap_none)))
    ass_nil))
abbrev s_text_by : Stmt := topS 64
theorem sc_text_by : FnScope ["text", "edit", "place"] ["text", "edit"] (defScope s_text_by) := ⟨rfl, rfl, rfl, by decide +kernel, rfl, by decide +kernel, by decide +kernel⟩
def S_text_by : SF :=
  (sSeq (sIf (eB (eOp oEq (eOp oIx (eVar 1) (eC (.int 0))) (eC (.str (Str.ofString "turn"))))) (sSeq (sRet (eCall 2 F_turned_text (eCons (eVar 0) (eCons (eVar 1) eNil))))
    sNil) sNil)
    (sSeq (sAsg (.nm 2) (eCall 2 F_place_of (eCons (eVar 0) (eCons (eVar 1) eNil))))
    (sSeq (sIf (eB (eOp oIn (eOp oIx (eVar 1) (eC (.int 0))) (eTup (eCons (eC (.str (Str.ofString "put"))) (eCons (eC (.str (Str.ofString "front"))) eNil))))) (sSeq (sRet (eCall 3 F_text_with (eCons (eVar 0) (eCons (eOp oIx (eVar 1) (eC (.int 1))) (eCons (eVar 2) eNil)))))
    sNil) sNil)
    (sSeq (sRet (eCall 3 F_text_without (eCons (eVar 0) (eCons (eOp oIx (eVar 1) (eC (.int 1))) (eCons (eVar 2) eNil)))))
    sNil))))
def F_text_by : On' := defA 3 S_text_by
set_option maxHeartbeats 16000000 in
theorem ok_text_by {fa : Addr} {fd : FuncData} (T : Txt w K mg) (G_turned_text : FnX P w K mg Tb base "turned_text" 1 2 F_turned_text) (G_place_of : FnX P w K mg Tb base "place_of" 1 2 F_place_of) (G_text_with : FnX P w K mg Tb base "text_with" 1 3 F_text_with) (G_text_without : FnX P w K mg Tb base "text_without" 1 3 F_text_without) (F : Fun K "text_by" "text_by" s_text_by fa fd) (hm : mg "text_by" = some (.ref fa)) : FnX P w K mg Tb base "text_by" 2 2 F_text_by := by
  refine ⟨fa, fd, ["text", "edit"], fn_A (k := 1) F sc_text_by (fun cdv A outer s₀ H E hr => ?_), hm, F.kp, F.binds (ps := ["text", "edit"]) fun _ _ _ _ _ _ us hl => match us, hl with | [_, _], _ => rfl⟩
  unfold S_text_by
  exact (ass_cons (as_if (at_cmp (op_eqA (hu64 hr)) (ae_ix (ae_v 1) ae_int) ae_str) (ass_cons (as_ret (ae_callX G_turned_text (hr.mono (by first | decide | omega)) (takes_of rfl rfl rfl rfl) (aa_cons (ae_v 0) (aa_cons (ae_v 1) aa_nil))))
    ass_nil) ass_nil)
    (ass_cons (as_set 2 sc_text_by.nd (ae_callX G_place_of (hr.mono (by first | decide | omega)) (takes_of rfl rfl rfl rfl) (aa_cons (ae_v 0) (aa_cons (ae_v 1) aa_nil))))
    (ass_cons (as_if (at_cmp (op_inA (hu65 hr)) (ae_ix (ae_v 1) ae_int) (ae_tup (aa_cons ae_str (aa_cons ae_str aa_nil)))) (ass_cons (as_ret (ae_callX G_text_with (hr.mono (by first | decide | omega)) (takes_of rfl rfl rfl rfl) (aa_cons (ae_v 0) (aa_cons (ae_ix (ae_v 1) ae_int) (aa_cons (ae_v 2) aa_nil)))))
    ass_nil) ass_nil)
    (ass_cons (as_ret (ae_callX G_text_without (hr.mono (by first | decide | omega)) (takes_of rfl rfl rfl rfl) (aa_cons (ae_v 0) (aa_cons (ae_ix (ae_v 1) ae_int) (aa_cons (ae_v 2) aa_nil)))))
    ass_nil))))
abbrev s_is_permutation : Stmt := topS 61
theorem sc_is_permutation : FnScope ["value", "letters"] ["value", "letters"] (defScope s_is_permutation) := ⟨rfl, rfl, rfl, by decide +kernel, rfl, by decide +kernel, by decide +kernel⟩
def S_is_permutation : SF :=
  (sSeq (sRet (eAnd (eCall 3 F_are_numbers (eCons (eVar 0) (eCons (eVar 1) (eCons (eOp oSub (eVar 1) (eC (.int 1))) eNil)))) (eOp oEq (eUn oLenSetX (eVar 0)) (eVar 1))))
    sNil)
def F_is_permutation : On' := defA 2 S_is_permutation
set_option maxHeartbeats 16000000 in
theorem ok_is_permutation {fa : Addr} {fd : FuncData} (T : Txt w K mg) (G_are_numbers : FnX P w K mg Tb base "are_numbers" 2 3 F_are_numbers) (F : Fun K "is_permutation" "is_permutation" s_is_permutation fa fd) (hm : mg "is_permutation" = some (.ref fa)) : FnX P w K mg Tb base "is_permutation" 3 2 F_is_permutation := by
  refine ⟨fa, fd, ["value", "letters"], fn_A (k := 2) F sc_is_permutation (fun cdv A outer s₀ H E hr => ?_), hm, F.kp, F.binds (ps := ["value", "letters"]) fun _ _ _ _ _ _ us hl => match us, hl with | [_, _], _ => rfl⟩
  unfold S_is_permutation
  exact (ass_cons (as_ret (ae_and (ae_callX G_are_numbers (hr.mono (by first | decide | omega)) (takes_of rfl rfl rfl rfl) (aa_cons (ae_v 0) (aa_cons (ae_v 1) (aa_cons (ae_op op_subA (ae_v 1) ae_int) aa_nil)))) (ae_one (ae_cmp (op_eqA (hu64 hr)) (ae_lenSetX T.b_len T.b_set (ae_v 0)) (ae_v 1)))))
    ass_nil)
abbrev s_is_message : Stmt := topS 60
theorem sc_is_message : FnScope ["world", "letters", "value"] ["world", "letters", "value"] (defScope s_is_message) := ⟨rfl, rfl, rfl, by decide +kernel, rfl, by decide +kernel, by decide +kernel⟩
def S_is_message : SF :=
  (sSeq (sIf (bOr (bNot (eT (eFn oIsi (eCons (eVar 2) (eCons (eC (.ty "tuple")) eNil))))) (bOr (bNot (eB (eChain oLe oLe (eC (.int 1)) (eFn oLenN (eCons (eVar 2) eNil)) (eC (.int 2))))) (eB (eInK true (eOp oIx (eVar 2) (eC (.int 0))) (kIx tb_WORDS (eVar 0)))))) (sSeq (sRet (eC (.bl false)))
    sNil) sNil)
    (sSeq (sIf (bAnd (eB (eOp oEq (eOp oIx (eVar 2) (eC (.int 0))) (eC (.str (Str.ofString "turn"))))) (eB (eOp oEq (eVar 0) (eC (.str (Str.ofString "reverse")))))) (sSeq (sRet (eOp oEq (eFn oLenN (eCons (eVar 2) eNil)) (eC (.int 1))))
    sNil) sNil)
    (sSeq (sIf (eB (eOp oEq (eFn oLenN (eCons (eVar 2) eNil)) (eC (.int 1)))) (sSeq (sRet (eC (.bl false)))
    sNil) sNil)
    (sSeq (sIf (eB (eOp oEq (eOp oIx (eVar 2) (eC (.int 0))) (eC (.str (Str.ofString "turn"))))) (sSeq (sRet (eCall 2 F_is_permutation (eCons (eOp oIx (eVar 2) (eC (.int 1))) (eCons (eVar 1) eNil))))
    sNil) sNil)
    (sSeq (sRet (eCall 3 F_is_number (eCons (eOp oIx (eVar 2) (eC (.int 1))) (eCons (eC (.int 0)) (eCons (eOp oSub (eVar 1) (eC (.int 1))) eNil)))))
    sNil)))))
def F_is_message : On' := defA 3 S_is_message
set_option maxHeartbeats 16000000 in
theorem ok_is_message {fa : Addr} {fd : FuncData} (T : Txt w K mg) (G_is_permutation : FnX P w K mg Tb base "is_permutation" 3 2 F_is_permutation) (G_is_number : FnX P w K mg Tb base "is_number" 1 3 F_is_number) (F : Fun K "is_message" "is_message" s_is_message fa fd) (hm : mg "is_message" = some (.ref fa)) : FnX P w K mg Tb base "is_message" 4 3 F_is_message := by
  refine ⟨fa, fd, ["world", "letters", "value"], fn_A (k := 3) F sc_is_message (fun cdv A outer s₀ H E hr => ?_), hm, F.kp, F.binds (ps := ["world", "letters", "value"]) fun _ _ _ _ _ _ us hl => match us, hl with | [_, _, _], _ => rfl⟩
  unfold S_is_message
  exact (ass_cons (as_if (AW.at (aw_or (at_not (at_val (ae_B cr_isi T.b_isinstance (aa_cons (ae_v 2) (aa_cons (ae_type T.b_tuple) aa_nil))))) (aw_or (at_not (at_chain (op_leA) (op_leA) ae_int (ae_B cr_lenN T.b_len (aa_cons (ae_v 2) aa_nil)) ae_int)) (aw_or1 (at_ninK (ae_ix (ae_v 2) ae_int) (ak_ix T.g_WORDS.choose_spec.1 T.g_WORDS.choose_spec.2 (ae_v 0))))))) (ass_cons (as_ret ae_bl)
    ass_nil) ass_nil)
    (ass_cons (as_if (AW.at (aw_and (at_cmp (op_eqA (hu64 hr)) (ae_ix (ae_v 2) ae_int) ae_str) (aw_and1 (at_cmp (op_eqA (hu64 hr)) (ae_v 0) ae_str)))) (ass_cons (as_ret (ae_cmp (op_eqA (hu64 hr)) (ae_B cr_lenN T.b_len (aa_cons (ae_v 2) aa_nil)) ae_int))
    ass_nil) ass_nil)
    (ass_cons (as_if (at_cmp (op_eqA (hu64 hr)) (ae_B cr_lenN T.b_len (aa_cons (ae_v 2) aa_nil)) ae_int) (ass_cons (as_ret ae_bl)
    ass_nil) ass_nil)
    (ass_cons (as_if (at_cmp (op_eqA (hu64 hr)) (ae_ix (ae_v 2) ae_int) ae_str) (ass_cons (as_ret (ae_callX G_is_permutation (hr.mono (by first | decide | omega)) (takes_of rfl rfl rfl rfl) (aa_cons (ae_ix (ae_v 2) ae_int) (aa_cons (ae_v 1) aa_nil))))
    ass_nil) ass_nil)
    (ass_cons (as_ret (ae_callX G_is_number (hr.mono (by first | decide | omega)) (takes_of rfl rfl rfl rfl) (aa_cons (ae_ix (ae_v 2) ae_int) (aa_cons ae_int (aa_cons (ae_op op_subA (ae_v 1) ae_int) aa_nil)))))
    ass_nil)))))
abbrev s_is_edit : Stmt := topS 62
theorem sc_is_edit : FnScope ["world", "letters", "value"] ["world", "letters", "value"] (defScope s_is_edit) := ⟨rfl, rfl, rfl, by decide +kernel, rfl, by decide +kernel, by decide +kernel⟩
def S_is_edit : SF :=
  (sSeq (sIf (eB (eInK true (eVar 0) (kC tt_PLACED))) (sSeq (sRet (eCall 3 F_is_message (eCons (eVar 0) (eCons (eVar 1) (eCons (eVar 2) eNil)))))
    sNil) sNil)
    (sSeq (sIf (bOr (bNot (eT (eFn oIsi (eCons (eVar 2) (eCons (eC (.ty "tuple")) eNil))))) (eB (eOp oNe (eFn oLenN (eCons (eVar 2) eNil)) (eC (.int 3))))) (sSeq (sRet (eC (.bl false)))
    sNil) sNil)
    (sSeq (sRet (eAnd (eCall 3 F_is_message (eCons (eVar 0) (eCons (eVar 1) (eCons (eSl (eVar 2) eNoPart (ePart (eC (.int 2)))) eNil)))) (eCall 3 F_is_number (eCons (eOp oIx (eVar 2) (eC (.int 2))) (eCons (eC (.int 0)) (eCons (eC (.int 60)) eNil))))))
    sNil)))
def F_is_edit : On' := defA 3 S_is_edit
set_option maxHeartbeats 16000000 in
theorem ok_is_edit {fa : Addr} {fd : FuncData} (T : Txt w K mg) (G_is_message : FnX P w K mg Tb base "is_message" 4 3 F_is_message) (G_is_number : FnX P w K mg Tb base "is_number" 1 3 F_is_number) (F : Fun K "is_edit" "is_edit" s_is_edit fa fd) (hm : mg "is_edit" = some (.ref fa)) : FnX P w K mg Tb base "is_edit" 5 3 F_is_edit := by
  refine ⟨fa, fd, ["world", "letters", "value"], fn_A (k := 4) F sc_is_edit (fun cdv A outer s₀ H E hr => ?_), hm, F.kp, F.binds (ps := ["world", "letters", "value"]) fun _ _ _ _ _ _ us hl => match us, hl with | [_, _, _], _ => rfl⟩
  unfold S_is_edit
  exact (ass_cons (as_if (at_ninK (ae_v 0) (ak_nm T.g_PLACED.choose_spec.1 T.g_PLACED.choose_spec.2)) (ass_cons (as_ret (ae_callX G_is_message (hr.mono (by first | decide | omega)) (takes_of rfl rfl rfl rfl) (aa_cons (ae_v 0) (aa_cons (ae_v 1) (aa_cons (ae_v 2) aa_nil)))))
    ass_nil) ass_nil)
    (ass_cons (as_if (AW.at (aw_or (at_not (at_val (ae_B cr_isi T.b_isinstance (aa_cons (ae_v 2) (aa_cons (ae_type T.b_tuple) aa_nil))))) (aw_or1 (at_cmp (op_neA (hu64 hr)) (ae_B cr_lenN T.b_len (aa_cons (ae_v 2) aa_nil)) ae_int)))) (ass_cons (as_ret ae_bl)
    ass_nil) ass_nil)
    (ass_cons (as_ret (ae_and (ae_callX G_is_message (hr.mono (by first | decide | omega)) (takes_of rfl rfl rfl rfl) (aa_cons (ae_v 0) (aa_cons (ae_v 1) (aa_cons (ae_sl (ae_v 2) ap_none (ap_some ae_int)) aa_nil)))) (ae_one (ae_callX G_is_number (hr.mono (by first | decide | omega)) (takes_of rfl rfl rfl rfl) (aa_cons (ae_ix (ae_v 2) ae_int) (aa_cons ae_int (aa_cons (ae_glob T.c_MOST_TEXT.choose_spec (fun _ _ => .int 60) ⟨_, rfl⟩) aa_nil)))))))
    ass_nil)))
abbrev s_text_behind : Stmt := topS 63
theorem sc_text_behind : FnScope ["world", "letters", "text", "edit"] ["world", "letters", "text", "edit"] (defScope s_text_behind) := ⟨rfl, rfl, rfl, by decide +kernel, rfl, by decide +kernel, by decide +kernel⟩
def S_text_behind : SF :=
  (sSeq (sIf (bNot (eT (eCall 3 F_is_edit (eCons (eVar 0) (eCons (eVar 1) (eCons (eVar 3) eNil)))))) (sSeq (sRet (eC .non))
    sNil) sNil)
    (sSeq (sRet (eCall 2 F_text_by (eCons (eVar 2) (eCons (eVar 3) eNil))))
    sNil))
def F_text_behind : On' := defA 4 S_text_behind
set_option maxHeartbeats 16000000 in
theorem ok_text_behind {fa : Addr} {fd : FuncData} (T : Txt w K mg) (G_is_edit : FnX P w K mg Tb base "is_edit" 5 3 F_is_edit) (G_text_by : FnX P w K mg Tb base "text_by" 2 2 F_text_by) (F : Fun K "text_behind" "text_behind" s_text_behind fa fd) (hm : mg "text_behind" = some (.ref fa)) : FnX P w K mg Tb base "text_behind" 6 4 F_text_behind := by
  refine ⟨fa, fd, ["world", "letters", "text", "edit"], fn_A (k := 5) F sc_text_behind (fun cdv A outer s₀ H E hr => ?_), hm, F.kp, F.binds (ps := ["world", "letters", "text", "edit"]) fun _ _ _ _ _ _ us hl => match us, hl with | [_, _, _, _], _ => rfl⟩
  unfold S_text_behind
  exact (ass_cons (as_if (at_not (at_val (ae_callX G_is_edit (hr.mono (by first | decide | omega)) (takes_of rfl rfl rfl rfl) (aa_cons (ae_v 0) (aa_cons (ae_v 1) (aa_cons (ae_v 3) aa_nil)))))) (ass_cons (as_ret ae_non)
    ass_nil) ass_nil)
    (ass_cons (as_ret (ae_callX G_text_by (hr.mono (by first | decide | omega)) (takes_of rfl rfl rfl rfl) (aa_cons (ae_v 2) (aa_cons (ae_v 3) aa_nil))))
    ass_nil))
abbrev s_texts_along : Stmt := topS 56
theorem sc_texts_along : FnScope ["world", "letters", "edits"] ["world", "letters", "edits"] (defScope s_texts_along) := ⟨rfl, rfl, rfl, by decide +kernel, rfl, by decide +kernel, by decide +kernel⟩
def S_texts_along : SF :=
  (sSeq (sRet (eLam 2 6 S_texts_by (eCall 4 F_text_behind (eCons (eVar 0) (eCons (eVar 1) (eCons (eVar 3) (eCons (eVar 4) eNil))))) (eCons (eVar 2) eNil)))
    sNil)
def F_texts_along : On' := defA 3 S_texts_along
set_option maxHeartbeats 16000000 in
theorem ok_texts_along {fa : Addr} {fd : FuncData} (T : Txt w K mg) (G_texts_by : FnL P w K mg Tb base "texts_by" 7 2 2 6 S_texts_by) (G_text_behind : FnX P w K mg Tb base "text_behind" 6 4 F_text_behind) (F : Fun K "texts_along" "texts_along" s_texts_along fa fd) (hm : mg "texts_along" = some (.ref fa)) {cL pL : Addr} (B : LamB mg Tb base fd ((("texts_along" : Str) ++ ".<locals>.") ++ "<lambda>") cL pL) : FnX P w K mg Tb base "texts_along" 9 3 F_texts_along := by
  refine ⟨fa, fd, ["world", "letters", "edits"], fn_AL (k := 8) F sc_texts_along B (fun cdv A outer s₀ H E hr LI => ?_), hm, F.kp, F.binds (ps := ["world", "letters", "edits"]) fun _ _ _ _ _ _ us hl => match us, hl with | [_, _, _], _ => rfl⟩
  unfold S_texts_along
  exact (ass_cons (as_ret (ae_lam (ps := ["text", "edit"]) (kl := 6) G_texts_by hr (takes_of rfl rfl rfl rfl) rfl (lamP_by (sc := defScope s_texts_along) (by decide +kernel)) (alm_cons (ae_v 2) (alm_nil LI (lamP_by (sc := defScope s_texts_along) (ps := ["text", "edit"]) (by decide +kernel)))) (fun A outer s s' H E f c' hr2 => (ae_callX G_text_behind (hr2.mono (by first | decide | omega)) (takes_of rfl rfl rfl rfl) (aa_cons (ae_v 0) (aa_cons (ae_v 1) (aa_cons (ae_v 3) (aa_cons (ae_v 4) aa_nil)))))) (show ∀ x ∈ (["text", "edit"] : List Str), x ∉ (["world", "letters", "edits"] : List Str) from by decide +kernel) (by decide) (by decide) (fun _ _ _ _ _ us hl => match us, hl with | [_, _], _ => rfl)))
    ass_nil)
abbrev s_text_after : Stmt := topS 52
theorem sc_text_after : FnScope ["world", "letters", "edits"] ["world", "letters", "edits"] (defScope s_text_after) := ⟨rfl, rfl, rfl, by decide +kernel, rfl, by decide +kernel, by decide +kernel⟩
def S_text_after : SF :=
  (sSeq (sExpr (eCall 1 F_check_world (eCons (eVar 0) eNil)))
    (sSeq (sExpr (eCall 1 F_check_letters (eCons (eVar 1) eNil)))
    (sSeq (sRet (eOp oIx (eCall 3 F_texts_along (eCons (eVar 0) (eCons (eVar 1) (eCons (eVar 2) eNil)))) (eUn oNeg (eC (.int 1)))))
    sNil)))
def F_text_after : On' := defA 3 S_text_after
set_option maxHeartbeats 16000000 in
theorem ok_text_after {fa : Addr} {fd : FuncData} (T : Txt w K mg) (G_check_world : FnX P w K mg Tb base "check_world" 1 1 F_check_world) (G_check_letters : FnX P w K mg Tb base "check_letters" 2 1 F_check_letters) (G_texts_along : FnX P w K mg Tb base "texts_along" 9 3 F_texts_along) (F : Fun K "text_after" "text_after" s_text_after fa fd) (hm : mg "text_after" = some (.ref fa)) : FnX P w K mg Tb base "text_after" 10 3 F_text_after := by
  refine ⟨fa, fd, ["world", "letters", "edits"], fn_A (k := 9) F sc_text_after (fun cdv A outer s₀ H E hr => ?_), hm, F.kp, F.binds (ps := ["world", "letters", "edits"]) fun _ _ _ _ _ _ us hl => match us, hl with | [_, _, _], _ => rfl⟩
  unfold S_text_after
  exact (ass_cons (as_expr (ae_callX G_check_world (hr.mono (by first | decide | omega)) (takes_of rfl rfl rfl rfl) (aa_cons (ae_v 0) aa_nil)))
    (ass_cons (as_expr (ae_callX G_check_letters (hr.mono (by first | decide | omega)) (takes_of rfl rfl rfl rfl) (aa_cons (ae_v 1) aa_nil)))
    (ass_cons (as_ret (ae_ix (ae_callX G_texts_along (hr.mono (by first | decide | omega)) (takes_of rfl rfl rfl rfl) (aa_cons (ae_v 0) (aa_cons (ae_v 1) (aa_cons (ae_v 2) aa_nil)))) (ae_un un_negA ae_int)))
    ass_nil)))
abbrev s_message_of : Stmt := topS 58
theorem sc_message_of : FnScope ["edit"] ["edit"] (defScope s_message_of) := ⟨rfl, rfl, rfl, by decide +kernel, rfl, by decide +kernel, by decide +kernel⟩
def S_message_of : SF :=
  (sSeq (sRet (eSl (eVar 0) eNoPart (ePart (eC (.int 2)))))
    sNil)
def F_message_of : On' := defA 1 S_message_of
set_option maxHeartbeats 16000000 in
theorem ok_message_of {fa : Addr} {fd : FuncData} (T : Txt w K mg)  (F : Fun K "message_of" "message_of" s_message_of fa fd) (hm : mg "message_of" = some (.ref fa)) : FnX P w K mg Tb base "message_of" 1 1 F_message_of := by
  refine ⟨fa, fd, ["edit"], fn_A (k := 0) F sc_message_of (fun cdv A outer s₀ H E hr => ?_), hm, F.kp, F.binds (ps := ["edit"]) fun _ _ _ _ _ _ us hl => match us, hl with | [_], _ => rfl⟩
  unfold S_message_of
  exact (ass_cons (as_ret (ae_sl (ae_v 0) ap_none (ap_some ae_int)))
    ass_nil)
abbrev s_told : Stmt := topS 53
theorem sc_told : FnScope ["world", "letters", "edits", "edit"] ["world", "letters", "edits"] (defScope s_told) := ⟨rfl, rfl, rfl, by decide +kernel, rfl, by decide +kernel, by decide +kernel⟩
def S_told : SF :=
  (sSeq (sExpr (eCall 3 F_text_after (eCons (eVar 0) (eCons (eVar 1) (eCons (eVar 2) eNil)))))
    (sSeq (sRet (eFn oTuple (eCons (eLc (iSeq (eVar 2)) (.nm 3) bYes (eCall 1 F_message_of (eCons (eVar 3) eNil)) [3]) eNil)))
    sNil))
def F_told : On' := defA 4 S_told
set_option maxHeartbeats 16000000 in
theorem ok_told {fa : Addr} {fd : FuncData} (T : Txt w K mg) (G_text_after : FnX P w K mg Tb base "text_after" 10 3 F_text_after) (G_message_of : FnX P w K mg Tb base "message_of" 1 1 F_message_of) (F : Fun K "told" "told" s_told fa fd) (hm : mg "told" = some (.ref fa)) : FnX P w K mg Tb base "told" 11 3 F_told := by
  refine ⟨fa, fd, ["world", "letters", "edits"], fn_A (k := 10) F sc_told (fun cdv A outer s₀ H E hr => ?_), hm, F.kp, F.binds (ps := ["world", "letters", "edits"]) fun _ _ _ _ _ _ us hl => match us, hl with | [_, _, _], _ => rfl⟩
  unfold S_told
  exact (ass_cons (as_expr (ae_callX G_text_after (hr.mono (by first | decide | omega)) (takes_of rfl rfl rfl rfl) (aa_cons (ae_v 0) (aa_cons (ae_v 1) (aa_cons (ae_v 2) aa_nil)))))
    (ass_cons (as_ret (ae_Ty cr_tuple T.b_tuple (aa_cons (ae_lc [("edit", 3)] rfl sc_told.nd (blkOk_by rfl) (by decide) (ai_seq (ae_v 2)) (fun _ _ _ _ _ => (ag_nm 3 sc_told.nd)) (fun _ _ _ _ _ => ats_nil) (fun _ _ _ _ _ => (ae_callX G_message_of (hr.mono (by first | decide | omega)) takes0 (aa_cons (ae_v 3) aa_nil)))) aa_nil)))
    ass_nil))
abbrev s_is_fooled : Stmt := topS 97
theorem sc_is_fooled : FnScope ["world", "question", "keeper", "value", "letters", "row"] ["world", "question", "keeper", "value"] (defScope s_is_fooled) := ⟨rfl, rfl, rfl, by decide +kernel, rfl, by decide +kernel, by decide +kernel⟩
def S_is_fooled : SF :=
  (sSeq (sAsg (.nm 4) (eOp oIx (eVar 1) (eC (.int 0))))
    (sSeq (sTryO xk_BadEdits (sSeq (sAsg (.nm 5) (eCall 3 F_told (eCons (eVar 0) (eCons (eVar 4) (eCons (eVar 3) eNil)))))
    sNil) (sSeq (sRet (eC (.bl false)))
    sNil))
    (sSeq (sRet (eCall 5 F_ends_wrong (eCons (eVar 1) (eCons (eCall 3 F_text_after (eCons (eVar 0) (eCons (eVar 4) (eCons (eVar 3) eNil)))) (eCons (eVar 2) (eCons (eCall 2 F_messages (eCons (eVar 0) (eCons (eVar 4) eNil))) (eCons (eVar 5) eNil)))))))
    sNil)))
def F_is_fooled : On' := defA 6 S_is_fooled
set_option maxHeartbeats 16000000 in
theorem ok_is_fooled {fa : Addr} {fd : FuncData} (T : Txt w K mg) (G_told : FnX P w K mg Tb base "told" 11 3 F_told) (G_ends_wrong : FnX P w K mg Tb base "ends_wrong" 2 5 F_ends_wrong) (G_text_after : FnX P w K mg Tb base "text_after" 10 3 F_text_after) (G_messages : FnX P w K mg Tb base "messages" 3 2 F_messages) (F : Fun K "is_fooled" "is_fooled" s_is_fooled fa fd) (hm : mg "is_fooled" = some (.ref fa)) : FnX P w K mg Tb base "is_fooled" 12 4 F_is_fooled := by
  refine ⟨fa, fd, ["world", "question", "keeper", "value"], fn_A (k := 11) F sc_is_fooled (fun cdv A outer s₀ H E hr => ?_), hm, F.kp, F.binds (ps := ["world", "question", "keeper", "value"]) fun _ _ _ _ _ _ us hl => match us, hl with | [_, _, _, _], _ => rfl⟩
  unfold S_is_fooled
  exact (ass_cons (as_set 4 sc_is_fooled.nd (ae_ix (ae_v 1) ae_int))
    (ass_cons (as_tryO rfl rfl ⟨rfl, by decide, .inl T.x_BadEdits.choose_spec.1⟩ (takes_of rfl rfl rfl rfl) T.x_BadEdits.choose_spec.2 (fun W1 pn1 xe1 tk1 po1 => (ass_cons (as_set 5 sc_is_fooled.nd (ae_callX G_told (hr.mono (by first | decide | omega)) tk1 (aa_cons (ae_v 0) (aa_cons (ae_v 4) (aa_cons (ae_v 3) aa_nil)))))
    ass_nil)) (fun a1 oe1 cls1 d1 pn1 r1 h1 hz1 hf1 => (ass_cons (as_ret ae_bl)
    ass_nil)))
    (ass_cons (as_ret (ae_callX G_ends_wrong (hr.mono (by first | decide | omega)) (takes_of rfl rfl rfl rfl) (aa_cons (ae_v 1) (aa_cons (ae_callX G_text_after (hr.mono (by first | decide | omega)) (takes_of rfl rfl rfl rfl) (aa_cons (ae_v 0) (aa_cons (ae_v 4) (aa_cons (ae_v 3) aa_nil)))) (aa_cons (ae_v 2) (aa_cons (ae_callX G_messages (hr.mono (by first | decide | omega)) (takes_of rfl rfl rfl rfl) (aa_cons (ae_v 0) (aa_cons (ae_v 4) aa_nil))) (aa_cons (ae_v 5) aa_nil)))))))
    ass_nil)))
abbrev s_fool : Stmt := topS 95
theorem sc_fool : FnScope ["world", "question", "keeper", "small", "rows", "fooled", "edits"] ["world", "question", "keeper"] (defScope s_fool) := ⟨rfl, rfl, rfl, by decide +kernel, rfl, by decide +kernel, by decide +kernel⟩
def S_fool : SF :=
  (sSeq (sExpr (eCall 3 F_check_told (eCons (eVar 0) (eCons (eVar 1) (eCons (eVar 2) eNil)))))
    (sSeq (sAsg (.nm 3) (eCallD 2 F_least_of [.non] (eCons (eVar 1) eNil)))
    (sSeq (sIf (eT (eCall 2 F_is_kept (eCons (eVar 0) (eCons (eVar 3) eNil)))) sBad sNil)
    (sSeq (sAsg (.nm 4) (eCall 3 F_fooling_rows (eCons (eVar 0) (eCons (eVar 3) (eCons (eVar 2) eNil)))))
    (sSeq (sAsg (.nm 5) (eLc (iSeq (eVar 4)) (.nm 6) (eT (eCall 4 F_is_fooled (eCons (eVar 0) (eCons (eVar 3) (eCons (eVar 2) (eCons (eVar 6) eNil)))))) (eVar 6) [6]))
    (sSeq (sIf (bNot (eT (eVar 5))) sBad sNil)
    (sSeq (sRet (eMinLen (eVar 5)))
    sNil)))))))
def F_fool : On' := defA 7 S_fool
set_option maxHeartbeats 16000000 in
theorem ok_fool {fa : Addr} {fd : FuncData} (T : Txt w K mg) (G_check_told : FnX P w K mg Tb base "check_told" 5 3 F_check_told) (G_least_of : FnXD P w K mg Tb base "least_of" 3 2 [.non] F_least_of) (G_is_kept : FnX P w K mg Tb base "is_kept" 2 2 F_is_kept) (G_fooling_rows : FnX P w K mg Tb base "fooling_rows" 6 3 F_fooling_rows) (G_is_fooled : FnX P w K mg Tb base "is_fooled" 12 4 F_is_fooled) (F : Fun K "fool" "fool" s_fool fa fd) (hm : mg "fool" = some (.ref fa)) : FnX P w K mg Tb base "fool" 13 3 F_fool := by
  refine ⟨fa, fd, ["world", "question", "keeper"], fn_A (k := 12) F sc_fool (fun cdv A outer s₀ H E hr => ?_), hm, F.kp, F.binds (ps := ["world", "question", "keeper"]) fun _ _ _ _ _ _ us hl => match us, hl with | [_, _, _], _ => rfl⟩
  unfold S_fool
  exact (ass_cons (as_expr (ae_callX G_check_told (hr.mono (by first | decide | omega)) (takes_of rfl rfl rfl rfl) (aa_cons (ae_v 0) (aa_cons (ae_v 1) (aa_cons (ae_v 2) aa_nil)))))
    (ass_cons (as_set 3 sc_fool.nd (ae_callXD G_least_of (hr.mono (by first | decide | omega)) (takes_of rfl rfl rfl rfl) (aa_cons (ae_v 1) aa_nil)))
    (ass_cons (as_if (at_val (ae_callX G_is_kept (hr.mono (by first | decide | omega)) (takes_of rfl rfl rfl rfl) (aa_cons (ae_v 0) (aa_cons (ae_v 3) aa_nil)))) ass_never ass_nil)
    (ass_cons (as_set 4 sc_fool.nd (ae_callX G_fooling_rows (hr.mono (by first | decide | omega)) (takes_of rfl rfl rfl rfl) (aa_cons (ae_v 0) (aa_cons (ae_v 3) (aa_cons (ae_v 2) aa_nil)))))
    (ass_cons (as_setLc 5 [("edits", 6)] rfl sc_fool.nd (sw_true rfl rfl rfl (by decide +kernel)) (blkOk_by rfl) (by decide) (ai_seq (ae_v 4)) (fun _ _ _ _ _ => (ag_nm 6 sc_fool.nd)) (fun _ _ _ _ _ => (ats_one (at_val (ae_callX G_is_fooled (hr.mono (by first | decide | omega)) takes0 (aa_cons (ae_v 0) (aa_cons (ae_v 3) (aa_cons (ae_v 2) (aa_cons (ae_v 6) aa_nil)))))))) (fun _ _ _ _ _ => (ae_v 6)))
    (ass_cons (as_if (at_not (at_val (ae_v 5))) ass_never ass_nil)
    (ass_cons (as_ret (ae_minLen T.b_min T.b_len (ae_v 5)))
    ass_nil)))))))
abbrev s_law_taken : Stmt := topS 120
theorem sc_law_taken : FnScope ["row", "many", "cell", "found"] ["row", "many"] (defScope s_law_taken) := ⟨rfl, rfl, rfl, by decide +kernel, rfl, by decide +kernel, by decide +kernel⟩
def S_law_taken : SF :=
  (sSeq (sIf (eB (eOp oGt (eOp oIx (eVar 0) (eC (.int 3))) (eC (.int 0)))) (sSeq (sAsg (.nm 3) (eOp oMod (eFn oInt1 (eCons (eOp oIx (eVar 0) (eC (.int 3))) eNil)) (eVar 1)))
    (sSeq (sSetL (eVar 0) (eC (.int 3)) (eOp oFdiv (eOp oIx (eVar 0) (eC (.int 3))) (eVar 1)))
    (sSeq (sRet (eVar 3))
    sNil))) sNil)
    (sSeq (sSetL (eVar 0) (eC (.int 1)) (eOp oAdd (eOp oIx (eVar 0) (eC (.int 1))) (eC (.int 1))))
    (sSeq (sIf (eB (eOp oGt (eOp oIx (eVar 0) (eC (.int 1))) (eFn oLenN (eCons (eOp oIx (eVar 0) (eC (.int 0))) eNil)))) (sSeq (sSetL (eVar 0) (eC (.int 2)) (eOp oMod (eFn oInt1 (eCons (eOp oAdd (eOp oMul (eOp oIx (eVar 0) (eC (.int 2))) (eC (.int 48271))) (eC (.int 11))) eNil)) (eC (.int 2147483647))))
    (sSeq (sRet (eOp oMod (eFn oInt1 (eCons (eOp oFdiv (eOp oIx (eVar 0) (eC (.int 2))) (eC (.int 7))) eNil)) (eVar 1)))
    sNil)) sNil)
    (sSeq (sAsg (.nm 2) (eOp oIx (eOp oIx (eVar 0) (eC (.int 0))) (eOp oSub (eOp oIx (eVar 0) (eC (.int 1))) (eC (.int 1)))))
    (sSeq (sSetL (eVar 0) (eC (.int 2)) (eOp oMod (eFn oInt1 (eCons (eOp oAdd (eOp oAdd (eOp oMul (eOp oIx (eVar 0) (eC (.int 2))) (eC (.int 48271))) (eVar 2)) (eC (.int 11))) eNil)) (eC (.int 2147483647))))
    (sSeq (sIf (eB (eOp oGe (eVar 2) (eOp oPow (eC (.int 10)) (eC (.int 18))))) (sSeq (sSetL (eVar 0) (eC (.int 3)) (eOp oFdiv (eVar 2) (eVar 1)))
    sNil) sNil)
    (sSeq (sRet (eOp oMod (eFn oInt1 (eCons (eVar 2) eNil)) (eVar 1)))
    sNil)))))))
def F_law_taken : On' := defA 4 S_law_taken
set_option maxHeartbeats 16000000 in
theorem ok_law_taken {fa : Addr} {fd : FuncData} (T : Txt w K mg)  (F : Fun K "_law_taken" "_law_taken" s_law_taken fa fd) (hm : mg "_law_taken" = some (.ref fa)) : FnX P w K mg Tb base "_law_taken" 1 2 F_law_taken := by
  refine ⟨fa, fd, ["row", "many"], fn_A (k := 0) F sc_law_taken (fun cdv A outer s₀ H E hr => ?_), hm, F.kp, F.binds (ps := ["row", "many"]) fun _ _ _ _ _ _ us hl => match us, hl with | [_, _], _ => rfl⟩
  unfold S_law_taken
  exact (ass_cons (as_if (at_cmp (op_gtA) (ae_ix (ae_v 0) ae_int) ae_int) (ass_cons (as_set 3 sc_law_taken.nd (ae_op op_modA (ae_Ty cr_int T.b_int (aa_cons (ae_ix (ae_v 0) ae_int) aa_nil)) (ae_v 1)))
    (ass_cons (as_setL (ae_v 0) ae_int (ae_op op_fdivA (ae_ix (ae_v 0) ae_int) (ae_v 1)))
    (ass_cons (as_ret (ae_v 3))
    ass_nil))) ass_nil)
    (ass_cons (as_setL (ae_v 0) ae_int (ae_op op_addA (ae_ix (ae_v 0) ae_int) ae_int))
    (ass_cons (as_if (at_cmp (op_gtA) (ae_ix (ae_v 0) ae_int) (ae_B cr_lenN T.b_len (aa_cons (ae_ix (ae_v 0) ae_int) aa_nil))) (ass_cons (as_setL (ae_v 0) ae_int (ae_op op_modA (ae_Ty cr_int T.b_int (aa_cons (ae_op op_addA (ae_op op_mulA (ae_ix (ae_v 0) ae_int) ae_int) ae_int) aa_nil)) ae_int))
    (ass_cons (as_ret (ae_op op_modA (ae_Ty cr_int T.b_int (aa_cons (ae_op op_fdivA (ae_ix (ae_v 0) ae_int) ae_int) aa_nil)) (ae_v 1)))
    ass_nil)) ass_nil)
    (ass_cons (as_set 2 sc_law_taken.nd (ae_ix (ae_ix (ae_v 0) ae_int) (ae_op op_subA (ae_ix (ae_v 0) ae_int) ae_int)))
    (ass_cons (as_setL (ae_v 0) ae_int (ae_op op_modA (ae_Ty cr_int T.b_int (aa_cons (ae_op op_addA (ae_op op_addA (ae_op op_mulA (ae_ix (ae_v 0) ae_int) ae_int) (ae_v 2)) ae_int) aa_nil)) ae_int))
    (ass_cons (as_if (at_cmp (op_geA) (ae_v 2) (ae_op op_powA ae_int ae_int)) (ass_cons (as_setL (ae_v 0) ae_int (ae_op op_fdivA (ae_v 2) (ae_v 1)))
    ass_nil) ass_nil)
    (ass_cons (as_ret (ae_op op_modA (ae_Ty cr_int T.b_int (aa_cons (ae_v 2) aa_nil)) (ae_v 1)))
    ass_nil)))))))
abbrev s_check_messages : Stmt := topS 84
theorem sc_check_messages : FnScope ["row", "is_told", "index", "message"] ["row", "is_told"] (defScope s_check_messages) := ⟨rfl, rfl, rfl, by decide +kernel, rfl, by decide +kernel, by decide +kernel⟩
def S_check_messages (l0 : Nat) (act : On') : SF :=
  (sSeq (sIf (bOr (bNot (eT (eFn oIsi (eCons (eVar 0) (eCons (eC (.ty "tuple")) eNil))))) (eB (eOp oGt (eFn oLenN (eCons (eVar 0) eNil)) (eC (.int 100))))) sBad sNil)
    (sSeq (sFor (iEnumA (eCons (eVar 0) eNil)) (.tp [(.nm 2), (.nm 3)]) (sSeq (sIf (bNot (eT (eAct 1 l0 1 act (eCons (eVar 3) eNil)))) sBad sNil)
    sNil))
    sNil))
set_option maxHeartbeats 16000000 in
theorem ok_check_messages {k : Nat} (hk : 0 ≤ k) {fa : Addr} {fd : FuncData} (T : Txt w K mg)  (F : Fun K "check_messages" "check_messages" s_check_messages fa fd) (hm : mg "check_messages" = some (.ref fa)) : FnL P w K mg Tb base "check_messages" k 2 1 4 S_check_messages := by
  refine ⟨fa, fd, s_check_messages, ["row", "is_told", "index", "message"], ["row", "is_told"], F, sc_check_messages, hm, rfl, rfl, F.binds (ps := ["row", "is_told"]) fun _ _ _ _ _ _ us hl => match us, hl with | [_, _], _ => rfl, fun cdv A outer s₀ H E l0 r act hr ha => ?_⟩
  unfold S_check_messages
  exact (ass_cons (as_if (AW.at (aw_or (at_not (at_val (ae_B cr_isi T.b_isinstance (aa_cons (ae_v 0) (aa_cons (ae_type T.b_tuple) aa_nil))))) (aw_or1 (at_cmp (op_gtA) (ae_B cr_lenN T.b_len (aa_cons (ae_v 0) aa_nil)) (ae_glob T.c_MOST_MESSAGES.choose_spec (fun _ _ => .int 100) ⟨_, rfl⟩))))) ass_never ass_nil)
    (ass_cons (as_for (passes_of rfl) rfl (ai_enum T.b_enumerate (aa_cons (ae_v 0) aa_nil)) (ag_tp rfl (ags_cons (ag_nm 2 sc_check_messages.nd) (ags_cons (ag_nm 3 sc_check_messages.nd) ags_nil))) (ass_cons (as_if (at_not (at_val (ae_act 1 ha (takes_of rfl rfl rfl rfl) (aa_cons (ae_v 3) aa_nil)))) ass_never ass_nil)
    ass_nil))
    ass_nil))
abbrev s_check_row : Stmt := topS 83
theorem sc_check_row : FnScope ["world", "letters", "row"] ["world", "letters", "row"] (defScope s_check_row) := ⟨rfl, rfl, rfl, by decide +kernel, rfl, by decide +kernel, by decide +kernel⟩
def S_check_row : SF :=
  (sSeq (sExpr (eLam 2 4 S_check_messages (eCall 3 F_is_message (eCons (eVar 0) (eCons (eVar 1) (eCons (eVar 3) eNil)))) (eCons (eVar 2) eNil)))
    sNil)
def F_check_row : On' := defA 3 S_check_row
set_option maxHeartbeats 16000000 in
theorem ok_check_row {fa : Addr} {fd : FuncData} (T : Txt w K mg) (G_check_messages : FnL P w K mg Tb base "check_messages" 5 2 1 4 S_check_messages) (G_is_message : FnX P w K mg Tb base "is_message" 4 3 F_is_message) (F : Fun K "check_row" "check_row" s_check_row fa fd) (hm : mg "check_row" = some (.ref fa)) {cL pL : Addr} (B : LamB mg Tb base fd ((("check_row" : Str) ++ ".<locals>.") ++ "<lambda>") cL pL) : FnX P w K mg Tb base "check_row" 7 3 F_check_row := by
  refine ⟨fa, fd, ["world", "letters", "row"], fn_AL (k := 6) F sc_check_row B (fun cdv A outer s₀ H E hr LI => ?_), hm, F.kp, F.binds (ps := ["world", "letters", "row"]) fun _ _ _ _ _ _ us hl => match us, hl with | [_, _, _], _ => rfl⟩
  unfold S_check_row
  exact (ass_cons (as_expr (ae_lam (ps := ["message"]) (kl := 4) G_check_messages hr (takes_of rfl rfl rfl rfl) rfl (lamP_by (sc := defScope s_check_row) (by decide +kernel)) (alm_cons (ae_v 2) (alm_nil LI (lamP_by (sc := defScope s_check_row) (ps := ["message"]) (by decide +kernel)))) (fun A outer s s' H E f c' hr2 => (ae_callX G_is_message (hr2.mono (by first | decide | omega)) (takes_of rfl rfl rfl rfl) (aa_cons (ae_v 0) (aa_cons (ae_v 1) (aa_cons (ae_v 3) aa_nil))))) (show ∀ x ∈ (["message"] : List Str), x ∉ (["world", "letters", "row"] : List Str) from by decide +kernel) (by decide) (by decide) (fun _ _ _ _ _ us hl => match us, hl with | [_], _ => rfl)))
    ass_nil)
abbrev s_keep : Stmt := topS 76
theorem sc_keep : FnScope ["world", "letters", "keeper", "row"] ["world", "letters", "keeper", "row"] (defScope s_keep) := ⟨rfl, rfl, rfl, by decide +kernel, rfl, by decide +kernel, by decide +kernel⟩
def S_keep : SF :=
  (sSeq (sExpr (eCall 1 F_check_world (eCons (eVar 0) eNil)))
    (sSeq (sExpr (eCall 1 F_check_letters (eCons (eVar 1) eNil)))
    (sSeq (sExpr (eCall 3 F_check_keeper (eCons (eVar 0) (eCons (eVar 1) (eCons (eVar 2) eNil)))))
    (sSeq (sExpr (eCall 3 F_check_row (eCons (eVar 0) (eCons (eVar 1) (eCons (eVar 3) eNil)))))
    (sSeq (sRet (eCall 3 F_kept_answers (eCons (eCall 2 F_messages (eCons (eVar 0) (eCons (eVar 1) eNil))) (eCons (eVar 2) (eCons (eVar 3) eNil)))))
    sNil)))))
def F_keep : On' := defA 4 S_keep
set_option maxHeartbeats 16000000 in
theorem ok_keep {fa : Addr} {fd : FuncData} (T : Txt w K mg) (G_check_world : FnX P w K mg Tb base "check_world" 1 1 F_check_world) (G_check_letters : FnX P w K mg Tb base "check_letters" 2 1 F_check_letters) (G_check_keeper : FnX P w K mg Tb base "check_keeper" 4 3 F_check_keeper) (G_check_row : FnX P w K mg Tb base "check_row" 7 3 F_check_row) (G_kept_answers : FnX P w K mg Tb base "kept_answers" 1 3 F_kept_answers) (G_messages : FnX P w K mg Tb base "messages" 3 2 F_messages) (F : Fun K "keep" "keep" s_keep fa fd) (hm : mg "keep" = some (.ref fa)) : FnX P w K mg Tb base "keep" 8 4 F_keep := by
  refine ⟨fa, fd, ["world", "letters", "keeper", "row"], fn_A (k := 7) F sc_keep (fun cdv A outer s₀ H E hr => ?_), hm, F.kp, F.binds (ps := ["world", "letters", "keeper", "row"]) fun _ _ _ _ _ _ us hl => match us, hl with | [_, _, _, _], _ => rfl⟩
  unfold S_keep
  exact (ass_cons (as_expr (ae_callX G_check_world (hr.mono (by first | decide | omega)) (takes_of rfl rfl rfl rfl) (aa_cons (ae_v 0) aa_nil)))
    (ass_cons (as_expr (ae_callX G_check_letters (hr.mono (by first | decide | omega)) (takes_of rfl rfl rfl rfl) (aa_cons (ae_v 1) aa_nil)))
    (ass_cons (as_expr (ae_callX G_check_keeper (hr.mono (by first | decide | omega)) (takes_of rfl rfl rfl rfl) (aa_cons (ae_v 0) (aa_cons (ae_v 1) (aa_cons (ae_v 2) aa_nil)))))
    (ass_cons (as_expr (ae_callX G_check_row (hr.mono (by first | decide | omega)) (takes_of rfl rfl rfl rfl) (aa_cons (ae_v 0) (aa_cons (ae_v 1) (aa_cons (ae_v 3) aa_nil)))))
    (ass_cons (as_ret (ae_callX G_kept_answers (hr.mono (by first | decide | omega)) (takes_of rfl rfl rfl rfl) (aa_cons (ae_callX G_messages (hr.mono (by first | decide | omega)) (takes_of rfl rfl rfl rfl) (aa_cons (ae_v 0) (aa_cons (ae_v 1) aa_nil))) (aa_cons (ae_v 2) (aa_cons (ae_v 3) aa_nil)))))
    ass_nil)))))
abbrev s_is_text : Stmt := topS 23
theorem sc_is_text : FnScope ["value", "letters"] ["value", "letters"] (defScope s_is_text) := ⟨rfl, rfl, rfl, by decide +kernel, rfl, by decide +kernel, by decide +kernel⟩
def S_is_text : SF :=
  (sSeq (sRet (eAnd (eFn oIsi (eCons (eVar 0) (eCons (eC (.ty "tuple")) eNil))) (eCall 3 F_are_numbers (eCons (eVar 0) (eCons (eFn oLenN (eCons (eVar 0) eNil)) (eCons (eOp oSub (eVar 1) (eC (.int 1))) eNil))))))
    sNil)
def F_is_text : On' := defA 2 S_is_text
set_option maxHeartbeats 16000000 in
theorem ok_is_text {fa : Addr} {fd : FuncData} (T : Txt w K mg) (G_are_numbers : FnX P w K mg Tb base "are_numbers" 2 3 F_are_numbers) (F : Fun K "is_text" "is_text" s_is_text fa fd) (hm : mg "is_text" = some (.ref fa)) : FnX P w K mg Tb base "is_text" 3 2 F_is_text := by
  refine ⟨fa, fd, ["value", "letters"], fn_A (k := 2) F sc_is_text (fun cdv A outer s₀ H E hr => ?_), hm, F.kp, F.binds (ps := ["value", "letters"]) fun _ _ _ _ _ _ us hl => match us, hl with | [_, _], _ => rfl⟩
  unfold S_is_text
  exact (ass_cons (as_ret (ae_and (ae_B cr_isi T.b_isinstance (aa_cons (ae_v 0) (aa_cons (ae_type T.b_tuple) aa_nil))) (ae_one (ae_callX G_are_numbers (hr.mono (by first | decide | omega)) (takes_of rfl rfl rfl rfl) (aa_cons (ae_v 0) (aa_cons (ae_B cr_lenN T.b_len (aa_cons (ae_v 0) aa_nil)) (aa_cons (ae_op op_subA (ae_v 1) ae_int) aa_nil)))))))
    ass_nil)
abbrev s_check_text : Stmt := topS 24
theorem sc_check_text : FnScope ["text", "letters"] ["text", "letters"] (defScope s_check_text) := ⟨rfl, rfl, rfl, by decide +kernel, rfl, by decide +kernel, by decide +kernel⟩
def S_check_text : SF :=
  (sSeq (sIf (bOr (bNot (eT (eCall 2 F_is_text (eCons (eVar 0) (eCons (eVar 1) eNil))))) (eB (eOp oGt (eFn oLenN (eCons (eVar 0) eNil)) (eC (.int 60))))) sBad sNil)
    sNil)
def F_check_text : On' := defA 2 S_check_text
set_option maxHeartbeats 16000000 in
theorem ok_check_text {fa : Addr} {fd : FuncData} (T : Txt w K mg) (G_is_text : FnX P w K mg Tb base "is_text" 3 2 F_is_text) (F : Fun K "check_text" "check_text" s_check_text fa fd) (hm : mg "check_text" = some (.ref fa)) : FnX P w K mg Tb base "check_text" 4 2 F_check_text := by
  refine ⟨fa, fd, ["text", "letters"], fn_A (k := 3) F sc_check_text (fun cdv A outer s₀ H E hr => ?_), hm, F.kp, F.binds (ps := ["text", "letters"]) fun _ _ _ _ _ _ us hl => match us, hl with | [_, _], _ => rfl⟩
  unfold S_check_text
  exact (ass_cons (as_if (AW.at (aw_or (at_not (at_val (ae_callX G_is_text (hr.mono (by first | decide | omega)) (takes_of rfl rfl rfl rfl) (aa_cons (ae_v 0) (aa_cons (ae_v 1) aa_nil))))) (aw_or1 (at_cmp (op_gtA) (ae_B cr_lenN T.b_len (aa_cons (ae_v 0) aa_nil)) (ae_glob T.c_MOST_TEXT.choose_spec (fun _ _ => .int 60) ⟨_, rfl⟩))))) ass_never ass_nil)
    ass_nil)
abbrev s_state_of : Stmt := topS 38
theorem sc_state_of : FnScope ["question", "text"] ["question", "text"] (defScope s_state_of) := ⟨rfl, rfl, rfl, by decide +kernel, rfl, by decide +kernel, by decide +kernel⟩
def S_state_of : SF :=
  (sSeq (sExpr (eCall 1 F_check_question (eCons (eVar 0) eNil)))
    (sSeq (sExpr (eCall 2 F_check_text (eCons (eVar 1) (eCons (eOp oIx (eVar 0) (eC (.int 0))) eNil))))
    (sSeq (sRet (eCall 3 F_state_from (eCons (eOp oIx (eVar 0) (eC (.int 1))) (eCons (eC (.int 0)) (eCons (eVar 1) eNil)))))
    sNil)))
def F_state_of : On' := defA 2 S_state_of
set_option maxHeartbeats 16000000 in
theorem ok_state_of {fa : Addr} {fd : FuncData} (T : Txt w K mg) (G_check_question : FnX P w K mg Tb base "check_question" 4 1 F_check_question) (G_check_text : FnX P w K mg Tb base "check_text" 4 2 F_check_text) (G_state_from : FnX P w K mg Tb base "state_from" 1 3 F_state_from) (F : Fun K "state_of" "state_of" s_state_of fa fd) (hm : mg "state_of" = some (.ref fa)) : FnX P w K mg Tb base "state_of" 5 2 F_state_of := by
  refine ⟨fa, fd, ["question", "text"], fn_A (k := 4) F sc_state_of (fun cdv A outer s₀ H E hr => ?_), hm, F.kp, F.binds (ps := ["question", "text"]) fun _ _ _ _ _ _ us hl => match us, hl with | [_, _], _ => rfl⟩
  unfold S_state_of
  exact (ass_cons (as_expr (ae_callX G_check_question (hr.mono (by first | decide | omega)) (takes_of rfl rfl rfl rfl) (aa_cons (ae_v 0) aa_nil)))
    (ass_cons (as_expr (ae_callX G_check_text (hr.mono (by first | decide | omega)) (takes_of rfl rfl rfl rfl) (aa_cons (ae_v 1) (aa_cons (ae_ix (ae_v 0) ae_int) aa_nil))))
    (ass_cons (as_ret (ae_callX G_state_from (hr.mono (by first | decide | omega)) (takes_of rfl rfl rfl rfl) (aa_cons (ae_ix (ae_v 0) ae_int) (aa_cons ae_int (aa_cons (ae_v 1) aa_nil)))))
    ass_nil)))
abbrev s_answer : Stmt := topS 39
theorem sc_answer : FnScope ["question", "text", "state"] ["question", "text"] (defScope s_answer) := ⟨rfl, rfl, rfl, by decide +kernel, rfl, by decide +kernel, by decide +kernel⟩
def S_answer : SF :=
  (sSeq (sAsg (.nm 2) (eCall 2 F_state_of (eCons (eVar 0) (eCons (eVar 1) eNil))))
    (sSeq (sRet (eOp oIx (eOp oIx (eVar 0) (eC (.int 2))) (eVar 2)))
    sNil))
def F_answer : On' := defA 3 S_answer
set_option maxHeartbeats 16000000 in
theorem ok_answer {fa : Addr} {fd : FuncData} (T : Txt w K mg) (G_state_of : FnX P w K mg Tb base "state_of" 5 2 F_state_of) (F : Fun K "answer" "answer" s_answer fa fd) (hm : mg "answer" = some (.ref fa)) : FnX P w K mg Tb base "answer" 6 2 F_answer := by
  refine ⟨fa, fd, ["question", "text"], fn_A (k := 5) F sc_answer (fun cdv A outer s₀ H E hr => ?_), hm, F.kp, F.binds (ps := ["question", "text"]) fun _ _ _ _ _ _ us hl => match us, hl with | [_, _], _ => rfl⟩
  unfold S_answer
  exact (ass_cons (as_set 2 sc_answer.nd (ae_callX G_state_of (hr.mono (by first | decide | omega)) (takes_of rfl rfl rfl rfl) (aa_cons (ae_v 0) (aa_cons (ae_v 1) aa_nil))))
    (ass_cons (as_ret (ae_ix (ae_ix (ae_v 0) ae_int) (ae_v 2)))
    ass_nil))
abbrev s_can_keep : Stmt := topS 74
theorem sc_can_keep : FnScope ["world", "question"] ["world", "question"] (defScope s_can_keep) := ⟨rfl, rfl, rfl, by decide +kernel, rfl, by decide +kernel, by decide +kernel⟩
def S_can_keep : SF :=
  (sSeq (sExpr (eCall 1 F_check_world (eCons (eVar 0) eNil)))
    (sSeq (sExpr (eCall 1 F_check_question (eCons (eVar 1) eNil)))
    (sSeq (sRet (eCall 2 F_is_kept (eCons (eVar 0) (eCons (eCallD 2 F_least_of [.non] (eCons (eVar 1) eNil)) eNil))))
    sNil)))
def F_can_keep : On' := defA 2 S_can_keep
set_option maxHeartbeats 16000000 in
theorem ok_can_keep {fa : Addr} {fd : FuncData} (T : Txt w K mg) (G_check_world : FnX P w K mg Tb base "check_world" 1 1 F_check_world) (G_check_question : FnX P w K mg Tb base "check_question" 4 1 F_check_question) (G_is_kept : FnX P w K mg Tb base "is_kept" 2 2 F_is_kept) (G_least_of : FnXD P w K mg Tb base "least_of" 3 2 [.non] F_least_of) (F : Fun K "can_keep" "can_keep" s_can_keep fa fd) (hm : mg "can_keep" = some (.ref fa)) : FnX P w K mg Tb base "can_keep" 5 2 F_can_keep := by
  refine ⟨fa, fd, ["world", "question"], fn_A (k := 4) F sc_can_keep (fun cdv A outer s₀ H E hr => ?_), hm, F.kp, F.binds (ps := ["world", "question"]) fun _ _ _ _ _ _ us hl => match us, hl with | [_, _], _ => rfl⟩
  unfold S_can_keep
  exact (ass_cons (as_expr (ae_callX G_check_world (hr.mono (by first | decide | omega)) (takes_of rfl rfl rfl rfl) (aa_cons (ae_v 0) aa_nil)))
    (ass_cons (as_expr (ae_callX G_check_question (hr.mono (by first | decide | omega)) (takes_of rfl rfl rfl rfl) (aa_cons (ae_v 1) aa_nil)))
    (ass_cons (as_ret (ae_callX G_is_kept (hr.mono (by first | decide | omega)) (takes_of rfl rfl rfl rfl) (aa_cons (ae_v 0) (aa_cons (ae_callXD G_least_of (hr.mono (by first | decide | omega)) (takes_of rfl rfl rfl rfl) (aa_cons (ae_v 1) aa_nil)) aa_nil))))
    ass_nil)))
abbrev s_merge_reason : Stmt := topS 88
theorem sc_merge_reason : FnScope ["small", "firsts", "tails", "letter", "letters", "steps", "_", "known", "state", "row", "other"] ["small"] (defScope s_merge_reason) := ⟨rfl, rfl, rfl, by decide +kernel, rfl, by decide +kernel, by decide +kernel⟩
def S_merge_reason : SF :=
  (sSeq (sAsg (.tp [(.nm 4), (.nm 5), (.nm 6)]) (eVar 0))
    (sSeq (sAsg (.nm 1) (eCall 1 F_first_texts (eCons (eVar 0) eNil)))
    (sSeq (sAsg (.nm 2) (eCall 1 F_parting_texts (eCons (eVar 0) eNil)))
    (sSeq (sFor (iRng1 (eCons (eVar 4) eNil)) (.nm 3) (sSeq (sAsg (.nm 7) eNewK)
    (sSeq (sFor (iEnumA (eCons (eVar 5) eNil)) (.tp [(.nm 8), (.nm 9)]) (sSeq (sAsg (.nm 10) (eSetdK (eVar 7) (eOp oIx (eVar 9) (eVar 3)) (eVar 8)))
    (sSeq (sIf (eB (eOp oNe (eVar 10) (eVar 8))) (sSeq (sRet (eTup (eCons (eC (.str (Str.ofString "merge"))) (eCons (eOp oDget (eVar 1) (eVar 10)) (eCons (eOp oDget (eVar 1) (eVar 8)) (eCons (eVar 3) (eCons (eOp oDget (eVar 2) (eTup (eCons (eVar 10) (eCons (eVar 8) eNil)))) eNil)))))))
    sNil) sNil)
    sNil)))
    sNil)))
    (sSeq (sRet (eC .non))
    sNil)))))
def F_merge_reason : On' := defA 11 S_merge_reason
set_option maxHeartbeats 16000000 in
theorem ok_merge_reason {fa : Addr} {fd : FuncData} (T : Txt w K mg) (G_first_texts : FnX P w K mg Tb base "first_texts" 3 1 F_first_texts) (G_parting_texts : FnX P w K mg Tb base "parting_texts" 1 1 F_parting_texts) (F : Fun K "merge_reason" "merge_reason" s_merge_reason fa fd) (hm : mg "merge_reason" = some (.ref fa)) : FnX P w K mg Tb base "merge_reason" 4 1 F_merge_reason := by
  refine ⟨fa, fd, ["small"], fn_A (k := 3) F sc_merge_reason (fun cdv A outer s₀ H E hr => ?_), hm, F.kp, F.binds (ps := ["small"]) fun _ _ _ _ _ _ us hl => match us, hl with | [_], _ => rfl⟩
  unfold S_merge_reason
  exact (ass_cons (as_asg (ae_v 0) (ag_tp rfl (ags_cons (ag_nm 4 sc_merge_reason.nd) (ags_cons (ag_nm 5 sc_merge_reason.nd) (ags_cons (ag_nm 6 sc_merge_reason.nd) ags_nil)))))
    (ass_cons (as_set 1 sc_merge_reason.nd (ae_callX G_first_texts (hr.mono (by first | decide | omega)) (takes_of rfl rfl rfl rfl) (aa_cons (ae_v 0) aa_nil)))
    (ass_cons (as_set 2 sc_merge_reason.nd (ae_callX G_parting_texts (hr.mono (by first | decide | omega)) (takes_of rfl rfl rfl rfl) (aa_cons (ae_v 0) aa_nil)))
    (ass_cons (as_for (passes_of rfl) rfl (ai_rng1 T.b_range (aa_cons (ae_v 4) aa_nil)) (ag_nm 3 sc_merge_reason.nd) (ass_cons (as_set 7 sc_merge_reason.nd ae_newK)
    (ass_cons (as_for (passes_of rfl) rfl (ai_enum T.b_enumerate (aa_cons (ae_v 5) aa_nil)) (ag_tp rfl (ags_cons (ag_nm 8 sc_merge_reason.nd) (ags_cons (ag_nm 9 sc_merge_reason.nd) ags_nil))) (ass_cons (as_set 10 sc_merge_reason.nd (ae_setdK (ae_v 7) (ae_ix (ae_v 9) (ae_v 3)) (ae_v 8)))
    (ass_cons (as_if (at_cmp (op_neA (hu64 hr)) (ae_v 10) (ae_v 8)) (ass_cons (as_ret (ae_tup (aa_cons ae_str (aa_cons (ae_dget (hu1 hr) (ae_v 1) (ae_v 10)) (aa_cons (ae_dget (hu1 hr) (ae_v 1) (ae_v 8)) (aa_cons (ae_v 3) (aa_cons (ae_dget (hu1 hr) (ae_v 2) (ae_tup (aa_cons (ae_v 10) (aa_cons (ae_v 8) aa_nil)))) aa_nil)))))))
    ass_nil) ass_nil)
    ass_nil)))
    ass_nil)))
    (ass_cons (as_ret ae_non)
    ass_nil)))))
abbrev s_reason : Stmt := topS 94
theorem sc_reason : FnScope ["world", "question", "small"] ["world", "question"] (defScope s_reason) := ⟨rfl, rfl, rfl, by decide +kernel, rfl, by decide +kernel, by decide +kernel⟩
def S_reason : SF :=
  (sSeq (sExpr (eCall 1 F_check_world (eCons (eVar 0) eNil)))
    (sSeq (sExpr (eCall 1 F_check_question (eCons (eVar 1) eNil)))
    (sSeq (sAsg (.nm 2) (eCallD 2 F_least_of [.non] (eCons (eVar 1) eNil)))
    (sSeq (sIf (eT (eCall 2 F_is_kept (eCons (eVar 0) (eCons (eVar 2) eNil)))) (sSeq (sRet (eC .non))
    sNil) sNil)
    (sSeq (sIf (bAnd (eB (eInK false (eVar 0) (kC tt_PLACELESS))) (bNot (eT (eCall 1 F_is_commuting (eCons (eVar 2) eNil))))) (sSeq (sRet (eCall 1 F_order_reason (eCons (eVar 2) eNil)))
    sNil) sNil)
    (sSeq (sRet (eCall 1 F_merge_reason (eCons (eVar 2) eNil)))
    sNil))))))
def F_reason : On' := defA 3 S_reason
set_option maxHeartbeats 16000000 in
theorem ok_reason {fa : Addr} {fd : FuncData} (T : Txt w K mg) (G_check_world : FnX P w K mg Tb base "check_world" 1 1 F_check_world) (G_check_question : FnX P w K mg Tb base "check_question" 4 1 F_check_question) (G_least_of : FnXD P w K mg Tb base "least_of" 3 2 [.non] F_least_of) (G_is_kept : FnX P w K mg Tb base "is_kept" 2 2 F_is_kept) (G_is_commuting : FnX P w K mg Tb base "is_commuting" 1 1 F_is_commuting) (G_order_reason : FnX P w K mg Tb base "order_reason" 4 1 F_order_reason) (G_merge_reason : FnX P w K mg Tb base "merge_reason" 4 1 F_merge_reason) (F : Fun K "reason" "reason" s_reason fa fd) (hm : mg "reason" = some (.ref fa)) : FnX P w K mg Tb base "reason" 5 2 F_reason := by
  refine ⟨fa, fd, ["world", "question"], fn_A (k := 4) F sc_reason (fun cdv A outer s₀ H E hr => ?_), hm, F.kp, F.binds (ps := ["world", "question"]) fun _ _ _ _ _ _ us hl => match us, hl with | [_, _], _ => rfl⟩
  unfold S_reason
  exact (ass_cons (as_expr (ae_callX G_check_world (hr.mono (by first | decide | omega)) (takes_of rfl rfl rfl rfl) (aa_cons (ae_v 0) aa_nil)))
    (ass_cons (as_expr (ae_callX G_check_question (hr.mono (by first | decide | omega)) (takes_of rfl rfl rfl rfl) (aa_cons (ae_v 1) aa_nil)))
    (ass_cons (as_set 2 sc_reason.nd (ae_callXD G_least_of (hr.mono (by first | decide | omega)) (takes_of rfl rfl rfl rfl) (aa_cons (ae_v 1) aa_nil)))
    (ass_cons (as_if (at_val (ae_callX G_is_kept (hr.mono (by first | decide | omega)) (takes_of rfl rfl rfl rfl) (aa_cons (ae_v 0) (aa_cons (ae_v 2) aa_nil)))) (ass_cons (as_ret ae_non)
    ass_nil) ass_nil)
    (ass_cons (as_if (AW.at (aw_and (at_inK (ae_v 0) (ak_nm T.g_PLACELESS.choose_spec.1 T.g_PLACELESS.choose_spec.2)) (aw_and1 (at_not (at_val (ae_callX G_is_commuting (hr.mono (by first | decide | omega)) (takes_of rfl rfl rfl rfl) (aa_cons (ae_v 2) aa_nil))))))) (ass_cons (as_ret (ae_callX G_order_reason (hr.mono (by first | decide | omega)) (takes_of rfl rfl rfl rfl) (aa_cons (ae_v 2) aa_nil)))
    ass_nil) ass_nil)
    (ass_cons (as_ret (ae_callX G_merge_reason (hr.mono (by first | decide | omega)) (takes_of rfl rfl rfl rfl) (aa_cons (ae_v 2) aa_nil)))
    ass_nil))))))
abbrev s_numbered : Stmt := topS 35
theorem sc_numbered : FnScope ["start", "moves", "most", "memories", "numbers", "steps", "memory", "row", "move", "reached", "place", "table"] ["start", "moves", "most"] (defScope s_numbered) := ⟨rfl, rfl, rfl, by decide +kernel, rfl, by decide +kernel, by decide +kernel⟩
def S_numbered : SF :=
  (sSeq (sAsg (.nm 3) (eLst (eCons (eVar 0) eNil)))
    (sSeq (sAsg (.nm 4) (eDispT (eVar 0) (eC (.int 0))))
    (sSeq (sAsg (.nm 5) (eLst eNil))
    (sSeq (fun τ M => whileA (eB (eOp oLt (eFn oLenN (eCons (eVar 5) eNil)) (eFn oLenN (eCons (eVar 3) eNil)))) (sSeq (sAsg (.nm 6) (eOp oIx (eVar 3) (eFn oLenN (eCons (eVar 5) eNil))))
    (sSeq (sAsg (.nm 7) (eLst eNil))
    (sSeq (sFor (iSeq (eVar 1)) (.nm 8) (sSeq (sAsg (.nm 9) (eFn oTuple (eCons (eLc (iSeq (eVar 8)) (.tp [(.nm 10), (.nm 11)]) bYes (eOp oIx (eVar 11) (eOp oIx (eVar 6) (eVar 10))) [10, 11]) eNil)))
    (sSeq (sIf (eB (eOp oNotIn (eVar 9) (eVar 4))) (sSeq (sDput (eVar 4) (eVar 9) (eFn oLenN (eCons (eVar 3) eNil)))
    (sSeq (sExpr (eMeth oAppend (eVar 3) (eCons (eVar 9) eNil)))
    sNil)) sNil)
    (sSeq (sExpr (eMeth oAppend (eVar 7) (eCons (eOp oDget (eVar 4) (eVar 9)) eNil)))
    sNil))))
    (sSeq (sIf (eB (eOp oGt (eFn oLenN (eCons (eVar 3) eNil)) (eVar 2))) sBad sNil)
    (sSeq (sExpr (eMeth oAppend (eVar 5) (eCons (eFn oTuple (eCons (eVar 7) eNil)) eNil)))
    sNil))))) fuel τ M)
    (sSeq (sRet (eTup (eCons (eFn oTuple (eCons (eVar 5) eNil)) (eCons (eVar 3) eNil))))
    sNil)))))
def F_numbered : On' := defA 12 S_numbered
set_option maxHeartbeats 16000000 in
theorem ok_numbered {fa : Addr} {fd : FuncData} (T : Txt w K mg)  (F : Fun K "numbered" "numbered" s_numbered fa fd) (hm : mg "numbered" = some (.ref fa)) : FnX P w K mg Tb base "numbered" 1 3 F_numbered := by
  refine ⟨fa, fd, ["start", "moves", "most"], fn_A (k := 0) F sc_numbered (fun cdv A outer s₀ H E hr => ?_), hm, F.kp, F.binds (ps := ["start", "moves", "most"]) fun _ _ _ _ _ _ us hl => match us, hl with | [_, _, _], _ => rfl⟩
  unfold S_numbered
  exact (ass_cons (as_set 3 sc_numbered.nd (ae_lst (aa_cons (ae_v 0) aa_nil)))
    (ass_cons (as_set 4 sc_numbered.nd (ae_dispT (hu1 hr) (ae_v 0) ae_int))
    (ass_cons (as_set 5 sc_numbered.nd (ae_lst aa_nil))
    (ass_cons (as_while (fun _ _ => fuel) (passes_of rfl) (at_cmp (op_ltA) (ae_B cr_lenN T.b_len (aa_cons (ae_v 5) aa_nil)) (ae_B cr_lenN T.b_len (aa_cons (ae_v 3) aa_nil))) (ass_cons (as_set 6 sc_numbered.nd (ae_ix (ae_v 3) (ae_B cr_lenN T.b_len (aa_cons (ae_v 5) aa_nil))))
    (ass_cons (as_set 7 sc_numbered.nd (ae_lst aa_nil))
    (ass_cons (as_for (passes_of rfl) rfl (ai_seq (ae_v 1)) (ag_nm 8 sc_numbered.nd) (ass_cons (as_set 9 sc_numbered.nd (ae_Ty cr_tuple T.b_tuple (aa_cons (ae_lc [("place", 10), ("table", 11)] rfl sc_numbered.nd (blkOk_by rfl) (by decide) (ai_seq (ae_v 8)) (fun _ _ _ _ _ => (ag_tp rfl (ags_cons (ag_nm 10 sc_numbered.nd) (ags_cons (ag_nm 11 sc_numbered.nd) ags_nil)))) (fun _ _ _ _ _ => ats_nil) (fun _ _ _ _ _ => (ae_ix (ae_v 11) (ae_ix (ae_v 6) (ae_v 10))))) aa_nil)))
    (ass_cons (as_if (at_cmp (op_notInA (hu65 hr)) (ae_v 9) (ae_v 4)) (ass_cons (as_dput (hu1 hr) (ae_v 4) (ae_v 9) (ae_B cr_lenN T.b_len (aa_cons (ae_v 3) aa_nil)))
    (ass_cons (as_expr (ae_append (ae_v 3) (aa_cons (ae_v 9) aa_nil)))
    ass_nil)) ass_nil)
    (ass_cons (as_expr (ae_append (ae_v 7) (aa_cons (ae_dget (hu1 hr) (ae_v 4) (ae_v 9)) aa_nil)))
    ass_nil))))
    (ass_cons (as_if (at_cmp (op_gtA) (ae_B cr_lenN T.b_len (aa_cons (ae_v 3) aa_nil)) (ae_v 2)) ass_never ass_nil)
    (ass_cons (as_expr (ae_append (ae_v 5) (aa_cons (ae_Ty cr_tuple T.b_tuple (aa_cons (ae_v 7) aa_nil)) aa_nil)))
    ass_nil))))))
    (ass_cons (as_ret (ae_tup (aa_cons (ae_Ty cr_tuple T.b_tuple (aa_cons (ae_v 5) aa_nil)) (aa_cons (ae_v 3) aa_nil))))
    ass_nil)))))
abbrev s_behind_move : Stmt := topS 30
theorem sc_behind_move : FnScope ["table", "many", "place"] ["table", "many"] (defScope s_behind_move) := ⟨rfl, rfl, rfl, by decide +kernel, rfl, by decide +kernel, by decide +kernel⟩
def S_behind_move : SF :=
  (sSeq (sRet (eFn oTuple (eCons (eLc (iRng1 (eCons (eVar 1) eNil)) (.nm 2) bYes (eTup (eCons (eVar 2) (eCons (eVar 0) eNil))) [2]) eNil)))
    sNil)
def F_behind_move : On' := defA 3 S_behind_move
set_option maxHeartbeats 16000000 in
theorem ok_behind_move {fa : Addr} {fd : FuncData} (T : Txt w K mg)  (F : Fun K "behind_move" "behind_move" s_behind_move fa fd) (hm : mg "behind_move" = some (.ref fa)) : FnX P w K mg Tb base "behind_move" 1 2 F_behind_move := by
  refine ⟨fa, fd, ["table", "many"], fn_A (k := 0) F sc_behind_move (fun cdv A outer s₀ H E hr => ?_), hm, F.kp, F.binds (ps := ["table", "many"]) fun _ _ _ _ _ _ us hl => match us, hl with | [_, _], _ => rfl⟩
  unfold S_behind_move
  exact (ass_cons (as_ret (ae_Ty cr_tuple T.b_tuple (aa_cons (ae_lc [("place", 2)] rfl sc_behind_move.nd (blkOk_by rfl) (by decide) (ai_rng1 T.b_range (aa_cons (ae_v 1) aa_nil)) (fun _ _ _ _ _ => (ag_nm 2 sc_behind_move.nd)) (fun _ _ _ _ _ => ats_nil) (fun _ _ _ _ _ => (ae_tup (aa_cons (ae_v 2) (aa_cons (ae_v 0) aa_nil))))) aa_nil)))
    ass_nil)
abbrev s_relabellings : Stmt := topS 34
theorem sc_relabellings : FnScope ["letters"] ["letters"] (defScope s_relabellings) := ⟨rfl, rfl, rfl, by decide +kernel, rfl, by decide +kernel, by decide +kernel⟩
def S_relabellings : SF :=
  (sSeq (sRet (eListPerm (g1 (eVar 0))))
    sNil)
def F_relabellings : On' := defA 1 S_relabellings
set_option maxHeartbeats 16000000 in
theorem ok_relabellings {fa : Addr} {fd : FuncData} (T : Txt w K mg)  (F : Fun K "relabellings" "relabellings" s_relabellings fa fd) (hm : mg "relabellings" = some (.ref fa)) : FnX P w K mg Tb base "relabellings" 1 1 F_relabellings := by
  refine ⟨fa, fd, ["letters"], fn_A (k := 0) F sc_relabellings (fun cdv A outer s₀ H E hr => ?_), hm, F.kp, F.binds (ps := ["letters"]) fun _ _ _ _ _ _ us hl => match us, hl with | [_], _ => rfl⟩
  unfold S_relabellings
  exact (ass_cons (as_ret (ae_listPerm rfl T.b_list T.p_permutations (ar_1 T.b_range (ae_v 0))))
    ass_nil)
abbrev s_table_of : Stmt := topS 29
theorem sc_table_of : FnScope ["small", "message", "forward", "back", "word", "letter", "state", "reached", "row"] ["small", "message"] (defScope s_table_of) := ⟨rfl, rfl, rfl, by decide +kernel, rfl, by decide +kernel, by decide +kernel⟩
def S_table_of : SF :=
  (sSeq (sAsg (.tp [(.nm 4), (.nm 5)]) (eVar 1))
    (sSeq (sAsg (.nm 2) (eFn oTuple (eCons (eLc (iSeq (eOp oIx (eVar 0) (eC (.int 1)))) (.nm 8) bYes (eOp oIx (eVar 8) (eVar 5)) [8]) eNil)))
    (sSeq (sIf (eB (eOp oIn (eVar 4) (eTup (eCons (eC (.str (Str.ofString "put"))) (eCons (eC (.str (Str.ofString "front"))) eNil))))) (sSeq (sRet (eVar 2))
    sNil) sNil)
    (sSeq (sAsg (.nm 3) (eOp oMul (eLst (eCons (eC (.int 0)) eNil)) (eFn oLenN (eCons (eVar 2) eNil))))
    (sSeq (sFor (iEnumA (eCons (eVar 2) eNil)) (.tp [(.nm 6), (.nm 7)]) (sSeq (sSetL (eVar 3) (eVar 7) (eVar 6))
    sNil))
    (sSeq (sRet (eFn oTuple (eCons (eVar 3) eNil)))
    sNil))))))
def F_table_of : On' := defA 9 S_table_of
set_option maxHeartbeats 16000000 in
theorem ok_table_of {fa : Addr} {fd : FuncData} (T : Txt w K mg)  (F : Fun K "table_of" "table_of" s_table_of fa fd) (hm : mg "table_of" = some (.ref fa)) : FnX P w K mg Tb base "table_of" 1 2 F_table_of := by
  refine ⟨fa, fd, ["small", "message"], fn_A (k := 0) F sc_table_of (fun cdv A outer s₀ H E hr => ?_), hm, F.kp, F.binds (ps := ["small", "message"]) fun _ _ _ _ _ _ us hl => match us, hl with | [_, _], _ => rfl⟩
  unfold S_table_of
  exact (ass_cons (as_asg (ae_v 1) (ag_tp rfl (ags_cons (ag_nm 4 sc_table_of.nd) (ags_cons (ag_nm 5 sc_table_of.nd) ags_nil))))
    (ass_cons (as_set 2 sc_table_of.nd (ae_Ty cr_tuple T.b_tuple (aa_cons (ae_lc [("row", 8)] rfl sc_table_of.nd (blkOk_by rfl) (by decide) (ai_seq (ae_ix (ae_v 0) ae_int)) (fun _ _ _ _ _ => (ag_nm 8 sc_table_of.nd)) (fun _ _ _ _ _ => ats_nil) (fun _ _ _ _ _ => (ae_ix (ae_v 8) (ae_v 5)))) aa_nil)))
    (ass_cons (as_if (at_cmp (op_inA (hu65 hr)) (ae_v 4) (ae_tup (aa_cons ae_str (aa_cons ae_str aa_nil)))) (ass_cons (as_ret (ae_v 2))
    ass_nil) ass_nil)
    (ass_cons (as_set 3 sc_table_of.nd (ae_op op_mulA (ae_lst (aa_cons ae_int aa_nil)) (ae_B cr_lenN T.b_len (aa_cons (ae_v 2) aa_nil))))
    (ass_cons (as_for (passes_of rfl) rfl (ai_enum T.b_enumerate (aa_cons (ae_v 2) aa_nil)) (ag_tp rfl (ags_cons (ag_nm 6 sc_table_of.nd) (ags_cons (ag_nm 7 sc_table_of.nd) ags_nil))) (ass_cons (as_setL (ae_v 3) (ae_v 7) (ae_v 6))
    ass_nil))
    (ass_cons (as_ret (ae_Ty cr_tuple T.b_tuple (aa_cons (ae_v 3) aa_nil)))
    ass_nil))))))
abbrev s_relabel_move : Stmt := topS 33
theorem sc_relabel_move : FnScope ["small", "message", "rows", "still", "joined", "row", "letter", "place"] ["small", "message"] (defScope s_relabel_move) := ⟨rfl, rfl, rfl, by decide +kernel, rfl, by decide +kernel, by decide +kernel⟩
def S_relabel_move : SF :=
  (sSeq (sAsg (.nm 2) (eCall 1 F_relabellings (eCons (eOp oIx (eVar 0) (eC (.int 0))) eNil)))
    (sSeq (sIf (eB (eOp oEq (eOp oIx (eVar 1) (eC (.int 0))) (eC (.str (Str.ofString "put"))))) (sSeq (sRet (eFn oTuple (eCons (eLc (iEnumA (eCons (eVar 2) eNil)) (.tp [(.nm 7), (.nm 5)]) bYes (eTup (eCons (eVar 7) (eCons (eCall 2 F_table_of (eCons (eVar 0) (eCons (eTup (eCons (eC (.str (Str.ofString "put"))) (eCons (eOp oIx (eVar 5) (eOp oIx (eVar 1) (eC (.int 1)))) eNil))) eNil))) eNil))) [7, 5]) eNil)))
    sNil) sNil)
    (sSeq (sAsg (.nm 3) (eTrg (g1 (eFn oLenN (eCons (eOp oIx (eVar 0) (eC (.int 1))) eNil)))))
    (sSeq (sAsg (.nm 4) (eLc (iSeq (eVar 2)) (.nm 5) bYes (eFn oTuple (eCons (eLc (iSeq (eOp oIx (eVar 1) (eC (.int 1)))) (.nm 6) bYes (eOp oIx (eVar 5) (eVar 6)) [6]) eNil)) [5]))
    (sSeq (sRet (eFn oTuple (eCons (eLc (iSeq (eVar 4)) (.nm 5) bYes (eTup (eCons (eMeth oIndexD (eVar 2) (eCons (eVar 5) eNil)) (eCons (eVar 3) eNil))) [5]) eNil)))
    sNil)))))
def F_relabel_move : On' := defA 8 S_relabel_move
set_option maxHeartbeats 16000000 in
theorem ok_relabel_move {fa : Addr} {fd : FuncData} (T : Txt w K mg) (G_relabellings : FnX P w K mg Tb base "relabellings" 1 1 F_relabellings) (G_table_of : FnX P w K mg Tb base "table_of" 1 2 F_table_of) (F : Fun K "relabel_move" "relabel_move" s_relabel_move fa fd) (hm : mg "relabel_move" = some (.ref fa)) : FnX P w K mg Tb base "relabel_move" 2 2 F_relabel_move := by
  refine ⟨fa, fd, ["small", "message"], fn_A (k := 1) F sc_relabel_move (fun cdv A outer s₀ H E hr => ?_), hm, F.kp, F.binds (ps := ["small", "message"]) fun _ _ _ _ _ _ us hl => match us, hl with | [_, _], _ => rfl⟩
  unfold S_relabel_move
  exact (ass_cons (as_set 2 sc_relabel_move.nd (ae_callX G_relabellings (hr.mono (by first | decide | omega)) (takes_of rfl rfl rfl rfl) (aa_cons (ae_ix (ae_v 0) ae_int) aa_nil)))
    (ass_cons (as_if (at_cmp (op_eqA (hu64 hr)) (ae_ix (ae_v 1) ae_int) ae_str) (ass_cons (as_ret (ae_Ty cr_tuple T.b_tuple (aa_cons (ae_lc [("place", 7), ("row", 5)] rfl sc_relabel_move.nd (blkOk_by rfl) (by decide) (ai_enum T.b_enumerate (aa_cons (ae_v 2) aa_nil)) (fun _ _ _ _ _ => (ag_tp rfl (ags_cons (ag_nm 7 sc_relabel_move.nd) (ags_cons (ag_nm 5 sc_relabel_move.nd) ags_nil)))) (fun _ _ _ _ _ => ats_nil) (fun _ _ _ _ _ => (ae_tup (aa_cons (ae_v 7) (aa_cons (ae_callX G_table_of (hr.mono (by first | decide | omega)) takes0 (aa_cons (ae_v 0) (aa_cons (ae_tup (aa_cons ae_str (aa_cons (ae_ix (ae_v 5) (ae_ix (ae_v 1) ae_int)) aa_nil))) aa_nil))) aa_nil))))) aa_nil)))
    ass_nil) ass_nil)
    (ass_cons (as_set 3 sc_relabel_move.nd (ae_trg rfl T.b_tuple (ar_1 T.b_range (ae_B cr_lenN T.b_len (aa_cons (ae_ix (ae_v 0) ae_int) aa_nil)))))
    (ass_cons (as_setLc 4 [("row", 5)] rfl sc_relabel_move.nd (sw_true rfl rfl rfl (by decide +kernel)) (blkOk_by rfl) (by decide) (ai_seq (ae_v 2)) (fun _ _ _ _ _ => (ag_nm 5 sc_relabel_move.nd)) (fun _ _ _ _ _ => ats_nil) (fun _ _ _ _ _ => (ae_Ty cr_tuple T.b_tuple (aa_cons (ae_lc [("letter", 6)] rfl sc_relabel_move.nd (blkOk_by rfl) (by decide) (ai_seq (ae_ix (ae_v 1) ae_int)) (fun _ _ _ _ _ => (ag_nm 6 sc_relabel_move.nd)) (fun _ _ _ _ _ => ats_nil) (fun _ _ _ _ _ => (ae_ix (ae_v 5) (ae_v 6)))) aa_nil))))
    (ass_cons (as_ret (ae_Ty cr_tuple T.b_tuple (aa_cons (ae_lc [("row", 5)] rfl sc_relabel_move.nd (blkOk_by rfl) (by decide) (ai_seq (ae_v 4)) (fun _ _ _ _ _ => (ag_nm 5 sc_relabel_move.nd)) (fun _ _ _ _ _ => ats_nil) (fun _ _ _ _ _ => (ae_tup (aa_cons (ae_indexD (hu65 hr) (ae_v 2) (aa_cons (ae_v 5) aa_nil)) (aa_cons (ae_v 3) aa_nil))))) aa_nil)))
    ass_nil)))))
abbrev s_ahead_move : Stmt := topS 31
theorem sc_ahead_move : FnScope ["table", "start", "still", "state"] ["table", "start"] (defScope s_ahead_move) := ⟨rfl, rfl, rfl, by decide +kernel, rfl, by decide +kernel, by decide +kernel⟩
def S_ahead_move : SF :=
  (sSeq (sAsg (.nm 2) (eTrg (g1 (eFn oLenN (eCons (eVar 0) eNil)))))
    (sSeq (sRet (eFn oTuple (eCons (eLc (iSeq (eVar 0)) (.nm 3) bYes (eTup (eCons (eOp oAdd (eVar 1) (eVar 3)) (eCons (eVar 2) eNil))) [3]) eNil)))
    sNil))
def F_ahead_move : On' := defA 4 S_ahead_move
set_option maxHeartbeats 16000000 in
theorem ok_ahead_move {fa : Addr} {fd : FuncData} (T : Txt w K mg)  (F : Fun K "ahead_move" "ahead_move" s_ahead_move fa fd) (hm : mg "ahead_move" = some (.ref fa)) : FnX P w K mg Tb base "ahead_move" 1 2 F_ahead_move := by
  refine ⟨fa, fd, ["table", "start"], fn_A (k := 0) F sc_ahead_move (fun cdv A outer s₀ H E hr => ?_), hm, F.kp, F.binds (ps := ["table", "start"]) fun _ _ _ _ _ _ us hl => match us, hl with | [_, _], _ => rfl⟩
  unfold S_ahead_move
  exact (ass_cons (as_set 2 sc_ahead_move.nd (ae_trg rfl T.b_tuple (ar_1 T.b_range (ae_B cr_lenN T.b_len (aa_cons (ae_v 0) aa_nil)))))
    (ass_cons (as_ret (ae_Ty cr_tuple T.b_tuple (aa_cons (ae_lc [("state", 3)] rfl sc_ahead_move.nd (blkOk_by rfl) (by decide) (ai_seq (ae_v 0)) (fun _ _ _ _ _ => (ag_nm 3 sc_ahead_move.nd)) (fun _ _ _ _ _ => ats_nil) (fun _ _ _ _ _ => (ae_tup (aa_cons (ae_op op_addA (ae_v 1) (ae_v 3)) (aa_cons (ae_v 2) aa_nil))))) aa_nil)))
    ass_nil))
abbrev s_reverse_move : Stmt := topS 32
theorem sc_reverse_move : FnScope ["small", "message", "many", "still", "table", "place"] ["small", "message"] (defScope s_reverse_move) := ⟨rfl, rfl, rfl, by decide +kernel, rfl, by decide +kernel, by decide +kernel⟩
def S_reverse_move : SF :=
  (sSeq (sAsg (.nm 2) (eFn oLenN (eCons (eOp oIx (eVar 0) (eC (.int 1))) eNil)))
    (sSeq (sIf (eB (eOp oEq (eOp oIx (eVar 1) (eC (.int 0))) (eC (.str (Str.ofString "put"))))) (sSeq (sAsg (.nm 4) (eCall 2 F_table_of (eCons (eVar 0) (eCons (eVar 1) eNil))))
    (sSeq (sRet (eOp oAdd (eCall 2 F_behind_move (eCons (eVar 4) (eCons (eVar 2) eNil))) (eCall 2 F_ahead_move (eCons (eVar 4) (eCons (eVar 2) eNil)))))
    sNil)) sNil)
    (sSeq (sAsg (.nm 3) (eTrg (g1 (eVar 2))))
    (sSeq (sRet (eFn oTuple (eCons (eLc (iRng1 (eCons (eOp oMul (eC (.int 2)) (eVar 2)) eNil)) (.nm 5) bYes (eTup (eCons (eOp oMod (eOp oAdd (eVar 2) (eVar 5)) (eOp oMul (eC (.int 2)) (eVar 2))) (eCons (eVar 3) eNil))) [5]) eNil)))
    sNil))))
def F_reverse_move : On' := defA 6 S_reverse_move
set_option maxHeartbeats 16000000 in
theorem ok_reverse_move {fa : Addr} {fd : FuncData} (T : Txt w K mg) (G_table_of : FnX P w K mg Tb base "table_of" 1 2 F_table_of) (G_behind_move : FnX P w K mg Tb base "behind_move" 1 2 F_behind_move) (G_ahead_move : FnX P w K mg Tb base "ahead_move" 1 2 F_ahead_move) (F : Fun K "reverse_move" "reverse_move" s_reverse_move fa fd) (hm : mg "reverse_move" = some (.ref fa)) : FnX P w K mg Tb base "reverse_move" 2 2 F_reverse_move := by
  refine ⟨fa, fd, ["small", "message"], fn_A (k := 1) F sc_reverse_move (fun cdv A outer s₀ H E hr => ?_), hm, F.kp, F.binds (ps := ["small", "message"]) fun _ _ _ _ _ _ us hl => match us, hl with | [_, _], _ => rfl⟩
  unfold S_reverse_move
  exact (ass_cons (as_set 2 sc_reverse_move.nd (ae_B cr_lenN T.b_len (aa_cons (ae_ix (ae_v 0) ae_int) aa_nil)))
    (ass_cons (as_if (at_cmp (op_eqA (hu64 hr)) (ae_ix (ae_v 1) ae_int) ae_str) (ass_cons (as_set 4 sc_reverse_move.nd (ae_callX G_table_of (hr.mono (by first | decide | omega)) (takes_of rfl rfl rfl rfl) (aa_cons (ae_v 0) (aa_cons (ae_v 1) aa_nil))))
    (ass_cons (as_ret (ae_op op_addA (ae_callX G_behind_move (hr.mono (by first | decide | omega)) (takes_of rfl rfl rfl rfl) (aa_cons (ae_v 4) (aa_cons (ae_v 2) aa_nil))) (ae_callX G_ahead_move (hr.mono (by first | decide | omega)) (takes_of rfl rfl rfl rfl) (aa_cons (ae_v 4) (aa_cons (ae_v 2) aa_nil)))))
    ass_nil)) ass_nil)
    (ass_cons (as_set 3 sc_reverse_move.nd (ae_trg rfl T.b_tuple (ar_1 T.b_range (ae_v 2))))
    (ass_cons (as_ret (ae_Ty cr_tuple T.b_tuple (aa_cons (ae_lc [("place", 5)] rfl sc_reverse_move.nd (blkOk_by rfl) (by decide) (ai_rng1 T.b_range (aa_cons (ae_op op_mulA ae_int (ae_v 2)) aa_nil)) (fun _ _ _ _ _ => (ag_nm 5 sc_reverse_move.nd)) (fun _ _ _ _ _ => ats_nil) (fun _ _ _ _ _ => (ae_tup (aa_cons (ae_op op_modA (ae_op op_addA (ae_v 2) (ae_v 5)) (ae_op op_mulA ae_int (ae_v 2))) (aa_cons (ae_v 3) aa_nil))))) aa_nil)))
    ass_nil))))
abbrev s_first_memory : Stmt := topS 27
theorem sc_first_memory : FnScope ["world", "small", "states"] ["world", "small"] (defScope s_first_memory) := ⟨rfl, rfl, rfl, by decide +kernel, rfl, by decide +kernel, by decide +kernel⟩
def S_first_memory : SF :=
  (sSeq (sAsg (.nm 2) (eTrg (g1 (eFn oLenN (eCons (eOp oIx (eVar 1) (eC (.int 1))) eNil)))))
    (sSeq (sIf (eB (eInK false (eVar 0) (kC tt_TWO_ENDED))) (sSeq (sRet (eVar 2))
    sNil) sNil)
    (sSeq (sIf (eB (eOp oEq (eVar 0) (eC (.str (Str.ofString "reverse"))))) (sSeq (sRet (eOp oAdd (eVar 2) (eVar 2)))
    sNil) sNil)
    (sSeq (sIf (eB (eOp oEq (eVar 0) (eC (.str (Str.ofString "relabel"))))) (sSeq (sRet (eOp oMulT (eTup (eCons (eC (.int 0)) eNil)) (eFn oLenN (eCons (eCall 1 F_relabellings (eCons (eOp oIx (eVar 1) (eC (.int 0))) eNil)) eNil))))
    sNil) sNil)
    (sSeq (sRet (eTup (eCons (eC (.int 0)) eNil)))
    sNil)))))
def F_first_memory : On' := defA 3 S_first_memory
set_option maxHeartbeats 16000000 in
theorem ok_first_memory {fa : Addr} {fd : FuncData} (T : Txt w K mg) (G_relabellings : FnX P w K mg Tb base "relabellings" 1 1 F_relabellings) (F : Fun K "first_memory" "first_memory" s_first_memory fa fd) (hm : mg "first_memory" = some (.ref fa)) : FnX P w K mg Tb base "first_memory" 2 2 F_first_memory := by
  refine ⟨fa, fd, ["world", "small"], fn_A (k := 1) F sc_first_memory (fun cdv A outer s₀ H E hr => ?_), hm, F.kp, F.binds (ps := ["world", "small"]) fun _ _ _ _ _ _ us hl => match us, hl with | [_, _], _ => rfl⟩
  unfold S_first_memory
  exact (ass_cons (as_set 2 sc_first_memory.nd (ae_trg rfl T.b_tuple (ar_1 T.b_range (ae_B cr_lenN T.b_len (aa_cons (ae_ix (ae_v 1) ae_int) aa_nil)))))
    (ass_cons (as_if (at_inK (ae_v 0) (ak_nm T.g_TWO_ENDED.choose_spec.1 T.g_TWO_ENDED.choose_spec.2)) (ass_cons (as_ret (ae_v 2))
    ass_nil) ass_nil)
    (ass_cons (as_if (at_cmp (op_eqA (hu64 hr)) (ae_v 0) ae_str) (ass_cons (as_ret (ae_op op_addA (ae_v 2) (ae_v 2)))
    ass_nil) ass_nil)
    (ass_cons (as_if (at_cmp (op_eqA (hu64 hr)) (ae_v 0) ae_str) (ass_cons (as_ret (ae_op op_mulT (ae_tup (aa_cons ae_int aa_nil)) (ae_B cr_lenN T.b_len (aa_cons (ae_callX G_relabellings (hr.mono (by first | decide | omega)) (takes_of rfl rfl rfl rfl) (aa_cons (ae_ix (ae_v 1) ae_int) aa_nil)) aa_nil))))
    ass_nil) ass_nil)
    (ass_cons (as_ret (ae_tup (aa_cons ae_int aa_nil)))
    ass_nil)))))
abbrev s_move_of : Stmt := topS 28
theorem sc_move_of : FnScope ["world", "small", "message"] ["world", "small", "message"] (defScope s_move_of) := ⟨rfl, rfl, rfl, by decide +kernel, rfl, by decide +kernel, by decide +kernel⟩
def S_move_of : SF :=
  (sSeq (sIf (eB (eOp oEq (eVar 0) (eC (.str (Str.ofString "relabel"))))) (sSeq (sRet (eCall 2 F_relabel_move (eCons (eVar 1) (eCons (eVar 2) eNil))))
    sNil) sNil)
    (sSeq (sIf (eB (eOp oEq (eVar 0) (eC (.str (Str.ofString "reverse"))))) (sSeq (sRet (eCall 2 F_reverse_move (eCons (eVar 1) (eCons (eVar 2) eNil))))
    sNil) sNil)
    (sSeq (sIf (eB (eOp oIn (eOp oIx (eVar 2) (eC (.int 0))) (eTup (eCons (eC (.str (Str.ofString "front"))) (eCons (eC (.str (Str.ofString "behead"))) eNil))))) (sSeq (sRet (eCall 2 F_ahead_move (eCons (eCall 2 F_table_of (eCons (eVar 1) (eCons (eVar 2) eNil))) (eCons (eC (.int 0)) eNil))))
    sNil) sNil)
    (sSeq (sRet (eCall 2 F_behind_move (eCons (eCall 2 F_table_of (eCons (eVar 1) (eCons (eVar 2) eNil))) (eCons (eFn oLenN (eCons (eCall 2 F_first_memory (eCons (eVar 0) (eCons (eVar 1) eNil))) eNil)) eNil))))
    sNil))))
def F_move_of : On' := defA 3 S_move_of
set_option maxHeartbeats 16000000 in
theorem ok_move_of {fa : Addr} {fd : FuncData} (T : Txt w K mg) (G_relabel_move : FnX P w K mg Tb base "relabel_move" 2 2 F_relabel_move) (G_reverse_move : FnX P w K mg Tb base "reverse_move" 2 2 F_reverse_move) (G_ahead_move : FnX P w K mg Tb base "ahead_move" 1 2 F_ahead_move) (G_table_of : FnX P w K mg Tb base "table_of" 1 2 F_table_of) (G_behind_move : FnX P w K mg Tb base "behind_move" 1 2 F_behind_move) (G_first_memory : FnX P w K mg Tb base "first_memory" 2 2 F_first_memory) (F : Fun K "move_of" "move_of" s_move_of fa fd) (hm : mg "move_of" = some (.ref fa)) : FnX P w K mg Tb base "move_of" 3 3 F_move_of := by
  refine ⟨fa, fd, ["world", "small", "message"], fn_A (k := 2) F sc_move_of (fun cdv A outer s₀ H E hr => ?_), hm, F.kp, F.binds (ps := ["world", "small", "message"]) fun _ _ _ _ _ _ us hl => match us, hl with | [_, _, _], _ => rfl⟩
  unfold S_move_of
  exact (ass_cons (as_if (at_cmp (op_eqA (hu64 hr)) (ae_v 0) ae_str) (ass_cons (as_ret (ae_callX G_relabel_move (hr.mono (by first | decide | omega)) (takes_of rfl rfl rfl rfl) (aa_cons (ae_v 1) (aa_cons (ae_v 2) aa_nil))))
    ass_nil) ass_nil)
    (ass_cons (as_if (at_cmp (op_eqA (hu64 hr)) (ae_v 0) ae_str) (ass_cons (as_ret (ae_callX G_reverse_move (hr.mono (by first | decide | omega)) (takes_of rfl rfl rfl rfl) (aa_cons (ae_v 1) (aa_cons (ae_v 2) aa_nil))))
    ass_nil) ass_nil)
    (ass_cons (as_if (at_cmp (op_inA (hu65 hr)) (ae_ix (ae_v 2) ae_int) (ae_tup (aa_cons ae_str (aa_cons ae_str aa_nil)))) (ass_cons (as_ret (ae_callX G_ahead_move (hr.mono (by first | decide | omega)) (takes_of rfl rfl rfl rfl) (aa_cons (ae_callX G_table_of (hr.mono (by first | decide | omega)) (takes_of rfl rfl rfl rfl) (aa_cons (ae_v 1) (aa_cons (ae_v 2) aa_nil))) (aa_cons ae_int aa_nil))))
    ass_nil) ass_nil)
    (ass_cons (as_ret (ae_callX G_behind_move (hr.mono (by first | decide | omega)) (takes_of rfl rfl rfl rfl) (aa_cons (ae_callX G_table_of (hr.mono (by first | decide | omega)) (takes_of rfl rfl rfl rfl) (aa_cons (ae_v 1) (aa_cons (ae_v 2) aa_nil))) (aa_cons (ae_B cr_lenN T.b_len (aa_cons (ae_callX G_first_memory (hr.mono (by first | decide | omega)) (takes_of rfl rfl rfl rfl) (aa_cons (ae_v 0) (aa_cons (ae_v 1) aa_nil))) aa_nil)) aa_nil))))
    ass_nil))))
abbrev s_right_keeper : Stmt := topS 77
theorem sc_right_keeper : FnScope ["world", "question", "small", "moves", "steps", "memories", "message", "memory"] ["world", "question"] (defScope s_right_keeper) := ⟨rfl, rfl, rfl, by decide +kernel, rfl, by decide +kernel, by decide +kernel⟩
def S_right_keeper : SF :=
  (sSeq (sAsg (.nm 2) (eCallD 2 F_least_of [.non] (eCons (eVar 1) eNil)))
    (sSeq (sIf (bNot (eT (eCall 2 F_is_kept (eCons (eVar 0) (eCons (eVar 2) eNil))))) sBad sNil)
    (sSeq (sAsg (.nm 3) (eLc (iSeqF (eCall 2 F_messages (eCons (eVar 0) (eCons (eOp oIx (eVar 2) (eC (.int 0))) eNil)))) (.nm 6) bYes (eCall 3 F_move_of (eCons (eVar 0) (eCons (eVar 2) (eCons (eVar 6) eNil)))) [6]))
    (sSeq (sAsg (.tp [(.nm 4), (.nm 5)]) (eCall 3 F_numbered (eCons (eCall 2 F_first_memory (eCons (eVar 0) (eCons (eVar 2) eNil))) (eCons (eVar 3) (eCons (eC (.int 3000)) eNil)))))
    (sSeq (sRet (eTup (eCons (eVar 4) (eCons (eFn oTuple (eCons (eLc (iSeq (eVar 5)) (.nm 7) bYes (eOp oIx (eOp oIx (eVar 2) (eC (.int 2))) (eOp oIx (eVar 7) (eC (.int 0)))) [7]) eNil)) eNil))))
    sNil)))))
def F_right_keeper : On' := defA 8 S_right_keeper
set_option maxHeartbeats 16000000 in
theorem ok_right_keeper {fa : Addr} {fd : FuncData} (T : Txt w K mg) (G_least_of : FnXD P w K mg Tb base "least_of" 3 2 [.non] F_least_of) (G_is_kept : FnX P w K mg Tb base "is_kept" 2 2 F_is_kept) (G_messages : FnX P w K mg Tb base "messages" 3 2 F_messages) (G_move_of : FnX P w K mg Tb base "move_of" 3 3 F_move_of) (G_numbered : FnX P w K mg Tb base "numbered" 1 3 F_numbered) (G_first_memory : FnX P w K mg Tb base "first_memory" 2 2 F_first_memory) (F : Fun K "right_keeper" "right_keeper" s_right_keeper fa fd) (hm : mg "right_keeper" = some (.ref fa)) : FnX P w K mg Tb base "right_keeper" 4 2 F_right_keeper := by
  refine ⟨fa, fd, ["world", "question"], fn_A (k := 3) F sc_right_keeper (fun cdv A outer s₀ H E hr => ?_), hm, F.kp, F.binds (ps := ["world", "question"]) fun _ _ _ _ _ _ us hl => match us, hl with | [_, _], _ => rfl⟩
  unfold S_right_keeper
  exact (ass_cons (as_set 2 sc_right_keeper.nd (ae_callXD G_least_of (hr.mono (by first | decide | omega)) (takes_of rfl rfl rfl rfl) (aa_cons (ae_v 1) aa_nil)))
    (ass_cons (as_if (at_not (at_val (ae_callX G_is_kept (hr.mono (by first | decide | omega)) (takes_of rfl rfl rfl rfl) (aa_cons (ae_v 0) (aa_cons (ae_v 2) aa_nil))))) ass_never ass_nil)
    (ass_cons (as_setLc 3 [("message", 6)] rfl sc_right_keeper.nd (sw_true rfl rfl rfl (by decide +kernel)) (blkOk_by rfl) (by decide) (ai_seqF (ae_callX G_messages (hr.mono (by first | decide | omega)) (takes_of rfl rfl rfl rfl) (aa_cons (ae_v 0) (aa_cons (ae_ix (ae_v 2) ae_int) aa_nil)))) (fun _ _ _ _ _ => (ag_nm 6 sc_right_keeper.nd)) (fun _ _ _ _ _ => ats_nil) (fun _ _ _ _ _ => (ae_callX G_move_of (hr.mono (by first | decide | omega)) takes0 (aa_cons (ae_v 0) (aa_cons (ae_v 2) (aa_cons (ae_v 6) aa_nil))))))
    (ass_cons (as_asg (ae_callX G_numbered (hr.mono (by first | decide | omega)) (takes_of rfl rfl rfl rfl) (aa_cons (ae_callX G_first_memory (hr.mono (by first | decide | omega)) (takes_of rfl rfl rfl rfl) (aa_cons (ae_v 0) (aa_cons (ae_v 2) aa_nil))) (aa_cons (ae_v 3) (aa_cons (ae_glob T.c_MOST_MEMORIES.choose_spec (fun _ _ => .int 3000) ⟨_, rfl⟩) aa_nil)))) (ag_tp rfl (ags_cons (ag_nm 4 sc_right_keeper.nd) (ags_cons (ag_nm 5 sc_right_keeper.nd) ags_nil))))
    (ass_cons (as_ret (ae_tup (aa_cons (ae_v 4) (aa_cons (ae_Ty cr_tuple T.b_tuple (aa_cons (ae_lc [("memory", 7)] rfl sc_right_keeper.nd (blkOk_by rfl) (by decide) (ai_seq (ae_v 5)) (fun _ _ _ _ _ => (ag_nm 7 sc_right_keeper.nd)) (fun _ _ _ _ _ => ats_nil) (fun _ _ _ _ _ => (ae_ix (ae_ix (ae_v 2) ae_int) (ae_ix (ae_v 7) ae_int)))) aa_nil)) aa_nil))))
    ass_nil)))))
abbrev s_keeper : Stmt := topS 75
theorem sc_keeper : FnScope ["world", "question"] ["world", "question"] (defScope s_keeper) := ⟨rfl, rfl, rfl, by decide +kernel, rfl, by decide +kernel, by decide +kernel⟩
def S_keeper : SF :=
  (sSeq (sExpr (eCall 1 F_check_world (eCons (eVar 0) eNil)))
    (sSeq (sExpr (eCall 1 F_check_question (eCons (eVar 1) eNil)))
    (sSeq (sRet (eCall 2 F_right_keeper (eCons (eVar 0) (eCons (eVar 1) eNil))))
    sNil)))
def F_keeper : On' := defA 2 S_keeper
set_option maxHeartbeats 16000000 in
theorem ok_keeper {fa : Addr} {fd : FuncData} (T : Txt w K mg) (G_check_world : FnX P w K mg Tb base "check_world" 1 1 F_check_world) (G_check_question : FnX P w K mg Tb base "check_question" 4 1 F_check_question) (G_right_keeper : FnX P w K mg Tb base "right_keeper" 4 2 F_right_keeper) (F : Fun K "keeper" "keeper" s_keeper fa fd) (hm : mg "keeper" = some (.ref fa)) : FnX P w K mg Tb base "keeper" 5 2 F_keeper := by
  refine ⟨fa, fd, ["world", "question"], fn_A (k := 4) F sc_keeper (fun cdv A outer s₀ H E hr => ?_), hm, F.kp, F.binds (ps := ["world", "question"]) fun _ _ _ _ _ _ us hl => match us, hl with | [_, _], _ => rfl⟩
  unfold S_keeper
  exact (ass_cons (as_expr (ae_callX G_check_world (hr.mono (by first | decide | omega)) (takes_of rfl rfl rfl rfl) (aa_cons (ae_v 0) aa_nil)))
    (ass_cons (as_expr (ae_callX G_check_question (hr.mono (by first | decide | omega)) (takes_of rfl rfl rfl rfl) (aa_cons (ae_v 1) aa_nil)))
    (ass_cons (as_ret (ae_callX G_right_keeper (hr.mono (by first | decide | omega)) (takes_of rfl rfl rfl rfl) (aa_cons (ae_v 0) (aa_cons (ae_v 1) aa_nil))))
    ass_nil)))
abbrev s_least : Stmt := topS 40
theorem sc_least : FnScope ["question"] ["question"] (defScope s_least) := ⟨rfl, rfl, rfl, by decide +kernel, rfl, by decide +kernel, by decide +kernel⟩
def S_least : SF :=
  (sSeq (sExpr (eCall 1 F_check_question (eCons (eVar 0) eNil)))
    (sSeq (sRet (eCallD 2 F_least_of [.non] (eCons (eVar 0) eNil)))
    sNil))
def F_least : On' := defA 1 S_least
set_option maxHeartbeats 16000000 in
theorem ok_least {fa : Addr} {fd : FuncData} (T : Txt w K mg) (G_check_question : FnX P w K mg Tb base "check_question" 4 1 F_check_question) (G_least_of : FnXD P w K mg Tb base "least_of" 3 2 [.non] F_least_of) (F : Fun K "least" "least" s_least fa fd) (hm : mg "least" = some (.ref fa)) : FnX P w K mg Tb base "least" 5 1 F_least := by
  refine ⟨fa, fd, ["question"], fn_A (k := 4) F sc_least (fun cdv A outer s₀ H E hr => ?_), hm, F.kp, F.binds (ps := ["question"]) fun _ _ _ _ _ _ us hl => match us, hl with | [_], _ => rfl⟩
  unfold S_least
  exact (ass_cons (as_expr (ae_callX G_check_question (hr.mono (by first | decide | omega)) (takes_of rfl rfl rfl rfl) (aa_cons (ae_v 0) aa_nil)))
    (ass_cons (as_ret (ae_callXD G_least_of (hr.mono (by first | decide | omega)) (takes_of rfl rfl rfl rfl) (aa_cons (ae_v 0) aa_nil)))
    ass_nil))
abbrev s_maps : Stmt := topS 41
theorem sc_maps : FnScope ["question", "found", "known", "done", "letters", "steps", "_", "states", "letter", "reached", "state"] ["question"] (defScope s_maps) := ⟨rfl, rfl, rfl, by decide +kernel, rfl, by decide +kernel, by decide +kernel⟩
def S_maps : SF :=
  (sSeq (sAsg (.tp [(.nm 4), (.nm 5), (.nm 6)]) (eCall 1 F_least (eCons (eVar 0) eNil)))
    (sSeq (sAsg (.nm 1) (eLst (eCons (eTrg (g1 (eFn oLenN (eCons (eVar 5) eNil)))) eNil)))
    (sSeq (sAsg (.nm 2) (eDispT (eOp oIx (eVar 1) (eC (.int 0))) (eC (.bl true))))
    (sSeq (sAsg (.nm 3) (eC (.int 0)))
    (sSeq (fun τ M => whileA (eB (eOp oLt (eVar 3) (eFn oLenN (eCons (eVar 1) eNil)))) (sSeq (sAsg (.nm 7) (eOp oIx (eVar 1) (eVar 3)))
    (sSeq (sFor (iRng1 (eCons (eVar 4) eNil)) (.nm 8) (sSeq (sAsg (.nm 9) (eFn oTuple (eCons (eLc (iSeq (eVar 7)) (.nm 10) bYes (eOp oIx (eOp oIx (eVar 5) (eVar 10)) (eVar 8)) [10]) eNil)))
    (sSeq (sIf (eB (eOp oNotIn (eVar 9) (eVar 2))) (sSeq (sDput (eVar 2) (eVar 9) (eC (.bl true)))
    (sSeq (sExpr (eMeth oAppend (eVar 1) (eCons (eVar 9) eNil)))
    sNil)) sNil)
    sNil)))
    (sSeq (sIf (eB (eOp oGt (eFn oLenN (eCons (eVar 1) eNil)) (eC (.int 2000)))) sBad sNil)
    (sSeq (sAug 3 (fun i j => i + j) (eC (.int 1)))
    sNil)))) fuel τ M)
    (sSeq (sRet (eFn oTuple (eCons (eFn oSortM (eCons (eVar 1) eNil)) eNil)))
    sNil))))))
def F_maps : On' := defA 11 S_maps
set_option maxHeartbeats 16000000 in
theorem ok_maps {fa : Addr} {fd : FuncData} (T : Txt w K mg) (G_least : FnX P w K mg Tb base "least" 5 1 F_least) (F : Fun K "maps" "maps" s_maps fa fd) (hm : mg "maps" = some (.ref fa)) : FnX P w K mg Tb base "maps" 6 1 F_maps := by
  refine ⟨fa, fd, ["question"], fn_A (k := 5) F sc_maps (fun cdv A outer s₀ H E hr => ?_), hm, F.kp, F.binds (ps := ["question"]) fun _ _ _ _ _ _ us hl => match us, hl with | [_], _ => rfl⟩
  unfold S_maps
  exact (ass_cons (as_asg (ae_callX G_least (hr.mono (by first | decide | omega)) (takes_of rfl rfl rfl rfl) (aa_cons (ae_v 0) aa_nil)) (ag_tp rfl (ags_cons (ag_nm 4 sc_maps.nd) (ags_cons (ag_nm 5 sc_maps.nd) (ags_cons (ag_nm 6 sc_maps.nd) ags_nil)))))
    (ass_cons (as_set 1 sc_maps.nd (ae_lst (aa_cons (ae_trg rfl T.b_tuple (ar_1 T.b_range (ae_B cr_lenN T.b_len (aa_cons (ae_v 5) aa_nil)))) aa_nil)))
    (ass_cons (as_set 2 sc_maps.nd (ae_dispT (hu1 hr) (ae_ix (ae_v 1) ae_int) ae_bl))
    (ass_cons (as_set 3 sc_maps.nd ae_int)
    (ass_cons (as_while (fun _ _ => fuel) (passes_of rfl) (at_cmp (op_ltA) (ae_v 3) (ae_B cr_lenN T.b_len (aa_cons (ae_v 1) aa_nil))) (ass_cons (as_set 7 sc_maps.nd (ae_ix (ae_v 1) (ae_v 3)))
    (ass_cons (as_for (passes_of rfl) rfl (ai_rng1 T.b_range (aa_cons (ae_v 4) aa_nil)) (ag_nm 8 sc_maps.nd) (ass_cons (as_set 9 sc_maps.nd (ae_Ty cr_tuple T.b_tuple (aa_cons (ae_lc [("state", 10)] rfl sc_maps.nd (blkOk_by rfl) (by decide) (ai_seq (ae_v 7)) (fun _ _ _ _ _ => (ag_nm 10 sc_maps.nd)) (fun _ _ _ _ _ => ats_nil) (fun _ _ _ _ _ => (ae_ix (ae_ix (ae_v 5) (ae_v 10)) (ae_v 8)))) aa_nil)))
    (ass_cons (as_if (at_cmp (op_notInA (hu65 hr)) (ae_v 9) (ae_v 2)) (ass_cons (as_dput (hu1 hr) (ae_v 2) (ae_v 9) ae_bl)
    (ass_cons (as_expr (ae_append (ae_v 1) (aa_cons (ae_v 9) aa_nil)))
    ass_nil)) ass_nil)
    ass_nil)))
    (ass_cons (as_if (at_cmp (op_gtA) (ae_B cr_lenN T.b_len (aa_cons (ae_v 1) aa_nil)) (ae_glob T.c_MOST_MAPS.choose_spec (fun _ _ => .int 2000) ⟨_, rfl⟩)) ass_never ass_nil)
    (ass_cons (as_aug 3 sc_maps.nd ip_add ae_int)
    ass_nil)))))
    (ass_cons (as_ret (ae_Ty cr_tuple T.b_tuple (aa_cons (ae_B (cr_sortM (hu64 hr)) T.b_sorted (aa_cons (ae_v 1) aa_nil)) aa_nil)))
    ass_nil))))))
abbrev s_law : Stmt := topS 121
theorem sc_law : FnScope ["script", "row", "worlds", "even", "some", "first", "turns", "many", "clock", "found", "edits", "lone", "history", "world", "state"] ["script"] (defScope s_law) := ⟨rfl, rfl, rfl, by decide +kernel, rfl, by decide +kernel, by decide +kernel⟩
def S_law : SF :=
  (sSeq (sAsg (.nm 1) (eLst (eCons (eVar 0) (eCons (eC (.int 0)) (eCons (eC (.int 1012)) (eCons (eC (.int 0)) eNil))))))
    (sSeq (sAsg (.nm 2) (eLst (eCons (eC (.str (Str.ofString "end"))) (eCons (eC (.str (Str.ofString "ends"))) (eCons (eC (.str (Str.ofString "stack"))) (eCons (eC (.str (Str.ofString "deque"))) (eCons (eC (.str (Str.ofString "in"))) (eCons (eC (.str (Str.ofString "inout"))) (eCons (eC (.str (Str.ofString "relabel"))) (eCons (eC (.str (Str.ofString "reverse"))) eNil))))))))))
    (sSeq (sAsg (.nm 3) (eTup (eCons (eC (.int 2)) (eCons (eTup (eCons (eTup (eCons (eC (.int 1)) (eCons (eC (.int 0)) eNil))) (eCons (eTup (eCons (eC (.int 0)) (eCons (eC (.int 1)) eNil))) eNil))) (eCons (eTup (eCons (eC (.int 1)) (eCons (eC (.int 0)) eNil))) eNil)))))
    (sSeq (gcS (sIf (bOr (eB (eOp oNe (eLc (iSeq (eVar 2)) (.nm 13) bYes (eCall 2 F_can_keep (eCons (eVar 13) (eCons (eVar 3) eNil))) [13]) (eOp oMul (eLst (eCons (eC (.bl true)) eNil)) (eC (.int 8))))) (eB (eOp oNe (eFn oLenN (eCons (eOp oIx (eCall 2 F_keeper (eCons (eC (.str (Str.ofString "inout"))) (eCons (eVar 3) eNil))) (eC (.int 0))) eNil)) (eC (.int 2))))) (sSeq (sRet (eC (.bl false)))
    sNil) sNil))
    (sSeq (sAsg (.nm 4) (eTup (eCons (eC (.int 2)) (eCons (eTup (eCons (eTup (eCons (eC (.int 1)) (eCons (eC (.int 0)) eNil))) (eCons (eTup (eCons (eC (.int 1)) (eCons (eC (.int 1)) eNil))) eNil))) (eCons (eTup (eCons (eC (.int 0)) (eCons (eC (.int 1)) eNil))) eNil)))))
    (sSeq (gcS (sIf (eB (eOp oNe (eLc (iSeq (eVar 2)) (.nm 13) bYes (eCall 2 F_can_keep (eCons (eVar 13) (eCons (eVar 4) eNil))) [13]) (eLst (eCons (eC (.bl true)) (eCons (eC (.bl true)) (eCons (eC (.bl false)) (eCons (eC (.bl false)) (eCons (eC (.bl true)) (eCons (eC (.bl false)) (eCons (eC (.bl true)) (eCons (eC (.bl true)) eNil))))))))))) (sSeq (sRet (eC (.bl false)))
    sNil) sNil))
    (sSeq (sAsg (.nm 5) (eTup (eCons (eC (.int 2)) (eCons (eTup (eCons (eTup (eCons (eC (.int 1)) (eCons (eC (.int 2)) eNil))) (eCons (eTup (eCons (eC (.int 1)) (eCons (eC (.int 1)) eNil))) (eCons (eTup (eCons (eC (.int 2)) (eCons (eC (.int 2)) eNil))) eNil)))) (eCons (eTup (eCons (eC (.int 0)) (eCons (eC (.int 1)) (eCons (eC (.int 0)) eNil)))) eNil)))))
    (sSeq (gcS (sIf (eB (eOp oNe (eLc (iSeq (eVar 2)) (.nm 13) bYes (eCall 2 F_can_keep (eCons (eVar 13) (eCons (eVar 5) eNil))) [13]) (eLst (eCons (eC (.bl true)) (eCons (eC (.bl true)) (eCons (eC (.bl false)) (eCons (eC (.bl false)) (eCons (eC (.bl false)) (eCons (eC (.bl false)) (eCons (eC (.bl true)) (eCons (eC (.bl true)) eNil))))))))))) (sSeq (sRet (eC (.bl false)))
    sNil) sNil))
    (sSeq (sAsg (.nm 6) (eTup (eCons (eC (.int 2)) (eCons (eTup (eCons (eTup (eCons (eC (.int 1)) (eCons (eC (.int 1)) eNil))) (eCons (eTup (eCons (eC (.int 0)) (eCons (eC (.int 2)) eNil))) (eCons (eTup (eCons (eC (.int 2)) (eCons (eC (.int 0)) eNil))) eNil)))) (eCons (eTup (eCons (eC (.int 1)) (eCons (eC (.int 0)) (eCons (eC (.int 0)) eNil)))) eNil)))))
    (sSeq (gcS (sIf (eB (eOp oNe (eLc (iSeq (eVar 2)) (.nm 13) bYes (eCall 2 F_can_keep (eCons (eVar 13) (eCons (eVar 6) eNil))) [13]) (eLst (eCons (eC (.bl true)) (eCons (eC (.bl true)) (eCons (eC (.bl true)) (eCons (eC (.bl true)) (eCons (eC (.bl false)) (eCons (eC (.bl false)) (eCons (eC (.bl true)) (eCons (eC (.bl true)) eNil))))))))))) (sSeq (sRet (eC (.bl false)))
    sNil) sNil))
    (sSeq (gcS (sIf (bOr (eB (eOp oNe (eFn oLenN (eCons (eOp oIx (eCall 2 F_keeper (eCons (eC (.str (Str.ofString "stack"))) (eCons (eVar 6) eNil))) (eC (.int 0))) eNil)) (eC (.int 3)))) (bOr (eB (eOp oNe (eFn oLenN (eCons (eCall 1 F_maps (eCons (eVar 6) eNil)) eNil)) (eC (.int 6)))) (eB (eOp oNe (eFn oLenN (eCons (eOp oIx (eCall 2 F_keeper (eCons (eC (.str (Str.ofString "deque"))) (eCons (eVar 6) eNil))) (eC (.int 0))) eNil)) (eC (.int 6)))))) (sSeq (sRet (eC (.bl false)))
    sNil) sNil))
    (sSeq (sAsg (.nm 7) (eOp oAdd (eC (.int 2)) (eCall 2 F_law_taken (eCons (eVar 1) (eCons (eC (.int 6)) eNil)))))
    (sSeq (gcS (sAsg (.nm 8) (eTup (eCons (eC (.int 1)) (eCons (eFn oTuple (eCons (eLc (iRng1 (eCons (eVar 7) eNil)) (.nm 14) bYes (eTup (eCons (eOp oMod (eFn oInt1 (eCons (eOp oAdd (eVar 14) (eC (.int 1))) eNil)) (eVar 7)) eNil)) [14]) eNil)) (eCons (eOp oAdd (eTup (eCons (eC (.int 1)) eNil)) (eOp oMulT (eTup (eCons (eC (.int 0)) eNil)) (eOp oSub (eVar 7) (eC (.int 1))))) eNil))))))
    (sSeq (gcS (sSeq (sAsg (.nm 9) (eCall 1 F_sums (eCons (eVar 8) eNil)))
    (sIf (bOr (eB (eOp oNe (eOp oIx (eVar 9) (eC (.int 0))) (eTup (eCons (eVar 7) eNil)))) (eB (eOp oNe (eFn oLenN (eCons (eFn oListN (eCons (eOp oIx (eVar 9) (eC (.int 2))) eNil)) eNil)) (eVar 7)))) (sSeq (sRet (eC (.bl false)))
    sNil) sNil)))
    (sSeq (gcS (sIf (bOr (eB (eOp oIsNot (eCall 2 F_reason (eCons (eC (.str (Str.ofString "in"))) (eCons (eVar 4) eNil))) (eC .non))) (eB (eOp oIsNot (eCall 2 F_reason (eCons (eC (.str (Str.ofString "stack"))) (eCons (eVar 3) eNil))) (eC .non)))) (sSeq (sRet (eC (.bl false)))
    sNil) sNil))
    (sSeq (sAsg (.nm 10) (eTup (eCons (eTup (eCons (eC (.str (Str.ofString "put"))) (eCons (eC (.int 0)) (eCons (eC (.int 0)) eNil)))) (eCons (eTup (eCons (eC (.str (Str.ofString "put"))) (eCons (eC (.int 1)) (eCons (eC (.int 0)) eNil)))) (eCons (eTup (eCons (eC (.str (Str.ofString "take"))) (eCons (eC (.int 0)) (eCons (eC (.int 1)) eNil)))) eNil)))))
    (sSeq (gcS (sIf (bOr (eB (eOp oNe (eCall 3 F_text_after (eCons (eC (.str (Str.ofString "inout"))) (eCons (eC (.int 2)) (eCons (eVar 10) eNil)))) (eTup (eCons (eC (.int 1)) eNil)))) (eB (eOp oNe (eCall 3 F_told (eCons (eC (.str (Str.ofString "inout"))) (eCons (eC (.int 2)) (eCons (eVar 10) eNil)))) (eTup (eCons (eTup (eCons (eC (.str (Str.ofString "put"))) (eCons (eC (.int 0)) eNil))) (eCons (eTup (eCons (eC (.str (Str.ofString "put"))) (eCons (eC (.int 1)) eNil))) (eCons (eTup (eCons (eC (.str (Str.ofString "take"))) (eCons (eC (.int 0)) eNil))) eNil))))))) (sSeq (sRet (eC (.bl false)))
    sNil) sNil))
    (sSeq (gcS (sIf (eB (eOp oNe (eCall 4 F_keep (eCons (eC (.str (Str.ofString "inout"))) (eCons (eC (.int 2)) (eCons (eCall 2 F_keeper (eCons (eC (.str (Str.ofString "inout"))) (eCons (eVar 3) eNil))) (eCons (eCall 3 F_told (eCons (eC (.str (Str.ofString "inout"))) (eCons (eC (.int 2)) (eCons (eVar 10) eNil)))) eNil))))) (eTup (eCons (eC (.int 1)) (eCons (eC (.int 0)) (eCons (eC (.int 0)) (eCons (eC (.int 1)) eNil))))))) (sSeq (sRet (eC (.bl false)))
    sNil) sNil))
    (sSeq (gcS (sIf (bOr (eB (eOp oNe (eCall 1 F_least (eCons (eTup (eCons (eC (.int 1)) (eCons (eTup (eCons (eTup (eCons (eC (.int 1)) eNil)) (eCons (eTup (eCons (eC (.int 2)) eNil)) (eCons (eTup (eCons (eC (.int 0)) eNil)) eNil)))) (eCons (eTup (eCons (eC (.int 1)) (eCons (eC (.int 1)) (eCons (eC (.int 1)) eNil)))) eNil)))) eNil)) (eTup (eCons (eC (.int 1)) (eCons (eTup (eCons (eTup (eCons (eC (.int 0)) eNil)) eNil)) (eCons (eTup (eCons (eC (.int 1)) eNil)) eNil)))))) (eB (eOp oNe (eCall 2 F_answer (eCons (eVar 5) (eCons (eTup (eCons (eC (.int 1)) (eCons (eC (.int 0)) eNil))) eNil))) (eC (.int 0))))) (sSeq (sRet (eC (.bl false)))
    sNil) sNil))
    (sSeq (sAsg (.nm 11) (eTup (eCons (eTup (eCons (eTup (eCons (eC (.int 0)) (eCons (eC (.int 0)) (eCons (eC (.int 0)) (eCons (eC (.int 0)) eNil))))) eNil)) (eCons (eTup (eCons (eC (.int 0)) eNil)) eNil))))
    (sSeq (gcS (sAsg (.nm 12) (eCall 3 F_fool (eCons (eC (.str (Str.ofString "inout"))) (eCons (eVar 4) (eCons (eVar 11) eNil))))))
    (sSeq (sRet (eOp oEq (eCall 2 F_answer (eCons (eVar 4) (eCons (eCall 3 F_text_after (eCons (eC (.str (Str.ofString "inout"))) (eCons (eC (.int 2)) (eCons (eVar 12) eNil)))) eNil))) (eC (.int 1))))
    sNil))))))))))))))))))))))
def F_law : On' := defA 15 S_law
set_option maxHeartbeats 16000000 in
theorem ok_law {fa : Addr} {fd : FuncData} (T : Txt w K mg) (G_can_keep : FnX P w K mg Tb base "can_keep" 5 2 F_can_keep) (G_keeper : FnX P w K mg Tb base "keeper" 5 2 F_keeper) (G_maps : FnX P w K mg Tb base "maps" 6 1 F_maps) (G_law_taken : FnX P w K mg Tb base "_law_taken" 1 2 F_law_taken) (G_sums : FnX P w K mg Tb base "sums" 6 1 F_sums) (G_reason : FnX P w K mg Tb base "reason" 5 2 F_reason) (G_text_after : FnX P w K mg Tb base "text_after" 10 3 F_text_after) (G_told : FnX P w K mg Tb base "told" 11 3 F_told) (G_keep : FnX P w K mg Tb base "keep" 8 4 F_keep) (G_least : FnX P w K mg Tb base "least" 5 1 F_least) (G_answer : FnX P w K mg Tb base "answer" 6 2 F_answer) (G_fool : FnX P w K mg Tb base "fool" 13 3 F_fool) (F : Fun K "law" "law" s_law fa fd) : FnOk P w K mg base (L2.CX P w) 14 fa fd ["script"] (spA ⟨mg, ⟨w, K, mg, Tb⟩⟩ 1 F_law) := by
  refine fn_A (k := 13) F sc_law (fun cdv A outer s₀ H E hr => ?_)
  unfold S_law
  exact (ass_cons (as_set 1 sc_law.nd (ae_lst (aa_cons (ae_v 0) (aa_cons ae_int (aa_cons ae_int (aa_cons ae_int aa_nil))))))
    (ass_cons (as_set 2 sc_law.nd (ae_lst (aa_cons ae_str (aa_cons ae_str (aa_cons ae_str (aa_cons ae_str (aa_cons ae_str (aa_cons ae_str (aa_cons ae_str (aa_cons ae_str aa_nil))))))))))
    (ass_cons (as_set 3 sc_law.nd (ae_tup (aa_cons ae_int (aa_cons (ae_tup (aa_cons (ae_tup (aa_cons ae_int (aa_cons ae_int aa_nil))) (aa_cons (ae_tup (aa_cons ae_int (aa_cons ae_int aa_nil))) aa_nil))) (aa_cons (ae_tup (aa_cons ae_int (aa_cons ae_int aa_nil))) aa_nil)))))
    (ass_gc (as_if (AW.at (aw_or (at_cmp (op_neA (hu64 hr)) (ae_lc [("world", 13)] rfl sc_law.nd (blkOk_by rfl) (by decide) (ai_seq (ae_v 2)) (fun _ _ _ _ _ => (ag_nm 13 sc_law.nd)) (fun _ _ _ _ _ => ats_nil) (fun _ _ _ _ _ => (ae_callX G_can_keep (hr.mono (by first | decide | omega)) takes0 (aa_cons (ae_v 13) (aa_cons (ae_v 3) aa_nil))))) (ae_op op_mulA (ae_lst (aa_cons ae_bl aa_nil)) ae_int)) (aw_or1 (at_cmp (op_neA (hu64 hr)) (ae_B cr_lenN T.b_len (aa_cons (ae_ix (ae_callX G_keeper (hr.mono (by first | decide | omega)) (takes_of rfl rfl rfl rfl) (aa_cons ae_str (aa_cons (ae_v 3) aa_nil))) ae_int) aa_nil)) ae_int)))) (ass_cons (as_ret ae_bl)
    ass_nil) ass_nil)
    (ass_cons (as_set 4 sc_law.nd (ae_tup (aa_cons ae_int (aa_cons (ae_tup (aa_cons (ae_tup (aa_cons ae_int (aa_cons ae_int aa_nil))) (aa_cons (ae_tup (aa_cons ae_int (aa_cons ae_int aa_nil))) aa_nil))) (aa_cons (ae_tup (aa_cons ae_int (aa_cons ae_int aa_nil))) aa_nil)))))
    (ass_gc (as_if (at_cmp (op_neA (hu64 hr)) (ae_lc [("world", 13)] rfl sc_law.nd (blkOk_by rfl) (by decide) (ai_seq (ae_v 2)) (fun _ _ _ _ _ => (ag_nm 13 sc_law.nd)) (fun _ _ _ _ _ => ats_nil) (fun _ _ _ _ _ => (ae_callX G_can_keep (hr.mono (by first | decide | omega)) takes0 (aa_cons (ae_v 13) (aa_cons (ae_v 4) aa_nil))))) (ae_lst (aa_cons ae_bl (aa_cons ae_bl (aa_cons ae_bl (aa_cons ae_bl (aa_cons ae_bl (aa_cons ae_bl (aa_cons ae_bl (aa_cons ae_bl aa_nil)))))))))) (ass_cons (as_ret ae_bl)
    ass_nil) ass_nil)
    (ass_cons (as_set 5 sc_law.nd (ae_tup (aa_cons ae_int (aa_cons (ae_tup (aa_cons (ae_tup (aa_cons ae_int (aa_cons ae_int aa_nil))) (aa_cons (ae_tup (aa_cons ae_int (aa_cons ae_int aa_nil))) (aa_cons (ae_tup (aa_cons ae_int (aa_cons ae_int aa_nil))) aa_nil)))) (aa_cons (ae_tup (aa_cons ae_int (aa_cons ae_int (aa_cons ae_int aa_nil)))) aa_nil)))))
    (ass_gc (as_if (at_cmp (op_neA (hu64 hr)) (ae_lc [("world", 13)] rfl sc_law.nd (blkOk_by rfl) (by decide) (ai_seq (ae_v 2)) (fun _ _ _ _ _ => (ag_nm 13 sc_law.nd)) (fun _ _ _ _ _ => ats_nil) (fun _ _ _ _ _ => (ae_callX G_can_keep (hr.mono (by first | decide | omega)) takes0 (aa_cons (ae_v 13) (aa_cons (ae_v 5) aa_nil))))) (ae_lst (aa_cons ae_bl (aa_cons ae_bl (aa_cons ae_bl (aa_cons ae_bl (aa_cons ae_bl (aa_cons ae_bl (aa_cons ae_bl (aa_cons ae_bl aa_nil)))))))))) (ass_cons (as_ret ae_bl)
    ass_nil) ass_nil)
    (ass_cons (as_set 6 sc_law.nd (ae_tup (aa_cons ae_int (aa_cons (ae_tup (aa_cons (ae_tup (aa_cons ae_int (aa_cons ae_int aa_nil))) (aa_cons (ae_tup (aa_cons ae_int (aa_cons ae_int aa_nil))) (aa_cons (ae_tup (aa_cons ae_int (aa_cons ae_int aa_nil))) aa_nil)))) (aa_cons (ae_tup (aa_cons ae_int (aa_cons ae_int (aa_cons ae_int aa_nil)))) aa_nil)))))
    (ass_gc (as_if (at_cmp (op_neA (hu64 hr)) (ae_lc [("world", 13)] rfl sc_law.nd (blkOk_by rfl) (by decide) (ai_seq (ae_v 2)) (fun _ _ _ _ _ => (ag_nm 13 sc_law.nd)) (fun _ _ _ _ _ => ats_nil) (fun _ _ _ _ _ => (ae_callX G_can_keep (hr.mono (by first | decide | omega)) takes0 (aa_cons (ae_v 13) (aa_cons (ae_v 6) aa_nil))))) (ae_lst (aa_cons ae_bl (aa_cons ae_bl (aa_cons ae_bl (aa_cons ae_bl (aa_cons ae_bl (aa_cons ae_bl (aa_cons ae_bl (aa_cons ae_bl aa_nil)))))))))) (ass_cons (as_ret ae_bl)
    ass_nil) ass_nil)
    (ass_gc (as_if (AW.at (aw_or (at_cmp (op_neA (hu64 hr)) (ae_B cr_lenN T.b_len (aa_cons (ae_ix (ae_callX G_keeper (hr.mono (by first | decide | omega)) (takes_of rfl rfl rfl rfl) (aa_cons ae_str (aa_cons (ae_v 6) aa_nil))) ae_int) aa_nil)) ae_int) (aw_or (at_cmp (op_neA (hu64 hr)) (ae_B cr_lenN T.b_len (aa_cons (ae_callX G_maps (hr.mono (by first | decide | omega)) (takes_of rfl rfl rfl rfl) (aa_cons (ae_v 6) aa_nil)) aa_nil)) ae_int) (aw_or1 (at_cmp (op_neA (hu64 hr)) (ae_B cr_lenN T.b_len (aa_cons (ae_ix (ae_callX G_keeper (hr.mono (by first | decide | omega)) (takes_of rfl rfl rfl rfl) (aa_cons ae_str (aa_cons (ae_v 6) aa_nil))) ae_int) aa_nil)) ae_int))))) (ass_cons (as_ret ae_bl)
    ass_nil) ass_nil)
    (ass_cons (as_set 7 sc_law.nd (ae_op op_addA ae_int (ae_callX G_law_taken (hr.mono (by first | decide | omega)) (takes_of rfl rfl rfl rfl) (aa_cons (ae_v 1) (aa_cons ae_int aa_nil)))))
    (ass_gc (as_set 8 sc_law.nd (ae_tup (aa_cons ae_int (aa_cons (ae_Ty cr_tuple T.b_tuple (aa_cons (ae_lc [("state", 14)] rfl sc_law.nd (blkOk_by rfl) (by decide) (ai_rng1 T.b_range (aa_cons (ae_v 7) aa_nil)) (fun _ _ _ _ _ => (ag_nm 14 sc_law.nd)) (fun _ _ _ _ _ => ats_nil) (fun _ _ _ _ _ => (ae_tup (aa_cons (ae_op op_modA (ae_Ty cr_int T.b_int (aa_cons (ae_op op_addA (ae_v 14) ae_int) aa_nil)) (ae_v 7)) aa_nil)))) aa_nil)) (aa_cons (ae_op op_addA (ae_tup (aa_cons ae_int aa_nil)) (ae_op op_mulT (ae_tup (aa_cons ae_int aa_nil)) (ae_op op_subA (ae_v 7) ae_int))) aa_nil)))))
    (ass_gc2 (as_set 9 sc_law.nd (ae_callX G_sums (hr.mono (by first | decide | omega)) (takes_of rfl rfl rfl rfl) (aa_cons (ae_v 8) aa_nil)))
    (as_if (AW.at (aw_or (at_cmp (op_neA (hu64 hr)) (ae_ix (ae_v 9) ae_int) (ae_tup (aa_cons (ae_v 7) aa_nil))) (aw_or1 (at_cmp (op_neA (hu64 hr)) (ae_B cr_lenN T.b_len (aa_cons (ae_Ty (cr_listN rfl) T.b_list (aa_cons (ae_ix (ae_v 9) ae_int) aa_nil)) aa_nil)) (ae_v 7))))) (ass_cons (as_ret ae_bl)
    ass_nil) ass_nil)
    (ass_gc (as_if (AW.at (aw_or (at_cmp (op_isNotA) (ae_callX G_reason (hr.mono (by first | decide | omega)) (takes_of rfl rfl rfl rfl) (aa_cons ae_str (aa_cons (ae_v 4) aa_nil))) ae_non) (aw_or1 (at_cmp (op_isNotA) (ae_callX G_reason (hr.mono (by first | decide | omega)) (takes_of rfl rfl rfl rfl) (aa_cons ae_str (aa_cons (ae_v 3) aa_nil))) ae_non)))) (ass_cons (as_ret ae_bl)
    ass_nil) ass_nil)
    (ass_cons (as_set 10 sc_law.nd (ae_tup (aa_cons (ae_tup (aa_cons ae_str (aa_cons ae_int (aa_cons ae_int aa_nil)))) (aa_cons (ae_tup (aa_cons ae_str (aa_cons ae_int (aa_cons ae_int aa_nil)))) (aa_cons (ae_tup (aa_cons ae_str (aa_cons ae_int (aa_cons ae_int aa_nil)))) aa_nil)))))
    (ass_gc (as_if (AW.at (aw_or (at_cmp (op_neA (hu64 hr)) (ae_callX G_text_after (hr.mono (by first | decide | omega)) (takes_of rfl rfl rfl rfl) (aa_cons ae_str (aa_cons ae_int (aa_cons (ae_v 10) aa_nil)))) (ae_tup (aa_cons ae_int aa_nil))) (aw_or1 (at_cmp (op_neA (hu64 hr)) (ae_callX G_told (hr.mono (by first | decide | omega)) (takes_of rfl rfl rfl rfl) (aa_cons ae_str (aa_cons ae_int (aa_cons (ae_v 10) aa_nil)))) (ae_tup (aa_cons (ae_tup (aa_cons ae_str (aa_cons ae_int aa_nil))) (aa_cons (ae_tup (aa_cons ae_str (aa_cons ae_int aa_nil))) (aa_cons (ae_tup (aa_cons ae_str (aa_cons ae_int aa_nil))) aa_nil)))))))) (ass_cons (as_ret ae_bl)
    ass_nil) ass_nil)
    (ass_gc (as_if (at_cmp (op_neA (hu64 hr)) (ae_callX G_keep (hr.mono (by first | decide | omega)) (takes_of rfl rfl rfl rfl) (aa_cons ae_str (aa_cons ae_int (aa_cons (ae_callX G_keeper (hr.mono (by first | decide | omega)) (takes_of rfl rfl rfl rfl) (aa_cons ae_str (aa_cons (ae_v 3) aa_nil))) (aa_cons (ae_callX G_told (hr.mono (by first | decide | omega)) (takes_of rfl rfl rfl rfl) (aa_cons ae_str (aa_cons ae_int (aa_cons (ae_v 10) aa_nil)))) aa_nil))))) (ae_tup (aa_cons ae_int (aa_cons ae_int (aa_cons ae_int (aa_cons ae_int aa_nil)))))) (ass_cons (as_ret ae_bl)
    ass_nil) ass_nil)
    (ass_gc (as_if (AW.at (aw_or (at_cmp (op_neA (hu64 hr)) (ae_callX G_least (hr.mono (by first | decide | omega)) (takes_of rfl rfl rfl rfl) (aa_cons (ae_tup (aa_cons ae_int (aa_cons (ae_tup (aa_cons (ae_tup (aa_cons ae_int aa_nil)) (aa_cons (ae_tup (aa_cons ae_int aa_nil)) (aa_cons (ae_tup (aa_cons ae_int aa_nil)) aa_nil)))) (aa_cons (ae_tup (aa_cons ae_int (aa_cons ae_int (aa_cons ae_int aa_nil)))) aa_nil)))) aa_nil)) (ae_tup (aa_cons ae_int (aa_cons (ae_tup (aa_cons (ae_tup (aa_cons ae_int aa_nil)) aa_nil)) (aa_cons (ae_tup (aa_cons ae_int aa_nil)) aa_nil))))) (aw_or1 (at_cmp (op_neA (hu64 hr)) (ae_callX G_answer (hr.mono (by first | decide | omega)) (takes_of rfl rfl rfl rfl) (aa_cons (ae_v 5) (aa_cons (ae_tup (aa_cons ae_int (aa_cons ae_int aa_nil))) aa_nil))) ae_int)))) (ass_cons (as_ret ae_bl)
    ass_nil) ass_nil)
    (ass_cons (as_set 11 sc_law.nd (ae_tup (aa_cons (ae_tup (aa_cons (ae_tup (aa_cons ae_int (aa_cons ae_int (aa_cons ae_int (aa_cons ae_int aa_nil))))) aa_nil)) (aa_cons (ae_tup (aa_cons ae_int aa_nil)) aa_nil))))
    (ass_gc (as_set 12 sc_law.nd (ae_callX G_fool (hr.mono (by first | decide | omega)) (takes_of rfl rfl rfl rfl) (aa_cons ae_str (aa_cons (ae_v 4) (aa_cons (ae_v 11) aa_nil)))))
    (ass_cons (as_ret (ae_cmp (op_eqA (hu64 hr)) (ae_callX G_answer (hr.mono (by first | decide | omega)) (takes_of rfl rfl rfl rfl) (aa_cons (ae_v 4) (aa_cons (ae_callX G_text_after (hr.mono (by first | decide | omega)) (takes_of rfl rfl rfl rfl) (aa_cons ae_str (aa_cons ae_int (aa_cons (ae_v 12) aa_nil)))) aa_nil))) ae_int))
    ass_nil))))))))))))))))))))))
end
end P12
namespace P12
open PySem PySem.Spec PyProof.Rows L2 AB
/-! ### draws: the store of the law, three cells -/
abbrev nI (n : Nat) : A := .int n
def wCell : Cell := .lst [.str (Str.ofString "end"), .str (Str.ofString "ends"), .str (Str.ofString "stack"), .str (Str.ofString "deque"), .str (Str.ofString "in"), .str (Str.ofString "inout"), .str (Str.ofString "relabel"), .str (Str.ofString "reverse")]
def St (ns : List Int) (a b c : Int) : Store := [.frz (ns.map .int), .lst [.lst 0, .int a, .int b, .int c], wCell]
def Row (ns : List Int) (a b c : Int) (M : Store) : Prop := M[0]? = some (.frz (ns.map .int)) ∧ M[1]? = some (.lst [.lst 0, .int a, .int b, .int c]) ∧ M[2]? = some wCell ∧ M.length = 3
def RowOk (M : Store) : Prop := ∃ ns a b c, Row ns a b c M ∧ 0 ≤ a ∧ 0 ≤ b ∧ b < 2147483647
theorem Row.st {ns : List Int} {a b c : Int} {M : Store} (r : Row ns a b c M) : M = St ns a b c := by
  obtain ⟨h0, h1, h2, h3⟩ := r
  match M, h3 with
  | [x, y, z], _ =>
    cases h0
    cases h1
    cases h2
    rfl
theorem setL_ok {M : Store} {l i : Nat} {xs : List A} {v : A} (h : M[l]? = some (.lst xs)) (hi : i < xs.length) : oSetL M (.lst l) (nI i) v = some (M.set l (.lst (xs.set i v))) := by
  unfold oSetL
  dsimp only
  rw [h]
  dsimp only
  unfold ixN
  rw [if_pos (by omega), if_pos (by omega)]
  simp
theorem mod_nat (x : Int) {n : Nat} (h : 1 ≤ n) : ∃ k : Nat, k < n ∧ x % (n : Int) = (k : Int) := by
  have h1 := Int.emod_nonneg x (show (n : Int) ≠ 0 by omega)
  have h2 := Int.emod_lt_of_pos x (show (0 : Int) < n by omega)
  exact ⟨(x % (n : Int)).toNat, by omega, by omega⟩
theorem mod_ok {M : Store} {x : Int} {n : Nat} (h : 1 ≤ n) : oMod (.int x) (nI n) M = some (.int (x % n), M) := by
  show (if 0 < (n : Int) then some (A.int (x % n), M) else none) = _
  rw [if_pos (by omega)]
theorem fdiv_ok {M : Store} {x : Int} {n : Nat} (h : 1 ≤ n) (h2 : n ≤ 1000) : oFdiv (.int x) (nI n) M = some (.int (x / n), M) := by
  show (if 0 < (n : Int) ∧ (n : Int) < 1073741824 then some (A.int (x / n), M) else none) = _
  rw [if_pos (by omega)]
theorem mul_ok {M : Store} {x : Int} : oMul (.int x) (.int 48271) M = some (.int (x * 48271), M) := by
  show (if (-(2 ^ 64) < x ∧ x < 2 ^ 64) ∨ (-(2 ^ 64) < (48271 : Int) ∧ (48271 : Int) < 2 ^ 64) then some (A.int (x * 48271), M) else none) = _
  rw [if_pos (by omega)]
theorem pow_ok {M : Store} : oPow (.int 10) (.int 18) M = some (.int (10 ^ 18), M) := by
  unfold oPow
  simp
theorem rowIx {ns : List Int} {a b c : Int} {M : Store} (r : Row ns a b c M) {i : Nat} {x : A} (h : [A.lst 0, .int a, .int b, .int c][i]? = some x) : oIx (.lst 1) (nI i) M = some (x, M) := ix_lst (listAt_of r.2.1) h
theorem Row.set {ns : List Int} {a b c : Int} {M : Store} (r : Row ns a b c M) {a' b' c' : Int} : Row ns a' b' c' (M.set 1 (.lst [.lst 0, .int a', .int b', .int c'])) := ⟨at_ne (by omega) r.1, at_set r.2.1, at_ne (by omega) r.2.2.1, by rw [List.length_set]; exact r.2.2.2⟩
def Drawn (n : Nat) (M : Store) (a : A) (M' : Store) : Prop := ∃ k : Nat, k < n ∧ a = nI k ∧ Fr (some 1) M M' ∧ RowOk M'
theorem taken_ok {M : Store} {n : Nat} (h : RowOk M) (h1 : 1 ≤ n) (h2 : n ≤ 1000) : (F_law_taken [.lst 1, nI n] M).W (Drawn n M) := by
  obtain ⟨ns, a, b, c, r, ha, hb, hb2⟩ := h
  refine w_def ?_
  unfold S_law_taken
  repeat walk_at "ws"
  refine w_toE (rowIx (i := 3) r rfl) ?_
  repeat walk_at "ws"
  refine w_toE rfl ⟨_, rfl, ?_⟩
  split
  · repeat walk_at "ws"
    refine w_toE (rowIx (i := 3) r rfl) ?_
    repeat walk_at "ws"
    refine w_toE rfl ?_
    repeat walk_at "ws"
    refine w_toE (mod_ok h1) ?_
    repeat walk_at "ws"
    refine w_toE (rowIx (i := 3) r rfl) ?_
    repeat walk_at "ws"
    refine w_toE (fdiv_ok h1 h2) ?_
    repeat walk_at "ws"
    refine ⟨_, setL_ok (i := 3) r.2.1 (by simp), ?_⟩
    repeat walk_at "ws"
    obtain ⟨k, hk, e⟩ := mod_nat c h1
    exact ⟨k, hk, by rw [e], Fr.refl.setr, ns, a, b, _, r.set, ha, hb, hb2⟩
  · repeat walk_at "ws"
    refine w_toE (rowIx (i := 1) r rfl) ?_
    repeat walk_at "ws"
    refine w_toE rfl ?_
    repeat walk_at "ws"
    refine ⟨_, setL_ok (i := 1) r.2.1 (by simp), ?_⟩
    have r1 : Row ns (a + 1) b c (M.set 1 (.lst [.lst 0, .int (a + 1), .int b, .int c])) := r.set
    have f1 : Fr (some 1) M (M.set 1 (.lst [.lst 0, .int (a + 1), .int b, .int c])) := Fr.refl.setr
    show ((sSeq _ _ : SF) _ (M.set 1 (.lst [.lst 0, .int (a + 1), .int b, .int c]))).W _ _
    revert r1 f1
    generalize M.set 1 (.lst [.lst 0, .int (a + 1), .int b, .int c]) = M1
    intro r1 f1
    repeat walk_at "ws"
    refine w_toE (rowIx (i := 1) r1 rfl) ?_
    repeat walk_at "ws"
    refine w_toE (rowIx (i := 0) r1 rfl) ?_
    repeat walk_at "ws"
    refine w_toE (len_lst (listAt_frz r1.1)) ?_
    refine w_toE rfl ⟨_, rfl, ?_⟩
    split
    · repeat walk_at "ws"
      refine w_toE (rowIx (i := 2) r1 rfl) ?_
      repeat walk_at "ws"
      refine w_toE mul_ok ?_
      repeat walk_at "ws"
      refine w_toE rfl ?_
      repeat walk_at "ws"
      refine w_toE rfl ?_
      repeat walk_at "ws"
      refine w_toE (mod_ok (n := 2147483647) (by omega)) ?_
      repeat walk_at "ws"
      refine ⟨_, setL_ok (i := 2) r1.2.1 (by simp), ?_⟩
      obtain ⟨k2, hk2, e2⟩ := mod_nat (b * 48271 + 11) (n := 2147483647) (by omega)
      have r2 : Row ns (a + 1) ((b * 48271 + 11) % ((2147483647 : Nat) : Int)) c (M1.set 1 (.lst [.lst 0, .int (a + 1), .int ((b * 48271 + 11) % ((2147483647 : Nat) : Int)), .int c])) := r1.set
      have f2 : Fr (some 1) M (M1.set 1 (.lst [.lst 0, .int (a + 1), .int ((b * 48271 + 11) % ((2147483647 : Nat) : Int)), .int c])) := f1.setr
      show ((sSeq _ _ : SF) _ (M1.set 1 (.lst [.lst 0, .int (a + 1), .int ((b * 48271 + 11) % ((2147483647 : Nat) : Int)), .int c]))).W _ _
      revert r2 f2
      generalize M1.set 1 (.lst [.lst 0, .int (a + 1), .int ((b * 48271 + 11) % ((2147483647 : Nat) : Int)), .int c]) = M2
      intro r2 f2
      repeat walk_at "ws"
      refine w_toE (rowIx (i := 2) r2 rfl) ?_
      repeat walk_at "ws"
      refine w_toE (fdiv_ok (n := 7) (by omega) (by omega)) ?_
      repeat walk_at "ws"
      refine w_toE rfl ?_
      repeat walk_at "ws"
      refine w_toE (mod_ok h1) ?_
      obtain ⟨k, hk, e⟩ := mod_nat ((b * 48271 + 11) % ((2147483647 : Nat) : Int) / ((7 : Nat) : Int)) h1
      exact ⟨k, hk, by rw [e], f2, ns, _, _, c, r2, by omega, by omega, by omega⟩
    · rename_i hlen
      have hlen : a < ns.length := by
        simp at hlen
        omega
      repeat walk_at "ws"
      refine w_toE (rowIx (i := 0) r1 rfl) ?_
      repeat walk_at "ws"
      refine w_toE (rowIx (i := 1) r1 rfl) ?_
      repeat walk_at "ws"
      refine w_toE rfl ?_
      obtain ⟨j, rfl⟩ := Int.eq_ofNat_of_zero_le ha
      have hj : j < ns.length := by omega
      have ej : ((j : Int) + 1 - 1) = ((j : Nat) : Int) := by omega
      rw [ej]
      refine w_toE (ix_lst (i := j) (x := .int ns[j]) (listAt_frz r1.1) (by rw [List.getElem?_map, List.getElem?_eq_getElem hj]; rfl)) ?_
      repeat walk_at "ws"
      refine w_toE (rowIx (i := 2) r1 rfl) ?_
      repeat walk_at "ws"
      refine w_toE mul_ok ?_
      repeat walk_at "ws"
      refine w_toE rfl ?_
      repeat walk_at "ws"
      refine w_toE rfl ?_
      repeat walk_at "ws"
      refine w_toE rfl ?_
      repeat walk_at "ws"
      refine w_toE (mod_ok (n := 2147483647) (by omega)) ?_
      repeat walk_at "ws"
      refine ⟨_, setL_ok (i := 2) r1.2.1 (by simp), ?_⟩
      obtain ⟨k2, hk2, e2⟩ := mod_nat (b * 48271 + ns[j] + 11) (n := 2147483647) (by omega)
      have r2 : Row ns (j + 1) ((b * 48271 + ns[j] + 11) % ((2147483647 : Nat) : Int)) c (M1.set 1 (.lst [.lst 0, .int (j + 1), .int ((b * 48271 + ns[j] + 11) % ((2147483647 : Nat) : Int)), .int c])) := r1.set
      have f2 : Fr (some 1) M (M1.set 1 (.lst [.lst 0, .int (j + 1), .int ((b * 48271 + ns[j] + 11) % ((2147483647 : Nat) : Int)), .int c])) := f1.setr
      show ((sSeq _ _ : SF) _ (M1.set 1 (.lst [.lst 0, .int (j + 1), .int ((b * 48271 + ns[j] + 11) % ((2147483647 : Nat) : Int)), .int c]))).W _ _
      revert r2 f2
      generalize M1.set 1 (.lst [.lst 0, .int (j + 1), .int ((b * 48271 + ns[j] + 11) % ((2147483647 : Nat) : Int)), .int c]) = M2
      intro r2 f2
      obtain ⟨k, hk, e⟩ := mod_nat ns[j] h1
      repeat walk_at "ws"
      refine w_toE pow_ok ?_
      refine w_toE rfl ⟨_, rfl, ?_⟩
      split
      · repeat walk_at "ws"
        refine w_toE (fdiv_ok h1 h2) ?_
        repeat walk_at "ws"
        refine ⟨_, setL_ok (i := 3) r2.2.1 (by simp), ?_⟩
        repeat walk_at "ws"
        refine w_toE rfl ?_
        repeat walk_at "ws"
        refine w_toE (mod_ok h1) ?_
        exact ⟨k, hk, by rw [e], f2.setr, ns, _, _, _, r2.set, by omega, by omega, by omega⟩
      · repeat walk_at "ws"
        refine w_toE rfl ?_
        repeat walk_at "ws"
        refine w_toE (mod_ok h1) ?_
        exact ⟨k, hk, by rw [e], f2, ns, _, _, _, r2, by omega, by omega, by omega⟩
end P12
namespace P12
open PySem PySem.Spec PyProof.Rows L2 AB
/-! ### the law: each statement is reckoned from the store of three cells -/
def gcV (M : Store) : SO → Option (Sl × Store)
  | .nx τ' M' => some (τ'.map (keepLt M.length), M'.take M.length)
  | _ => none
theorem gc_v {f : SF} {τ τ'' : Sl} {M : Store} (h : gcV M (f τ M) = some (τ'', M)) : gcS f τ M = .nx τ'' M := by
  refine gc_eq ?_
  revert h
  generalize f τ M = o
  intro h
  cases o with
  | nx τ' M' =>
    injection h with h
    injection h with h1 h2
    exact ⟨h1, h2⟩
  | _ => cases h
theorem seq_k {s t : SF} {τ τ1 : Sl} {M M1 : Store} {N : Sl → Store → Prop} {R : A → Store → Prop} (h : s τ M = .nx τ1 M1) (k : (t τ1 M1).W N R) : (sSeq s t τ M).W N R := by
  unfold sSeq
  rw [h]
  exact k
abbrev T (xs : List A) : A := .tup xs
abbrev I (xs : List Int) : A := .tup (xs.map .int)
def even : A := T [.int 2, T [I [1,0], I [0,1]], I [1,0]]
def some_ : A := T [.int 2, T [I [1,0], I [1,1]], I [0,1]]
def first : A := T [.int 2, T [I [1,2], I [1,1], I [2,2]], I [0,1,0]]
def turns : A := T [.int 2, T [I [1,1], I [0,2], I [2,0]], I [1,0,0]]
def clock : Nat → A
  | 2 => T [.int 1, T [I [1], I [0]], I [1,0]]
  | 3 => T [.int 1, T [I [1], I [2], I [0]], I [1,0,0]]
  | 4 => T [.int 1, T [I [1], I [2], I [3], I [0]], I [1,0,0,0]]
  | 5 => T [.int 1, T [I [1], I [2], I [3], I [4], I [0]], I [1,0,0,0,0]]
  | 6 => T [.int 1, T [I [1], I [2], I [3], I [4], I [5], I [0]], I [1,0,0,0,0,0]]
  | _ => T [.int 1, T [I [1], I [2], I [3], I [4], I [5], I [6], I [0]], I [1,0,0,0,0,0,0]]
def put (a b : Int) : A := T [.str (Str.ofString "put"), .int a, .int b]
def edits : A := T [put 0 0, put 1 0, T [.str (Str.ofString "take"), .int 0, .int 1]]
def lone : A := T [T [I [0,0,0,0]], I [0]]
/-- the slots -/
def sl (v4 v5 v6 v7 v8 v9 v10 v11 v12 : Option A) : Sl := [some (.lst 0), some (.lst 1), some (.lst 2), some even, v4, v5, v6, v7, v8, v9, v10, v11, v12, none, none]
def history : A := T [put 0 0]
def isTb : SO → Bool
  | .rt (.bl true) _ => true
  | _ => false
theorem ret_k {o : SO} {N : Sl → Store → Prop} (h : isTb o = true) : o.W N fun v _ => v = .bl true := by
  unfold isTb at h
  split at h
  · exact (show SO.W (.rt (.bl true) _) N fun v _ => v = .bl true by with_unfolding_all rfl)
  · cases h
def S_many : SF := sAsg (.nm 7) (eOp oAdd (eC (.int 2)) (eCall 2 F_law_taken (eCons (eVar 1) (eCons (eC (.int 6)) eNil))))
theorem draw_ok (ns : List Int) : ∃ k : Nat, k < 6 ∧ ∃ ns' a b c, S_many (sl (some some_) (some first) (some turns) none none none none none none) (St ns 0 1012 0) = .nx (sl (some some_) (some first) (some turns) (some (.int (2 + (k : Int)))) none none none none none) (St ns' a b c) := by
  have r : RowOk (St ns 0 1012 0) := ⟨ns, 0, 1012, 0, ⟨rfl, rfl, rfl, rfl⟩, by omega, by omega, by omega⟩
  obtain ⟨v, M', e, k, hk, rfl, _, ns', a, b, c, r', _⟩ := EO.W.out (taken_ok (n := 6) r (by omega) (by omega))
  refine ⟨k, hk, ns', a, b, c, ?_⟩
  rw [← r'.st]
  have e2 : eCall 2 F_law_taken (eCons (eVar 1) (eCons (eC (.int 6)) eNil)) (sl (some some_) (some first) (some turns) none none none none none none) (St ns 0 1012 0) = F_law_taken [.lst 1, nI 6] (St ns 0 1012 0) := by kernel_rfl
  unfold S_many sAsg eOp
  have e3 : eC (.int 2) (sl (some some_) (some first) (some turns) none none none none none none) (St ns 0 1012 0) = .ok (.int 2) (St ns 0 1012 0) := rfl
  rw [e3]
  unfold EO.bind
  dsimp only
  rw [e2, e]
  rfl
/-! ### the statements, one by one -/
def F3 : SF := (sIf (bOr (eB (eOp oNe (eLc (iSeq (eVar 2)) (.nm 13) bYes (eCall 2 F_can_keep (eCons (eVar 13) (eCons (eVar 3) eNil))) [13]) (eOp oMul (eLst (eCons (eC (.bl true)) eNil)) (eC (.int 8))))) (eB (eOp oNe (eFn oLenN (eCons (eOp oIx (eCall 2 F_keeper (eCons (eC (.str (Str.ofString "inout"))) (eCons (eVar 3) eNil))) (eC (.int 0))) eNil)) (eC (.int 2))))) (sSeq (sRet (eC (.bl false)))
    sNil) sNil)
theorem g3 {ns : List Int} {a b c : Int} : gcS F3 (sl none none none none none none none none none) (St ns a b c) = .nx (sl none none none none none none none none none) (St ns a b c) := gc_v (by kernel_rfl)
def F5 : SF := (sIf (eB (eOp oNe (eLc (iSeq (eVar 2)) (.nm 13) bYes (eCall 2 F_can_keep (eCons (eVar 13) (eCons (eVar 4) eNil))) [13]) (eLst (eCons (eC (.bl true)) (eCons (eC (.bl true)) (eCons (eC (.bl false)) (eCons (eC (.bl false)) (eCons (eC (.bl true)) (eCons (eC (.bl false)) (eCons (eC (.bl true)) (eCons (eC (.bl true)) eNil))))))))))) (sSeq (sRet (eC (.bl false)))
    sNil) sNil)
theorem g5 {ns : List Int} {a b c : Int} : gcS F5 (sl (some some_) none none none none none none none none) (St ns a b c) = .nx (sl (some some_) none none none none none none none none) (St ns a b c) := gc_v (by kernel_rfl)
def F7 : SF := (sIf (eB (eOp oNe (eLc (iSeq (eVar 2)) (.nm 13) bYes (eCall 2 F_can_keep (eCons (eVar 13) (eCons (eVar 5) eNil))) [13]) (eLst (eCons (eC (.bl true)) (eCons (eC (.bl true)) (eCons (eC (.bl false)) (eCons (eC (.bl false)) (eCons (eC (.bl false)) (eCons (eC (.bl false)) (eCons (eC (.bl true)) (eCons (eC (.bl true)) eNil))))))))))) (sSeq (sRet (eC (.bl false)))
    sNil) sNil)
theorem g7 {ns : List Int} {a b c : Int} : gcS F7 (sl (some some_) (some first) none none none none none none none) (St ns a b c) = .nx (sl (some some_) (some first) none none none none none none none) (St ns a b c) := gc_v (by kernel_rfl)
def F9 : SF := (sIf (eB (eOp oNe (eLc (iSeq (eVar 2)) (.nm 13) bYes (eCall 2 F_can_keep (eCons (eVar 13) (eCons (eVar 6) eNil))) [13]) (eLst (eCons (eC (.bl true)) (eCons (eC (.bl true)) (eCons (eC (.bl true)) (eCons (eC (.bl true)) (eCons (eC (.bl false)) (eCons (eC (.bl false)) (eCons (eC (.bl true)) (eCons (eC (.bl true)) eNil))))))))))) (sSeq (sRet (eC (.bl false)))
    sNil) sNil)
theorem g9 {ns : List Int} {a b c : Int} : gcS F9 (sl (some some_) (some first) (some turns) none none none none none none) (St ns a b c) = .nx (sl (some some_) (some first) (some turns) none none none none none none) (St ns a b c) := gc_v (by kernel_rfl)
def F10 : SF := (sIf (bOr (eB (eOp oNe (eFn oLenN (eCons (eOp oIx (eCall 2 F_keeper (eCons (eC (.str (Str.ofString "stack"))) (eCons (eVar 6) eNil))) (eC (.int 0))) eNil)) (eC (.int 3)))) (bOr (eB (eOp oNe (eFn oLenN (eCons (eCall 1 F_maps (eCons (eVar 6) eNil)) eNil)) (eC (.int 6)))) (eB (eOp oNe (eFn oLenN (eCons (eOp oIx (eCall 2 F_keeper (eCons (eC (.str (Str.ofString "deque"))) (eCons (eVar 6) eNil))) (eC (.int 0))) eNil)) (eC (.int 6)))))) (sSeq (sRet (eC (.bl false)))
    sNil) sNil)
theorem g10 {ns : List Int} {a b c : Int} : gcS F10 (sl (some some_) (some first) (some turns) none none none none none none) (St ns a b c) = .nx (sl (some some_) (some first) (some turns) none none none none none none) (St ns a b c) := gc_v (by kernel_rfl)
def F12 : SF := (sAsg (.nm 8) (eTup (eCons (eC (.int 1)) (eCons (eFn oTuple (eCons (eLc (iRng1 (eCons (eVar 7) eNil)) (.nm 14) bYes (eTup (eCons (eOp oMod (eFn oInt1 (eCons (eOp oAdd (eVar 14) (eC (.int 1))) eNil)) (eVar 7)) eNil)) [14]) eNil)) (eCons (eOp oAdd (eTup (eCons (eC (.int 1)) eNil)) (eOp oMulT (eTup (eCons (eC (.int 0)) eNil)) (eOp oSub (eVar 7) (eC (.int 1))))) eNil)))))
theorem g12_2 {ns : List Int} {a b c : Int} : gcS F12 (sl (some some_) (some first) (some turns) (some (.int 2)) none none none none none) (St ns a b c) = .nx (sl (some some_) (some first) (some turns) (some (.int 2)) (some (clock 2)) none none none none) (St ns a b c) := gc_v (by kernel_rfl)
def F13 : SF := (sSeq (sAsg (.nm 9) (eCall 1 F_sums (eCons (eVar 8) eNil)))
    (sIf (bOr (eB (eOp oNe (eOp oIx (eVar 9) (eC (.int 0))) (eTup (eCons (eVar 7) eNil)))) (eB (eOp oNe (eFn oLenN (eCons (eFn oListN (eCons (eOp oIx (eVar 9) (eC (.int 2))) eNil)) eNil)) (eVar 7)))) (sSeq (sRet (eC (.bl false)))
    sNil) sNil))
theorem g13_2 {ns : List Int} {a b c : Int} : gcS F13 (sl (some some_) (some first) (some turns) (some (.int 2)) (some (clock 2)) none none none none) (St ns a b c) = .nx (sl (some some_) (some first) (some turns) (some (.int 2)) (some (clock 2)) none none none none) (St ns a b c) := gc_v (by kernel_rfl)
def F14 : SF := (sIf (bOr (eB (eOp oIsNot (eCall 2 F_reason (eCons (eC (.str (Str.ofString "in"))) (eCons (eVar 4) eNil))) (eC .non))) (eB (eOp oIsNot (eCall 2 F_reason (eCons (eC (.str (Str.ofString "stack"))) (eCons (eVar 3) eNil))) (eC .non)))) (sSeq (sRet (eC (.bl false)))
    sNil) sNil)
theorem g14_2 {ns : List Int} {a b c : Int} : gcS F14 (sl (some some_) (some first) (some turns) (some (.int 2)) (some (clock 2)) none none none none) (St ns a b c) = .nx (sl (some some_) (some first) (some turns) (some (.int 2)) (some (clock 2)) none none none none) (St ns a b c) := gc_v (by kernel_rfl)
def F16 : SF := (sIf (bOr (eB (eOp oNe (eCall 3 F_text_after (eCons (eC (.str (Str.ofString "inout"))) (eCons (eC (.int 2)) (eCons (eVar 10) eNil)))) (eTup (eCons (eC (.int 1)) eNil)))) (eB (eOp oNe (eCall 3 F_told (eCons (eC (.str (Str.ofString "inout"))) (eCons (eC (.int 2)) (eCons (eVar 10) eNil)))) (eTup (eCons (eTup (eCons (eC (.str (Str.ofString "put"))) (eCons (eC (.int 0)) eNil))) (eCons (eTup (eCons (eC (.str (Str.ofString "put"))) (eCons (eC (.int 1)) eNil))) (eCons (eTup (eCons (eC (.str (Str.ofString "take"))) (eCons (eC (.int 0)) eNil))) eNil))))))) (sSeq (sRet (eC (.bl false)))
    sNil) sNil)
theorem g16_2 {ns : List Int} {a b c : Int} : gcS F16 (sl (some some_) (some first) (some turns) (some (.int 2)) (some (clock 2)) none (some edits) none none) (St ns a b c) = .nx (sl (some some_) (some first) (some turns) (some (.int 2)) (some (clock 2)) none (some edits) none none) (St ns a b c) := gc_v (by kernel_rfl)
def F17 : SF := (sIf (eB (eOp oNe (eCall 4 F_keep (eCons (eC (.str (Str.ofString "inout"))) (eCons (eC (.int 2)) (eCons (eCall 2 F_keeper (eCons (eC (.str (Str.ofString "inout"))) (eCons (eVar 3) eNil))) (eCons (eCall 3 F_told (eCons (eC (.str (Str.ofString "inout"))) (eCons (eC (.int 2)) (eCons (eVar 10) eNil)))) eNil))))) (eTup (eCons (eC (.int 1)) (eCons (eC (.int 0)) (eCons (eC (.int 0)) (eCons (eC (.int 1)) eNil))))))) (sSeq (sRet (eC (.bl false)))
    sNil) sNil)
theorem g17_2 {ns : List Int} {a b c : Int} : gcS F17 (sl (some some_) (some first) (some turns) (some (.int 2)) (some (clock 2)) none (some edits) none none) (St ns a b c) = .nx (sl (some some_) (some first) (some turns) (some (.int 2)) (some (clock 2)) none (some edits) none none) (St ns a b c) := gc_v (by kernel_rfl)
def F18 : SF := (sIf (bOr (eB (eOp oNe (eCall 1 F_least (eCons (eTup (eCons (eC (.int 1)) (eCons (eTup (eCons (eTup (eCons (eC (.int 1)) eNil)) (eCons (eTup (eCons (eC (.int 2)) eNil)) (eCons (eTup (eCons (eC (.int 0)) eNil)) eNil)))) (eCons (eTup (eCons (eC (.int 1)) (eCons (eC (.int 1)) (eCons (eC (.int 1)) eNil)))) eNil)))) eNil)) (eTup (eCons (eC (.int 1)) (eCons (eTup (eCons (eTup (eCons (eC (.int 0)) eNil)) eNil)) (eCons (eTup (eCons (eC (.int 1)) eNil)) eNil)))))) (eB (eOp oNe (eCall 2 F_answer (eCons (eVar 5) (eCons (eTup (eCons (eC (.int 1)) (eCons (eC (.int 0)) eNil))) eNil))) (eC (.int 0))))) (sSeq (sRet (eC (.bl false)))
    sNil) sNil)
theorem g18_2 {ns : List Int} {a b c : Int} : gcS F18 (sl (some some_) (some first) (some turns) (some (.int 2)) (some (clock 2)) none (some edits) none none) (St ns a b c) = .nx (sl (some some_) (some first) (some turns) (some (.int 2)) (some (clock 2)) none (some edits) none none) (St ns a b c) := gc_v (by kernel_rfl)
def F20 : SF := (sAsg (.nm 12) (eCall 3 F_fool (eCons (eC (.str (Str.ofString "inout"))) (eCons (eVar 4) (eCons (eVar 11) eNil)))))
theorem g20_2 {ns : List Int} {a b c : Int} : gcS F20 (sl (some some_) (some first) (some turns) (some (.int 2)) (some (clock 2)) none (some edits) (some lone) none) (St ns a b c) = .nx (sl (some some_) (some first) (some turns) (some (.int 2)) (some (clock 2)) none (some edits) (some lone) (some history)) (St ns a b c) := gc_v (by kernel_rfl)
theorem g12_3 {ns : List Int} {a b c : Int} : gcS F12 (sl (some some_) (some first) (some turns) (some (.int 3)) none none none none none) (St ns a b c) = .nx (sl (some some_) (some first) (some turns) (some (.int 3)) (some (clock 3)) none none none none) (St ns a b c) := gc_v (by kernel_rfl)
theorem g13_3 {ns : List Int} {a b c : Int} : gcS F13 (sl (some some_) (some first) (some turns) (some (.int 3)) (some (clock 3)) none none none none) (St ns a b c) = .nx (sl (some some_) (some first) (some turns) (some (.int 3)) (some (clock 3)) none none none none) (St ns a b c) := gc_v (by kernel_rfl)
theorem g14_3 {ns : List Int} {a b c : Int} : gcS F14 (sl (some some_) (some first) (some turns) (some (.int 3)) (some (clock 3)) none none none none) (St ns a b c) = .nx (sl (some some_) (some first) (some turns) (some (.int 3)) (some (clock 3)) none none none none) (St ns a b c) := gc_v (by kernel_rfl)
theorem g16_3 {ns : List Int} {a b c : Int} : gcS F16 (sl (some some_) (some first) (some turns) (some (.int 3)) (some (clock 3)) none (some edits) none none) (St ns a b c) = .nx (sl (some some_) (some first) (some turns) (some (.int 3)) (some (clock 3)) none (some edits) none none) (St ns a b c) := gc_v (by kernel_rfl)
theorem g17_3 {ns : List Int} {a b c : Int} : gcS F17 (sl (some some_) (some first) (some turns) (some (.int 3)) (some (clock 3)) none (some edits) none none) (St ns a b c) = .nx (sl (some some_) (some first) (some turns) (some (.int 3)) (some (clock 3)) none (some edits) none none) (St ns a b c) := gc_v (by kernel_rfl)
theorem g18_3 {ns : List Int} {a b c : Int} : gcS F18 (sl (some some_) (some first) (some turns) (some (.int 3)) (some (clock 3)) none (some edits) none none) (St ns a b c) = .nx (sl (some some_) (some first) (some turns) (some (.int 3)) (some (clock 3)) none (some edits) none none) (St ns a b c) := gc_v (by kernel_rfl)
theorem g20_3 {ns : List Int} {a b c : Int} : gcS F20 (sl (some some_) (some first) (some turns) (some (.int 3)) (some (clock 3)) none (some edits) (some lone) none) (St ns a b c) = .nx (sl (some some_) (some first) (some turns) (some (.int 3)) (some (clock 3)) none (some edits) (some lone) (some history)) (St ns a b c) := gc_v (by kernel_rfl)
theorem g12_4 {ns : List Int} {a b c : Int} : gcS F12 (sl (some some_) (some first) (some turns) (some (.int 4)) none none none none none) (St ns a b c) = .nx (sl (some some_) (some first) (some turns) (some (.int 4)) (some (clock 4)) none none none none) (St ns a b c) := gc_v (by kernel_rfl)
theorem g13_4 {ns : List Int} {a b c : Int} : gcS F13 (sl (some some_) (some first) (some turns) (some (.int 4)) (some (clock 4)) none none none none) (St ns a b c) = .nx (sl (some some_) (some first) (some turns) (some (.int 4)) (some (clock 4)) none none none none) (St ns a b c) := gc_v (by kernel_rfl)
theorem g14_4 {ns : List Int} {a b c : Int} : gcS F14 (sl (some some_) (some first) (some turns) (some (.int 4)) (some (clock 4)) none none none none) (St ns a b c) = .nx (sl (some some_) (some first) (some turns) (some (.int 4)) (some (clock 4)) none none none none) (St ns a b c) := gc_v (by kernel_rfl)
theorem g16_4 {ns : List Int} {a b c : Int} : gcS F16 (sl (some some_) (some first) (some turns) (some (.int 4)) (some (clock 4)) none (some edits) none none) (St ns a b c) = .nx (sl (some some_) (some first) (some turns) (some (.int 4)) (some (clock 4)) none (some edits) none none) (St ns a b c) := gc_v (by kernel_rfl)
theorem g17_4 {ns : List Int} {a b c : Int} : gcS F17 (sl (some some_) (some first) (some turns) (some (.int 4)) (some (clock 4)) none (some edits) none none) (St ns a b c) = .nx (sl (some some_) (some first) (some turns) (some (.int 4)) (some (clock 4)) none (some edits) none none) (St ns a b c) := gc_v (by kernel_rfl)
theorem g18_4 {ns : List Int} {a b c : Int} : gcS F18 (sl (some some_) (some first) (some turns) (some (.int 4)) (some (clock 4)) none (some edits) none none) (St ns a b c) = .nx (sl (some some_) (some first) (some turns) (some (.int 4)) (some (clock 4)) none (some edits) none none) (St ns a b c) := gc_v (by kernel_rfl)
theorem g20_4 {ns : List Int} {a b c : Int} : gcS F20 (sl (some some_) (some first) (some turns) (some (.int 4)) (some (clock 4)) none (some edits) (some lone) none) (St ns a b c) = .nx (sl (some some_) (some first) (some turns) (some (.int 4)) (some (clock 4)) none (some edits) (some lone) (some history)) (St ns a b c) := gc_v (by kernel_rfl)
theorem g12_5 {ns : List Int} {a b c : Int} : gcS F12 (sl (some some_) (some first) (some turns) (some (.int 5)) none none none none none) (St ns a b c) = .nx (sl (some some_) (some first) (some turns) (some (.int 5)) (some (clock 5)) none none none none) (St ns a b c) := gc_v (by kernel_rfl)
theorem g13_5 {ns : List Int} {a b c : Int} : gcS F13 (sl (some some_) (some first) (some turns) (some (.int 5)) (some (clock 5)) none none none none) (St ns a b c) = .nx (sl (some some_) (some first) (some turns) (some (.int 5)) (some (clock 5)) none none none none) (St ns a b c) := gc_v (by kernel_rfl)
theorem g14_5 {ns : List Int} {a b c : Int} : gcS F14 (sl (some some_) (some first) (some turns) (some (.int 5)) (some (clock 5)) none none none none) (St ns a b c) = .nx (sl (some some_) (some first) (some turns) (some (.int 5)) (some (clock 5)) none none none none) (St ns a b c) := gc_v (by kernel_rfl)
theorem g16_5 {ns : List Int} {a b c : Int} : gcS F16 (sl (some some_) (some first) (some turns) (some (.int 5)) (some (clock 5)) none (some edits) none none) (St ns a b c) = .nx (sl (some some_) (some first) (some turns) (some (.int 5)) (some (clock 5)) none (some edits) none none) (St ns a b c) := gc_v (by kernel_rfl)
theorem g17_5 {ns : List Int} {a b c : Int} : gcS F17 (sl (some some_) (some first) (some turns) (some (.int 5)) (some (clock 5)) none (some edits) none none) (St ns a b c) = .nx (sl (some some_) (some first) (some turns) (some (.int 5)) (some (clock 5)) none (some edits) none none) (St ns a b c) := gc_v (by kernel_rfl)
theorem g18_5 {ns : List Int} {a b c : Int} : gcS F18 (sl (some some_) (some first) (some turns) (some (.int 5)) (some (clock 5)) none (some edits) none none) (St ns a b c) = .nx (sl (some some_) (some first) (some turns) (some (.int 5)) (some (clock 5)) none (some edits) none none) (St ns a b c) := gc_v (by kernel_rfl)
theorem g20_5 {ns : List Int} {a b c : Int} : gcS F20 (sl (some some_) (some first) (some turns) (some (.int 5)) (some (clock 5)) none (some edits) (some lone) none) (St ns a b c) = .nx (sl (some some_) (some first) (some turns) (some (.int 5)) (some (clock 5)) none (some edits) (some lone) (some history)) (St ns a b c) := gc_v (by kernel_rfl)
theorem g12_6 {ns : List Int} {a b c : Int} : gcS F12 (sl (some some_) (some first) (some turns) (some (.int 6)) none none none none none) (St ns a b c) = .nx (sl (some some_) (some first) (some turns) (some (.int 6)) (some (clock 6)) none none none none) (St ns a b c) := gc_v (by kernel_rfl)
theorem g13_6 {ns : List Int} {a b c : Int} : gcS F13 (sl (some some_) (some first) (some turns) (some (.int 6)) (some (clock 6)) none none none none) (St ns a b c) = .nx (sl (some some_) (some first) (some turns) (some (.int 6)) (some (clock 6)) none none none none) (St ns a b c) := gc_v (by kernel_rfl)
theorem g14_6 {ns : List Int} {a b c : Int} : gcS F14 (sl (some some_) (some first) (some turns) (some (.int 6)) (some (clock 6)) none none none none) (St ns a b c) = .nx (sl (some some_) (some first) (some turns) (some (.int 6)) (some (clock 6)) none none none none) (St ns a b c) := gc_v (by kernel_rfl)
theorem g16_6 {ns : List Int} {a b c : Int} : gcS F16 (sl (some some_) (some first) (some turns) (some (.int 6)) (some (clock 6)) none (some edits) none none) (St ns a b c) = .nx (sl (some some_) (some first) (some turns) (some (.int 6)) (some (clock 6)) none (some edits) none none) (St ns a b c) := gc_v (by kernel_rfl)
theorem g17_6 {ns : List Int} {a b c : Int} : gcS F17 (sl (some some_) (some first) (some turns) (some (.int 6)) (some (clock 6)) none (some edits) none none) (St ns a b c) = .nx (sl (some some_) (some first) (some turns) (some (.int 6)) (some (clock 6)) none (some edits) none none) (St ns a b c) := gc_v (by kernel_rfl)
theorem g18_6 {ns : List Int} {a b c : Int} : gcS F18 (sl (some some_) (some first) (some turns) (some (.int 6)) (some (clock 6)) none (some edits) none none) (St ns a b c) = .nx (sl (some some_) (some first) (some turns) (some (.int 6)) (some (clock 6)) none (some edits) none none) (St ns a b c) := gc_v (by kernel_rfl)
theorem g20_6 {ns : List Int} {a b c : Int} : gcS F20 (sl (some some_) (some first) (some turns) (some (.int 6)) (some (clock 6)) none (some edits) (some lone) none) (St ns a b c) = .nx (sl (some some_) (some first) (some turns) (some (.int 6)) (some (clock 6)) none (some edits) (some lone) (some history)) (St ns a b c) := gc_v (by kernel_rfl)
theorem g12_7 {ns : List Int} {a b c : Int} : gcS F12 (sl (some some_) (some first) (some turns) (some (.int 7)) none none none none none) (St ns a b c) = .nx (sl (some some_) (some first) (some turns) (some (.int 7)) (some (clock 7)) none none none none) (St ns a b c) := gc_v (by kernel_rfl)
theorem g13_7 {ns : List Int} {a b c : Int} : gcS F13 (sl (some some_) (some first) (some turns) (some (.int 7)) (some (clock 7)) none none none none) (St ns a b c) = .nx (sl (some some_) (some first) (some turns) (some (.int 7)) (some (clock 7)) none none none none) (St ns a b c) := gc_v (by kernel_rfl)
theorem g14_7 {ns : List Int} {a b c : Int} : gcS F14 (sl (some some_) (some first) (some turns) (some (.int 7)) (some (clock 7)) none none none none) (St ns a b c) = .nx (sl (some some_) (some first) (some turns) (some (.int 7)) (some (clock 7)) none none none none) (St ns a b c) := gc_v (by kernel_rfl)
theorem g16_7 {ns : List Int} {a b c : Int} : gcS F16 (sl (some some_) (some first) (some turns) (some (.int 7)) (some (clock 7)) none (some edits) none none) (St ns a b c) = .nx (sl (some some_) (some first) (some turns) (some (.int 7)) (some (clock 7)) none (some edits) none none) (St ns a b c) := gc_v (by kernel_rfl)
theorem g17_7 {ns : List Int} {a b c : Int} : gcS F17 (sl (some some_) (some first) (some turns) (some (.int 7)) (some (clock 7)) none (some edits) none none) (St ns a b c) = .nx (sl (some some_) (some first) (some turns) (some (.int 7)) (some (clock 7)) none (some edits) none none) (St ns a b c) := gc_v (by kernel_rfl)
theorem g18_7 {ns : List Int} {a b c : Int} : gcS F18 (sl (some some_) (some first) (some turns) (some (.int 7)) (some (clock 7)) none (some edits) none none) (St ns a b c) = .nx (sl (some some_) (some first) (some turns) (some (.int 7)) (some (clock 7)) none (some edits) none none) (St ns a b c) := gc_v (by kernel_rfl)
theorem g20_7 {ns : List Int} {a b c : Int} : gcS F20 (sl (some some_) (some first) (some turns) (some (.int 7)) (some (clock 7)) none (some edits) (some lone) none) (St ns a b c) = .nx (sl (some some_) (some first) (some turns) (some (.int 7)) (some (clock 7)) none (some edits) (some lone) (some history)) (St ns a b c) := gc_v (by kernel_rfl)
theorem law_t (ns : List Int) : ∃ M, F_law [.lst 0] (scr ns) = .ok (.bl true) M := by
  have h : (F_law [.lst 0] (scr ns)).W fun v _ => v = .bl true := by
    refine w_def ?_
    unfold S_law
    refine seq_k (τ1 := [some (.lst 0), some (.lst 1), none, none, none, none, none, none, none, none, none, none, none, none, none]) (M1 := [.frz (ns.map .int), .lst [.lst 0, .int 0, .int 1012, .int 0]]) (by kernel_rfl) ?_
    refine seq_k (τ1 := [some (.lst 0), some (.lst 1), some (.lst 2), none, none, none, none, none, none, none, none, none, none, none, none]) (M1 := St ns 0 1012 0) (by kernel_rfl) ?_
    refine seq_k (τ1 := sl none none none none none none none none none) (M1 := St ns 0 1012 0) (by kernel_rfl) ?_
    refine seq_k g3 ?_
    refine seq_k (τ1 := sl (some some_) none none none none none none none none) (M1 := St ns 0 1012 0) (by kernel_rfl) ?_
    refine seq_k g5 ?_
    refine seq_k (τ1 := sl (some some_) (some first) none none none none none none none) (M1 := St ns 0 1012 0) (by kernel_rfl) ?_
    refine seq_k g7 ?_
    refine seq_k (τ1 := sl (some some_) (some first) (some turns) none none none none none none) (M1 := St ns 0 1012 0) (by kernel_rfl) ?_
    refine seq_k g9 ?_
    refine seq_k g10 ?_
    obtain ⟨k, hk, ns', a, b, c, e⟩ := draw_ok ns
    refine seq_k e ?_
    have hm : k = 0 ∨ k = 1 ∨ k = 2 ∨ k = 3 ∨ k = 4 ∨ k = 5 := by omega
    rcases hm with rfl | rfl | rfl | rfl | rfl | rfl
    · refine seq_k g12_2 ?_
      refine seq_k g13_2 ?_
      refine seq_k g14_2 ?_
      refine seq_k (τ1 := sl (some some_) (some first) (some turns) (some (.int 2)) (some (clock 2)) none (some edits) none none) (M1 := St ns' a b c) (by kernel_rfl) ?_
      refine seq_k g16_2 ?_
      refine seq_k g17_2 ?_
      refine seq_k g18_2 ?_
      refine seq_k (τ1 := sl (some some_) (some first) (some turns) (some (.int 2)) (some (clock 2)) none (some edits) (some lone) none) (M1 := St ns' a b c) (by kernel_rfl) ?_
      refine seq_k g20_2 ?_
      exact ret_k (by kernel_rfl)
    · refine seq_k g12_3 ?_
      refine seq_k g13_3 ?_
      refine seq_k g14_3 ?_
      refine seq_k (τ1 := sl (some some_) (some first) (some turns) (some (.int 3)) (some (clock 3)) none (some edits) none none) (M1 := St ns' a b c) (by kernel_rfl) ?_
      refine seq_k g16_3 ?_
      refine seq_k g17_3 ?_
      refine seq_k g18_3 ?_
      refine seq_k (τ1 := sl (some some_) (some first) (some turns) (some (.int 3)) (some (clock 3)) none (some edits) (some lone) none) (M1 := St ns' a b c) (by kernel_rfl) ?_
      refine seq_k g20_3 ?_
      exact ret_k (by kernel_rfl)
    · refine seq_k g12_4 ?_
      refine seq_k g13_4 ?_
      refine seq_k g14_4 ?_
      refine seq_k (τ1 := sl (some some_) (some first) (some turns) (some (.int 4)) (some (clock 4)) none (some edits) none none) (M1 := St ns' a b c) (by kernel_rfl) ?_
      refine seq_k g16_4 ?_
      refine seq_k g17_4 ?_
      refine seq_k g18_4 ?_
      refine seq_k (τ1 := sl (some some_) (some first) (some turns) (some (.int 4)) (some (clock 4)) none (some edits) (some lone) none) (M1 := St ns' a b c) (by kernel_rfl) ?_
      refine seq_k g20_4 ?_
      exact ret_k (by kernel_rfl)
    · refine seq_k g12_5 ?_
      refine seq_k g13_5 ?_
      refine seq_k g14_5 ?_
      refine seq_k (τ1 := sl (some some_) (some first) (some turns) (some (.int 5)) (some (clock 5)) none (some edits) none none) (M1 := St ns' a b c) (by kernel_rfl) ?_
      refine seq_k g16_5 ?_
      refine seq_k g17_5 ?_
      refine seq_k g18_5 ?_
      refine seq_k (τ1 := sl (some some_) (some first) (some turns) (some (.int 5)) (some (clock 5)) none (some edits) (some lone) none) (M1 := St ns' a b c) (by kernel_rfl) ?_
      refine seq_k g20_5 ?_
      exact ret_k (by kernel_rfl)
    · refine seq_k g12_6 ?_
      refine seq_k g13_6 ?_
      refine seq_k g14_6 ?_
      refine seq_k (τ1 := sl (some some_) (some first) (some turns) (some (.int 6)) (some (clock 6)) none (some edits) none none) (M1 := St ns' a b c) (by kernel_rfl) ?_
      refine seq_k g16_6 ?_
      refine seq_k g17_6 ?_
      refine seq_k g18_6 ?_
      refine seq_k (τ1 := sl (some some_) (some first) (some turns) (some (.int 6)) (some (clock 6)) none (some edits) (some lone) none) (M1 := St ns' a b c) (by kernel_rfl) ?_
      refine seq_k g20_6 ?_
      exact ret_k (by kernel_rfl)
    · refine seq_k g12_7 ?_
      refine seq_k g13_7 ?_
      refine seq_k g14_7 ?_
      refine seq_k (τ1 := sl (some some_) (some first) (some turns) (some (.int 7)) (some (clock 7)) none (some edits) none none) (M1 := St ns' a b c) (by kernel_rfl) ?_
      refine seq_k g16_7 ?_
      refine seq_k g17_7 ?_
      refine seq_k g18_7 ?_
      refine seq_k (τ1 := sl (some some_) (some first) (some turns) (some (.int 7)) (some (clock 7)) none (some edits) (some lone) none) (M1 := St ns' a b c) (by kernel_rfl) ?_
      refine seq_k g20_7 ?_
      exact ret_k (by kernel_rfl)
  obtain ⟨v, M, e, rfl⟩ := EO.W.out h
  exact ⟨M, e⟩
theorem maths : ∀ ns : List Int, ns.length ≤ 63 → ∃ M, F_law [.lst 0] (scr ns) = .ok (.bl true) M := fun ns _ => law_t ns
end P12
namespace P12
open PySem PySem.Spec PyProof.Rows L2 AB
theorem ktab_of {K : PySem.W.Frag} {d : Addr} : ∀ {tbl : List (Str × List Str)}, (∀ p ∈ tbl, ∃ a, PySem.W.nsIn K d p.1 = some (some (.ref a)) ∧ KTup K a p.2) → ∀ z ts, tbl.lookup z = some ts → ∃ p, PySem.W.nsIn K d z = some (some (.ref p)) ∧ KTup K p ts
  | [], _, z, ts, e => by cases e
  | (k, v) :: tbl, h, z, ts, e => by
    rw [List.lookup_cons] at e
    cases hz : z == k with
    | true =>
      rw [hz] at e
      cases e
      rw [eq_of_beq hz]
      exact h (k, v) (by simp)
    | false =>
      rw [hz] at e
      exact ktab_of (fun p hp => h p (by simp [hp])) z ts e
theorem all_mk {l : PySem.W.OpenLaw} {w : World} {K : PySem.W.Frag} {h : Heap} {mg : Str → Option Value} {fa : Addr} (X : K.In h) (G : h.Ns mainGlobals mg) (hfa : mg "law" = some (.ref fa))
    (hX : ∀ y ∈ (["order_reason", "texts_along", "check_row"] : List Str), ∃ f c P, TabX mg h y f c P)
    (hF : ∀ ns : List Int, ns.length ≤ 63 → ∃ M, F_law [.lst 0] (scr ns) = .ok (.bl true) M)
    {f_is_number : Addr} {od_is_number an_is_number : Option Addr} {sl_is_number : Array (Option Value)} {oc_is_number kV_is_number dc_is_number pm_is_number cd_is_number ct_is_number : Value}
    (a_is_number : PySem.W.nsIn K mainGlobals "is_number" = some (some (.ref f_is_number))) (l_is_number : K.lookup f_is_number = some ⟨oc_is_number, od_is_number, .func (PySem.W.fnOf "is_number" "is_number" (defArgs s_is_number) (defBody s_is_number) (defScope s_is_number) .none kV_is_number dc_is_number pm_is_number an_is_number cd_is_number ct_is_number), sl_is_number⟩) (c_is_number : PySem.W.codeIn K cd_is_number "is_number" = true) (k_is_number : PySem.W.keepIn K (.ref f_is_number) = true)
    {f_are_numbers : Addr} {od_are_numbers an_are_numbers : Option Addr} {sl_are_numbers : Array (Option Value)} {oc_are_numbers kV_are_numbers dc_are_numbers pm_are_numbers cd_are_numbers ct_are_numbers : Value}
    (a_are_numbers : PySem.W.nsIn K mainGlobals "are_numbers" = some (some (.ref f_are_numbers))) (l_are_numbers : K.lookup f_are_numbers = some ⟨oc_are_numbers, od_are_numbers, .func (PySem.W.fnOf "are_numbers" "are_numbers" (defArgs s_are_numbers) (defBody s_are_numbers) (defScope s_are_numbers) .none kV_are_numbers dc_are_numbers pm_are_numbers an_are_numbers cd_are_numbers ct_are_numbers), sl_are_numbers⟩) (c_are_numbers : PySem.W.codeIn K cd_are_numbers "are_numbers" = true) (k_are_numbers : PySem.W.keepIn K (.ref f_are_numbers) = true)
    {f_are_steps : Addr} {od_are_steps an_are_steps : Option Addr} {sl_are_steps : Array (Option Value)} {oc_are_steps kV_are_steps dc_are_steps pm_are_steps cd_are_steps ct_are_steps : Value}
    (a_are_steps : PySem.W.nsIn K mainGlobals "are_steps" = some (some (.ref f_are_steps))) (l_are_steps : K.lookup f_are_steps = some ⟨oc_are_steps, od_are_steps, .func (PySem.W.fnOf "are_steps" "are_steps" (defArgs s_are_steps) (defBody s_are_steps) (defScope s_are_steps) .none kV_are_steps dc_are_steps pm_are_steps an_are_steps cd_are_steps ct_are_steps), sl_are_steps⟩) (c_are_steps : PySem.W.codeIn K cd_are_steps "are_steps" = true) (k_are_steps : PySem.W.keepIn K (.ref f_are_steps) = true)
    {f_check_question : Addr} {od_check_question an_check_question : Option Addr} {sl_check_question : Array (Option Value)} {oc_check_question kV_check_question dc_check_question pm_check_question cd_check_question ct_check_question : Value}
    (a_check_question : PySem.W.nsIn K mainGlobals "check_question" = some (some (.ref f_check_question))) (l_check_question : K.lookup f_check_question = some ⟨oc_check_question, od_check_question, .func (PySem.W.fnOf "check_question" "check_question" (defArgs s_check_question) (defBody s_check_question) (defScope s_check_question) .none kV_check_question dc_check_question pm_check_question an_check_question cd_check_question ct_check_question), sl_check_question⟩) (c_check_question : PySem.W.codeIn K cd_check_question "check_question" = true) (k_check_question : PySem.W.keepIn K (.ref f_check_question) = true)
    {f_parted_groups : Addr} {od_parted_groups an_parted_groups : Option Addr} {sl_parted_groups : Array (Option Value)} {oc_parted_groups kV_parted_groups dc_parted_groups pm_parted_groups cd_parted_groups ct_parted_groups : Value}
    (a_parted_groups : PySem.W.nsIn K mainGlobals "parted_groups" = some (some (.ref f_parted_groups))) (l_parted_groups : K.lookup f_parted_groups = some ⟨oc_parted_groups, od_parted_groups, .func (PySem.W.fnOf "parted_groups" "parted_groups" (defArgs s_parted_groups) (defBody s_parted_groups) (defScope s_parted_groups) .none kV_parted_groups dc_parted_groups pm_parted_groups an_parted_groups cd_parted_groups ct_parted_groups), sl_parted_groups⟩) (c_parted_groups : PySem.W.codeIn K cd_parted_groups "parted_groups" = true) (k_parted_groups : PySem.W.keepIn K (.ref f_parted_groups) = true)
    {f_groups_of : Addr} {od_groups_of an_groups_of : Option Addr} {sl_groups_of : Array (Option Value)} {oc_groups_of kV_groups_of dc_groups_of pm_groups_of cd_groups_of ct_groups_of : Value}
    {T_groups_of : Addr} {oT_groups_of : Value} {dT_groups_of : Option Addr} {sT_groups_of : Array (Option Value)} {yT_groups_of : Array Value} {nT_groups_of : Nat}
    (a_groups_of : PySem.W.nsIn K mainGlobals "groups_of" = some (some (.ref f_groups_of))) (l_groups_of : K.lookup f_groups_of = some ⟨oc_groups_of, od_groups_of, .func (PySem.W.fnOf "groups_of" "groups_of" (defArgs s_groups_of) (defBody s_groups_of) (defScope s_groups_of) (.ref T_groups_of) kV_groups_of dc_groups_of pm_groups_of an_groups_of cd_groups_of ct_groups_of), sl_groups_of⟩) (c_groups_of : PySem.W.codeIn K cd_groups_of "groups_of" = true) (k_groups_of : PySem.W.keepIn K (.ref f_groups_of) = true)
    (t_groups_of : K.lookup T_groups_of = some ⟨oT_groups_of, dT_groups_of, .seq yT_groups_of nT_groups_of, sT_groups_of⟩) (u_groups_of : Vals [.non] yT_groups_of.toList)
    {f_least_of : Addr} {od_least_of an_least_of : Option Addr} {sl_least_of : Array (Option Value)} {oc_least_of kV_least_of dc_least_of pm_least_of cd_least_of ct_least_of : Value}
    {T_least_of : Addr} {oT_least_of : Value} {dT_least_of : Option Addr} {sT_least_of : Array (Option Value)} {yT_least_of : Array Value} {nT_least_of : Nat}
    (a_least_of : PySem.W.nsIn K mainGlobals "least_of" = some (some (.ref f_least_of))) (l_least_of : K.lookup f_least_of = some ⟨oc_least_of, od_least_of, .func (PySem.W.fnOf "least_of" "least_of" (defArgs s_least_of) (defBody s_least_of) (defScope s_least_of) (.ref T_least_of) kV_least_of dc_least_of pm_least_of an_least_of cd_least_of ct_least_of), sl_least_of⟩) (c_least_of : PySem.W.codeIn K cd_least_of "least_of" = true) (k_least_of : PySem.W.keepIn K (.ref f_least_of) = true)
    (t_least_of : K.lookup T_least_of = some ⟨oT_least_of, dT_least_of, .seq yT_least_of nT_least_of, sT_least_of⟩) (u_least_of : Vals [.non] yT_least_of.toList)
    {f_is_parting : Addr} {od_is_parting an_is_parting : Option Addr} {sl_is_parting : Array (Option Value)} {oc_is_parting kV_is_parting dc_is_parting pm_is_parting cd_is_parting ct_is_parting : Value}
    (a_is_parting : PySem.W.nsIn K mainGlobals "is_parting" = some (some (.ref f_is_parting))) (l_is_parting : K.lookup f_is_parting = some ⟨oc_is_parting, od_is_parting, .func (PySem.W.fnOf "is_parting" "is_parting" (defArgs s_is_parting) (defBody s_is_parting) (defScope s_is_parting) .none kV_is_parting dc_is_parting pm_is_parting an_is_parting cd_is_parting ct_is_parting), sl_is_parting⟩) (c_is_parting : PySem.W.codeIn K cd_is_parting "is_parting" = true) (k_is_parting : PySem.W.keepIn K (.ref f_is_parting) = true)
    {f_is_commuting : Addr} {od_is_commuting an_is_commuting : Option Addr} {sl_is_commuting : Array (Option Value)} {oc_is_commuting kV_is_commuting dc_is_commuting pm_is_commuting cd_is_commuting ct_is_commuting : Value}
    (a_is_commuting : PySem.W.nsIn K mainGlobals "is_commuting" = some (some (.ref f_is_commuting))) (l_is_commuting : K.lookup f_is_commuting = some ⟨oc_is_commuting, od_is_commuting, .func (PySem.W.fnOf "is_commuting" "is_commuting" (defArgs s_is_commuting) (defBody s_is_commuting) (defScope s_is_commuting) .none kV_is_commuting dc_is_commuting pm_is_commuting an_is_commuting cd_is_commuting ct_is_commuting), sl_is_commuting⟩) (c_is_commuting : PySem.W.codeIn K cd_is_commuting "is_commuting" = true) (k_is_commuting : PySem.W.keepIn K (.ref f_is_commuting) = true)
    {f_is_kept : Addr} {od_is_kept an_is_kept : Option Addr} {sl_is_kept : Array (Option Value)} {oc_is_kept kV_is_kept dc_is_kept pm_is_kept cd_is_kept ct_is_kept : Value}
    (a_is_kept : PySem.W.nsIn K mainGlobals "is_kept" = some (some (.ref f_is_kept))) (l_is_kept : K.lookup f_is_kept = some ⟨oc_is_kept, od_is_kept, .func (PySem.W.fnOf "is_kept" "is_kept" (defArgs s_is_kept) (defBody s_is_kept) (defScope s_is_kept) .none kV_is_kept dc_is_kept pm_is_kept an_is_kept cd_is_kept ct_is_kept), sl_is_kept⟩) (c_is_kept : PySem.W.codeIn K cd_is_kept "is_kept" = true) (k_is_kept : PySem.W.keepIn K (.ref f_is_kept) = true)
    {f_summed : Addr} {od_summed an_summed : Option Addr} {sl_summed : Array (Option Value)} {oc_summed kV_summed dc_summed pm_summed cd_summed ct_summed : Value}
    (a_summed : PySem.W.nsIn K mainGlobals "summed" = some (some (.ref f_summed))) (l_summed : K.lookup f_summed = some ⟨oc_summed, od_summed, .func (PySem.W.fnOf "summed" "summed" (defArgs s_summed) (defBody s_summed) (defScope s_summed) .none kV_summed dc_summed pm_summed an_summed cd_summed ct_summed), sl_summed⟩) (c_summed : PySem.W.codeIn K cd_summed "summed" = true) (k_summed : PySem.W.keepIn K (.ref f_summed) = true)
    {f_bring_least : Addr} {od_bring_least an_bring_least : Option Addr} {sl_bring_least : Array (Option Value)} {oc_bring_least kV_bring_least dc_bring_least pm_bring_least cd_bring_least ct_bring_least : Value}
    (a_bring_least : PySem.W.nsIn K mainGlobals "bring_least" = some (some (.ref f_bring_least))) (l_bring_least : K.lookup f_bring_least = some ⟨oc_bring_least, od_bring_least, .func (PySem.W.fnOf "bring_least" "bring_least" (defArgs s_bring_least) (defBody s_bring_least) (defScope s_bring_least) .none kV_bring_least dc_bring_least pm_bring_least an_bring_least cd_bring_least ct_bring_least), sl_bring_least⟩) (c_bring_least : PySem.W.codeIn K cd_bring_least "bring_least" = true) (k_bring_least : PySem.W.keepIn K (.ref f_bring_least) = true)
    {f_add_row : Addr} {od_add_row an_add_row : Option Addr} {sl_add_row : Array (Option Value)} {oc_add_row kV_add_row dc_add_row pm_add_row cd_add_row ct_add_row : Value}
    (a_add_row : PySem.W.nsIn K mainGlobals "add_row" = some (some (.ref f_add_row))) (l_add_row : K.lookup f_add_row = some ⟨oc_add_row, od_add_row, .func (PySem.W.fnOf "add_row" "add_row" (defArgs s_add_row) (defBody s_add_row) (defScope s_add_row) .none kV_add_row dc_add_row pm_add_row an_add_row cd_add_row ct_add_row), sl_add_row⟩) (c_add_row : PySem.W.codeIn K cd_add_row "add_row" = true) (k_add_row : PySem.W.keepIn K (.ref f_add_row) = true)
    {f_lower : Addr} {od_lower an_lower : Option Addr} {sl_lower : Array (Option Value)} {oc_lower kV_lower dc_lower pm_lower cd_lower ct_lower : Value}
    (a_lower : PySem.W.nsIn K mainGlobals "lower" = some (some (.ref f_lower))) (l_lower : K.lookup f_lower = some ⟨oc_lower, od_lower, .func (PySem.W.fnOf "lower" "lower" (defArgs s_lower) (defBody s_lower) (defScope s_lower) .none kV_lower dc_lower pm_lower an_lower cd_lower ct_lower), sl_lower⟩) (c_lower : PySem.W.codeIn K cd_lower "lower" = true) (k_lower : PySem.W.keepIn K (.ref f_lower) = true)
    {f_settle : Addr} {od_settle an_settle : Option Addr} {sl_settle : Array (Option Value)} {oc_settle kV_settle dc_settle pm_settle cd_settle ct_settle : Value}
    (a_settle : PySem.W.nsIn K mainGlobals "settle" = some (some (.ref f_settle))) (l_settle : K.lookup f_settle = some ⟨oc_settle, od_settle, .func (PySem.W.fnOf "settle" "settle" (defArgs s_settle) (defBody s_settle) (defScope s_settle) .none kV_settle dc_settle pm_settle an_settle cd_settle ct_settle), sl_settle⟩) (c_settle : PySem.W.codeIn K cd_settle "settle" = true) (k_settle : PySem.W.keepIn K (.ref f_settle) = true)
    {f_plain_form : Addr} {od_plain_form an_plain_form : Option Addr} {sl_plain_form : Array (Option Value)} {oc_plain_form kV_plain_form dc_plain_form pm_plain_form cd_plain_form ct_plain_form : Value}
    (a_plain_form : PySem.W.nsIn K mainGlobals "plain_form" = some (some (.ref f_plain_form))) (l_plain_form : K.lookup f_plain_form = some ⟨oc_plain_form, od_plain_form, .func (PySem.W.fnOf "plain_form" "plain_form" (defArgs s_plain_form) (defBody s_plain_form) (defScope s_plain_form) .none kV_plain_form dc_plain_form pm_plain_form an_plain_form cd_plain_form ct_plain_form), sl_plain_form⟩) (c_plain_form : PySem.W.codeIn K cd_plain_form "plain_form" = true) (k_plain_form : PySem.W.keepIn K (.ref f_plain_form) = true)
    {f_counts_with : Addr} {od_counts_with an_counts_with : Option Addr} {sl_counts_with : Array (Option Value)} {oc_counts_with kV_counts_with dc_counts_with pm_counts_with cd_counts_with ct_counts_with : Value}
    (a_counts_with : PySem.W.nsIn K mainGlobals "counts_with" = some (some (.ref f_counts_with))) (l_counts_with : K.lookup f_counts_with = some ⟨oc_counts_with, od_counts_with, .func (PySem.W.fnOf "counts_with" "counts_with" (defArgs s_counts_with) (defBody s_counts_with) (defScope s_counts_with) .none kV_counts_with dc_counts_with pm_counts_with an_counts_with cd_counts_with ct_counts_with), sl_counts_with⟩) (c_counts_with : PySem.W.codeIn K cd_counts_with "counts_with" = true) (k_counts_with : PySem.W.keepIn K (.ref f_counts_with) = true)
    {f_relations_of : Addr} {od_relations_of an_relations_of : Option Addr} {sl_relations_of : Array (Option Value)} {oc_relations_of kV_relations_of dc_relations_of pm_relations_of cd_relations_of ct_relations_of : Value}
    (a_relations_of : PySem.W.nsIn K mainGlobals "relations_of" = some (some (.ref f_relations_of))) (l_relations_of : K.lookup f_relations_of = some ⟨oc_relations_of, od_relations_of, .func (PySem.W.fnOf "relations_of" "relations_of" (defArgs s_relations_of) (defBody s_relations_of) (defScope s_relations_of) .none kV_relations_of dc_relations_of pm_relations_of an_relations_of cd_relations_of ct_relations_of), sl_relations_of⟩) (c_relations_of : PySem.W.codeIn K cd_relations_of "relations_of" = true) (k_relations_of : PySem.W.keepIn K (.ref f_relations_of) = true)
    {f_weights_of : Addr} {od_weights_of an_weights_of : Option Addr} {sl_weights_of : Array (Option Value)} {oc_weights_of kV_weights_of dc_weights_of pm_weights_of cd_weights_of ct_weights_of : Value}
    (a_weights_of : PySem.W.nsIn K mainGlobals "weights_of" = some (some (.ref f_weights_of))) (l_weights_of : K.lookup f_weights_of = some ⟨oc_weights_of, od_weights_of, .func (PySem.W.fnOf "weights_of" "weights_of" (defArgs s_weights_of) (defBody s_weights_of) (defScope s_weights_of) .none kV_weights_of dc_weights_of pm_weights_of an_weights_of cd_weights_of ct_weights_of), sl_weights_of⟩) (c_weights_of : PySem.W.codeIn K cd_weights_of "weights_of" = true) (k_weights_of : PySem.W.keepIn K (.ref f_weights_of) = true)
    {f_sums_met : Addr} {od_sums_met an_sums_met : Option Addr} {sl_sums_met : Array (Option Value)} {oc_sums_met kV_sums_met dc_sums_met pm_sums_met cd_sums_met ct_sums_met : Value}
    (a_sums_met : PySem.W.nsIn K mainGlobals "sums_met" = some (some (.ref f_sums_met))) (l_sums_met : K.lookup f_sums_met = some ⟨oc_sums_met, od_sums_met, .func (PySem.W.fnOf "sums_met" "sums_met" (defArgs s_sums_met) (defBody s_sums_met) (defScope s_sums_met) .none kV_sums_met dc_sums_met pm_sums_met an_sums_met cd_sums_met ct_sums_met), sl_sums_met⟩) (c_sums_met : PySem.W.codeIn K cd_sums_met "sums_met" = true) (k_sums_met : PySem.W.keepIn K (.ref f_sums_met) = true)
    {f_sums : Addr} {od_sums an_sums : Option Addr} {sl_sums : Array (Option Value)} {oc_sums kV_sums dc_sums pm_sums cd_sums ct_sums : Value}
    (a_sums : PySem.W.nsIn K mainGlobals "sums" = some (some (.ref f_sums))) (l_sums : K.lookup f_sums = some ⟨oc_sums, od_sums, .func (PySem.W.fnOf "sums" "sums" (defArgs s_sums) (defBody s_sums) (defScope s_sums) .none kV_sums dc_sums pm_sums an_sums cd_sums ct_sums), sl_sums⟩) (c_sums : PySem.W.codeIn K cd_sums "sums" = true) (k_sums : PySem.W.keepIn K (.ref f_sums) = true)
    {f_check_world : Addr} {od_check_world an_check_world : Option Addr} {sl_check_world : Array (Option Value)} {oc_check_world kV_check_world dc_check_world pm_check_world cd_check_world ct_check_world : Value}
    (a_check_world : PySem.W.nsIn K mainGlobals "check_world" = some (some (.ref f_check_world))) (l_check_world : K.lookup f_check_world = some ⟨oc_check_world, od_check_world, .func (PySem.W.fnOf "check_world" "check_world" (defArgs s_check_world) (defBody s_check_world) (defScope s_check_world) .none kV_check_world dc_check_world pm_check_world an_check_world cd_check_world ct_check_world), sl_check_world⟩) (c_check_world : PySem.W.codeIn K cd_check_world "check_world" = true) (k_check_world : PySem.W.keepIn K (.ref f_check_world) = true)
    {f_check_states : Addr} {od_check_states an_check_states : Option Addr} {sl_check_states : Array (Option Value)} {oc_check_states kV_check_states dc_check_states pm_check_states cd_check_states ct_check_states : Value}
    (a_check_states : PySem.W.nsIn K mainGlobals "check_states" = some (some (.ref f_check_states))) (l_check_states : K.lookup f_check_states = some ⟨oc_check_states, od_check_states, .func (PySem.W.fnOf "check_states" "check_states" (defArgs s_check_states) (defBody s_check_states) (defScope s_check_states) .none kV_check_states dc_check_states pm_check_states an_check_states cd_check_states ct_check_states), sl_check_states⟩) (c_check_states : PySem.W.codeIn K cd_check_states "check_states" = true) (k_check_states : PySem.W.keepIn K (.ref f_check_states) = true)
    {f_check_letters : Addr} {od_check_letters an_check_letters : Option Addr} {sl_check_letters : Array (Option Value)} {oc_check_letters kV_check_letters dc_check_letters pm_check_letters cd_check_letters ct_check_letters : Value}
    (a_check_letters : PySem.W.nsIn K mainGlobals "check_letters" = some (some (.ref f_check_letters))) (l_check_letters : K.lookup f_check_letters = some ⟨oc_check_letters, od_check_letters, .func (PySem.W.fnOf "check_letters" "check_letters" (defArgs s_check_letters) (defBody s_check_letters) (defScope s_check_letters) .none kV_check_letters dc_check_letters pm_check_letters an_check_letters cd_check_letters ct_check_letters), sl_check_letters⟩) (c_check_letters : PySem.W.codeIn K cd_check_letters "check_letters" = true) (k_check_letters : PySem.W.keepIn K (.ref f_check_letters) = true)
    {f_messages_with : Addr} {od_messages_with an_messages_with : Option Addr} {sl_messages_with : Array (Option Value)} {oc_messages_with kV_messages_with dc_messages_with pm_messages_with cd_messages_with ct_messages_with : Value}
    (a_messages_with : PySem.W.nsIn K mainGlobals "messages_with" = some (some (.ref f_messages_with))) (l_messages_with : K.lookup f_messages_with = some ⟨oc_messages_with, od_messages_with, .func (PySem.W.fnOf "messages_with" "messages_with" (defArgs s_messages_with) (defBody s_messages_with) (defScope s_messages_with) .none kV_messages_with dc_messages_with pm_messages_with an_messages_with cd_messages_with ct_messages_with), sl_messages_with⟩) (c_messages_with : PySem.W.codeIn K cd_messages_with "messages_with" = true) (k_messages_with : PySem.W.keepIn K (.ref f_messages_with) = true)
    {f_messages : Addr} {od_messages an_messages : Option Addr} {sl_messages : Array (Option Value)} {oc_messages kV_messages dc_messages pm_messages cd_messages ct_messages : Value}
    (a_messages : PySem.W.nsIn K mainGlobals "messages" = some (some (.ref f_messages))) (l_messages : K.lookup f_messages = some ⟨oc_messages, od_messages, .func (PySem.W.fnOf "messages" "messages" (defArgs s_messages) (defBody s_messages) (defScope s_messages) .none kV_messages dc_messages pm_messages an_messages cd_messages ct_messages), sl_messages⟩) (c_messages : PySem.W.codeIn K cd_messages "messages" = true) (k_messages : PySem.W.keepIn K (.ref f_messages) = true)
    {f_check_keeper : Addr} {od_check_keeper an_check_keeper : Option Addr} {sl_check_keeper : Array (Option Value)} {oc_check_keeper kV_check_keeper dc_check_keeper pm_check_keeper cd_check_keeper ct_check_keeper : Value}
    (a_check_keeper : PySem.W.nsIn K mainGlobals "check_keeper" = some (some (.ref f_check_keeper))) (l_check_keeper : K.lookup f_check_keeper = some ⟨oc_check_keeper, od_check_keeper, .func (PySem.W.fnOf "check_keeper" "check_keeper" (defArgs s_check_keeper) (defBody s_check_keeper) (defScope s_check_keeper) .none kV_check_keeper dc_check_keeper pm_check_keeper an_check_keeper cd_check_keeper ct_check_keeper), sl_check_keeper⟩) (c_check_keeper : PySem.W.codeIn K cd_check_keeper "check_keeper" = true) (k_check_keeper : PySem.W.keepIn K (.ref f_check_keeper) = true)
    {f_check_told : Addr} {od_check_told an_check_told : Option Addr} {sl_check_told : Array (Option Value)} {oc_check_told kV_check_told dc_check_told pm_check_told cd_check_told ct_check_told : Value}
    (a_check_told : PySem.W.nsIn K mainGlobals "check_told" = some (some (.ref f_check_told))) (l_check_told : K.lookup f_check_told = some ⟨oc_check_told, od_check_told, .func (PySem.W.fnOf "check_told" "check_told" (defArgs s_check_told) (defBody s_check_told) (defScope s_check_told) .none kV_check_told dc_check_told pm_check_told an_check_told cd_check_told ct_check_told), sl_check_told⟩) (c_check_told : PySem.W.codeIn K cd_check_told "check_told" = true) (k_check_told : PySem.W.keepIn K (.ref f_check_told) = true)
    {f_puts_alone : Addr} {od_puts_alone an_puts_alone : Option Addr} {sl_puts_alone : Array (Option Value)} {oc_puts_alone kV_puts_alone dc_puts_alone pm_puts_alone cd_puts_alone ct_puts_alone : Value}
    (a_puts_alone : PySem.W.nsIn K mainGlobals "puts_alone" = some (some (.ref f_puts_alone))) (l_puts_alone : K.lookup f_puts_alone = some ⟨oc_puts_alone, od_puts_alone, .func (PySem.W.fnOf "puts_alone" "puts_alone" (defArgs s_puts_alone) (defBody s_puts_alone) (defScope s_puts_alone) .none kV_puts_alone dc_puts_alone pm_puts_alone an_puts_alone cd_puts_alone ct_puts_alone), sl_puts_alone⟩) (c_puts_alone : PySem.W.codeIn K cd_puts_alone "puts_alone" = true) (k_puts_alone : PySem.W.keepIn K (.ref f_puts_alone) = true)
    {f_text_back : Addr} {od_text_back an_text_back : Option Addr} {sl_text_back : Array (Option Value)} {oc_text_back kV_text_back dc_text_back pm_text_back cd_text_back ct_text_back : Value}
    (a_text_back : PySem.W.nsIn K mainGlobals "text_back" = some (some (.ref f_text_back))) (l_text_back : K.lookup f_text_back = some ⟨oc_text_back, od_text_back, .func (PySem.W.fnOf "text_back" "text_back" (defArgs s_text_back) (defBody s_text_back) (defScope s_text_back) .none kV_text_back dc_text_back pm_text_back an_text_back cd_text_back ct_text_back), sl_text_back⟩) (c_text_back : PySem.W.codeIn K cd_text_back "text_back" = true) (k_text_back : PySem.W.keepIn K (.ref f_text_back) = true)
    {f_parting_of : Addr} {od_parting_of an_parting_of : Option Addr} {sl_parting_of : Array (Option Value)} {oc_parting_of kV_parting_of dc_parting_of pm_parting_of cd_parting_of ct_parting_of : Value}
    (a_parting_of : PySem.W.nsIn K mainGlobals "parting_of" = some (some (.ref f_parting_of))) (l_parting_of : K.lookup f_parting_of = some ⟨oc_parting_of, od_parting_of, .func (PySem.W.fnOf "parting_of" "parting_of" (defArgs s_parting_of) (defBody s_parting_of) (defScope s_parting_of) .none kV_parting_of dc_parting_of pm_parting_of an_parting_of cd_parting_of ct_parting_of), sl_parting_of⟩) (c_parting_of : PySem.W.codeIn K cd_parting_of "parting_of" = true) (k_parting_of : PySem.W.keepIn K (.ref f_parting_of) = true)
    {f_edits_at_end : Addr} {od_edits_at_end an_edits_at_end : Option Addr} {sl_edits_at_end : Array (Option Value)} {oc_edits_at_end kV_edits_at_end dc_edits_at_end pm_edits_at_end cd_edits_at_end ct_edits_at_end : Value}
    (a_edits_at_end : PySem.W.nsIn K mainGlobals "edits_at_end" = some (some (.ref f_edits_at_end))) (l_edits_at_end : K.lookup f_edits_at_end = some ⟨oc_edits_at_end, od_edits_at_end, .func (PySem.W.fnOf "edits_at_end" "edits_at_end" (defArgs s_edits_at_end) (defBody s_edits_at_end) (defScope s_edits_at_end) .none kV_edits_at_end dc_edits_at_end pm_edits_at_end an_edits_at_end cd_edits_at_end ct_edits_at_end), sl_edits_at_end⟩) (c_edits_at_end : PySem.W.codeIn K cd_edits_at_end "edits_at_end" = true) (k_edits_at_end : PySem.W.keepIn K (.ref f_edits_at_end) = true)
    {f_texts_longer : Addr} {od_texts_longer an_texts_longer : Option Addr} {sl_texts_longer : Array (Option Value)} {oc_texts_longer kV_texts_longer dc_texts_longer pm_texts_longer cd_texts_longer ct_texts_longer : Value}
    (a_texts_longer : PySem.W.nsIn K mainGlobals "texts_longer" = some (some (.ref f_texts_longer))) (l_texts_longer : K.lookup f_texts_longer = some ⟨oc_texts_longer, od_texts_longer, .func (PySem.W.fnOf "texts_longer" "texts_longer" (defArgs s_texts_longer) (defBody s_texts_longer) (defScope s_texts_longer) .none kV_texts_longer dc_texts_longer pm_texts_longer an_texts_longer cd_texts_longer ct_texts_longer), sl_texts_longer⟩) (c_texts_longer : PySem.W.codeIn K cd_texts_longer "texts_longer" = true) (k_texts_longer : PySem.W.keepIn K (.ref f_texts_longer) = true)
    {f_long_texts : Addr} {od_long_texts an_long_texts : Option Addr} {sl_long_texts : Array (Option Value)} {oc_long_texts kV_long_texts dc_long_texts pm_long_texts cd_long_texts ct_long_texts : Value}
    (a_long_texts : PySem.W.nsIn K mainGlobals "long_texts" = some (some (.ref f_long_texts))) (l_long_texts : K.lookup f_long_texts = some ⟨oc_long_texts, od_long_texts, .func (PySem.W.fnOf "long_texts" "long_texts" (defArgs s_long_texts) (defBody s_long_texts) (defScope s_long_texts) .none kV_long_texts dc_long_texts pm_long_texts an_long_texts cd_long_texts ct_long_texts), sl_long_texts⟩) (c_long_texts : PySem.W.codeIn K cd_long_texts "long_texts" = true) (k_long_texts : PySem.W.keepIn K (.ref f_long_texts) = true)
    {f_first_texts : Addr} {od_first_texts an_first_texts : Option Addr} {sl_first_texts : Array (Option Value)} {oc_first_texts kV_first_texts dc_first_texts pm_first_texts cd_first_texts ct_first_texts : Value}
    (a_first_texts : PySem.W.nsIn K mainGlobals "first_texts" = some (some (.ref f_first_texts))) (l_first_texts : K.lookup f_first_texts = some ⟨oc_first_texts, od_first_texts, .func (PySem.W.fnOf "first_texts" "first_texts" (defArgs s_first_texts) (defBody s_first_texts) (defScope s_first_texts) .none kV_first_texts dc_first_texts pm_first_texts an_first_texts cd_first_texts ct_first_texts), sl_first_texts⟩) (c_first_texts : PySem.W.codeIn K cd_first_texts "first_texts" = true) (k_first_texts : PySem.W.keepIn K (.ref f_first_texts) = true)
    {f_parting_texts : Addr} {od_parting_texts an_parting_texts : Option Addr} {sl_parting_texts : Array (Option Value)} {oc_parting_texts kV_parting_texts dc_parting_texts pm_parting_texts cd_parting_texts ct_parting_texts : Value}
    (a_parting_texts : PySem.W.nsIn K mainGlobals "parting_texts" = some (some (.ref f_parting_texts))) (l_parting_texts : K.lookup f_parting_texts = some ⟨oc_parting_texts, od_parting_texts, .func (PySem.W.fnOf "parting_texts" "parting_texts" (defArgs s_parting_texts) (defBody s_parting_texts) (defScope s_parting_texts) .none kV_parting_texts dc_parting_texts pm_parting_texts an_parting_texts cd_parting_texts ct_parting_texts), sl_parting_texts⟩) (c_parting_texts : PySem.W.codeIn K cd_parting_texts "parting_texts" = true) (k_parting_texts : PySem.W.keepIn K (.ref f_parting_texts) = true)
    {f_order_reason : Addr} {od_order_reason an_order_reason : Option Addr} {sl_order_reason : Array (Option Value)} {oc_order_reason kV_order_reason dc_order_reason pm_order_reason ct_order_reason : Value}
    {cc_order_reason : Addr}
    (a_order_reason : PySem.W.nsIn K mainGlobals "order_reason" = some (some (.ref f_order_reason))) (l_order_reason : K.lookup f_order_reason = some ⟨oc_order_reason, od_order_reason, .func (PySem.W.fnOf "order_reason" "order_reason" (defArgs s_order_reason) (defBody s_order_reason) (defScope s_order_reason) .none kV_order_reason dc_order_reason pm_order_reason an_order_reason (.ref cc_order_reason) ct_order_reason), sl_order_reason⟩) (c_order_reason : PySem.W.codeIn K (.ref cc_order_reason) "order_reason" = true) (k_order_reason : PySem.W.keepIn K (.ref f_order_reason) = true)
    {P_order_reason : Addr} {eM_order_reason : Value} {dM_order_reason : Option Addr} {vM_order_reason : Array Value} {sM_order_reason : Array (Option Value)} (m_order_reason : K.lookup cc_order_reason = some ⟨eM_order_reason, dM_order_reason, .fields vM_order_reason, sM_order_reason⟩) (p_order_reason : vM_order_reason[11]? = some (.ref P_order_reason)) (n_order_reason : K.lookup P_order_reason = none)
    {f_puts_of : Addr} {od_puts_of an_puts_of : Option Addr} {sl_puts_of : Array (Option Value)} {oc_puts_of kV_puts_of dc_puts_of pm_puts_of cd_puts_of ct_puts_of : Value}
    (a_puts_of : PySem.W.nsIn K mainGlobals "puts_of" = some (some (.ref f_puts_of))) (l_puts_of : K.lookup f_puts_of = some ⟨oc_puts_of, od_puts_of, .func (PySem.W.fnOf "puts_of" "puts_of" (defArgs s_puts_of) (defBody s_puts_of) (defScope s_puts_of) .none kV_puts_of dc_puts_of pm_puts_of an_puts_of cd_puts_of ct_puts_of), sl_puts_of⟩) (c_puts_of : PySem.W.codeIn K cd_puts_of "puts_of" = true) (k_puts_of : PySem.W.keepIn K (.ref f_puts_of) = true)
    {f_order_rows : Addr} {od_order_rows an_order_rows : Option Addr} {sl_order_rows : Array (Option Value)} {oc_order_rows kV_order_rows dc_order_rows pm_order_rows cd_order_rows ct_order_rows : Value}
    (a_order_rows : PySem.W.nsIn K mainGlobals "order_rows" = some (some (.ref f_order_rows))) (l_order_rows : K.lookup f_order_rows = some ⟨oc_order_rows, od_order_rows, .func (PySem.W.fnOf "order_rows" "order_rows" (defArgs s_order_rows) (defBody s_order_rows) (defScope s_order_rows) .none kV_order_rows dc_order_rows pm_order_rows an_order_rows cd_order_rows ct_order_rows), sl_order_rows⟩) (c_order_rows : PySem.W.codeIn K cd_order_rows "order_rows" = true) (k_order_rows : PySem.W.keepIn K (.ref f_order_rows) = true)
    {f_turn_of : Addr} {od_turn_of an_turn_of : Option Addr} {sl_turn_of : Array (Option Value)} {oc_turn_of kV_turn_of dc_turn_of pm_turn_of cd_turn_of ct_turn_of : Value}
    (a_turn_of : PySem.W.nsIn K mainGlobals "turn_of" = some (some (.ref f_turn_of))) (l_turn_of : K.lookup f_turn_of = some ⟨oc_turn_of, od_turn_of, .func (PySem.W.fnOf "turn_of" "turn_of" (defArgs s_turn_of) (defBody s_turn_of) (defScope s_turn_of) .none kV_turn_of dc_turn_of pm_turn_of an_turn_of cd_turn_of ct_turn_of), sl_turn_of⟩) (c_turn_of : PySem.W.codeIn K cd_turn_of "turn_of" = true) (k_turn_of : PySem.W.keepIn K (.ref f_turn_of) = true)
    {f_state_from : Addr} {od_state_from an_state_from : Option Addr} {sl_state_from : Array (Option Value)} {oc_state_from kV_state_from dc_state_from pm_state_from cd_state_from ct_state_from : Value}
    (a_state_from : PySem.W.nsIn K mainGlobals "state_from" = some (some (.ref f_state_from))) (l_state_from : K.lookup f_state_from = some ⟨oc_state_from, od_state_from, .func (PySem.W.fnOf "state_from" "state_from" (defArgs s_state_from) (defBody s_state_from) (defScope s_state_from) .none kV_state_from dc_state_from pm_state_from an_state_from cd_state_from ct_state_from), sl_state_from⟩) (c_state_from : PySem.W.codeIn K cd_state_from "state_from" = true) (k_state_from : PySem.W.keepIn K (.ref f_state_from) = true)
    {f_merge_rows : Addr} {od_merge_rows an_merge_rows : Option Addr} {sl_merge_rows : Array (Option Value)} {oc_merge_rows kV_merge_rows dc_merge_rows pm_merge_rows cd_merge_rows ct_merge_rows : Value}
    (a_merge_rows : PySem.W.nsIn K mainGlobals "merge_rows" = some (some (.ref f_merge_rows))) (l_merge_rows : K.lookup f_merge_rows = some ⟨oc_merge_rows, od_merge_rows, .func (PySem.W.fnOf "merge_rows" "merge_rows" (defArgs s_merge_rows) (defBody s_merge_rows) (defScope s_merge_rows) .none kV_merge_rows dc_merge_rows pm_merge_rows an_merge_rows cd_merge_rows ct_merge_rows), sl_merge_rows⟩) (c_merge_rows : PySem.W.codeIn K cd_merge_rows "merge_rows" = true) (k_merge_rows : PySem.W.keepIn K (.ref f_merge_rows) = true)
    {f_fooling_rows : Addr} {od_fooling_rows an_fooling_rows : Option Addr} {sl_fooling_rows : Array (Option Value)} {oc_fooling_rows kV_fooling_rows dc_fooling_rows pm_fooling_rows cd_fooling_rows ct_fooling_rows : Value}
    (a_fooling_rows : PySem.W.nsIn K mainGlobals "fooling_rows" = some (some (.ref f_fooling_rows))) (l_fooling_rows : K.lookup f_fooling_rows = some ⟨oc_fooling_rows, od_fooling_rows, .func (PySem.W.fnOf "fooling_rows" "fooling_rows" (defArgs s_fooling_rows) (defBody s_fooling_rows) (defScope s_fooling_rows) .none kV_fooling_rows dc_fooling_rows pm_fooling_rows an_fooling_rows cd_fooling_rows ct_fooling_rows), sl_fooling_rows⟩) (c_fooling_rows : PySem.W.codeIn K cd_fooling_rows "fooling_rows" = true) (k_fooling_rows : PySem.W.keepIn K (.ref f_fooling_rows) = true)
    {f_kept_answers : Addr} {od_kept_answers an_kept_answers : Option Addr} {sl_kept_answers : Array (Option Value)} {oc_kept_answers kV_kept_answers dc_kept_answers pm_kept_answers cd_kept_answers ct_kept_answers : Value}
    (a_kept_answers : PySem.W.nsIn K mainGlobals "kept_answers" = some (some (.ref f_kept_answers))) (l_kept_answers : K.lookup f_kept_answers = some ⟨oc_kept_answers, od_kept_answers, .func (PySem.W.fnOf "kept_answers" "kept_answers" (defArgs s_kept_answers) (defBody s_kept_answers) (defScope s_kept_answers) .none kV_kept_answers dc_kept_answers pm_kept_answers an_kept_answers cd_kept_answers ct_kept_answers), sl_kept_answers⟩) (c_kept_answers : PySem.W.codeIn K cd_kept_answers "kept_answers" = true) (k_kept_answers : PySem.W.keepIn K (.ref f_kept_answers) = true)
    {f_ends_wrong : Addr} {od_ends_wrong an_ends_wrong : Option Addr} {sl_ends_wrong : Array (Option Value)} {oc_ends_wrong kV_ends_wrong dc_ends_wrong pm_ends_wrong cd_ends_wrong ct_ends_wrong : Value}
    (a_ends_wrong : PySem.W.nsIn K mainGlobals "ends_wrong" = some (some (.ref f_ends_wrong))) (l_ends_wrong : K.lookup f_ends_wrong = some ⟨oc_ends_wrong, od_ends_wrong, .func (PySem.W.fnOf "ends_wrong" "ends_wrong" (defArgs s_ends_wrong) (defBody s_ends_wrong) (defScope s_ends_wrong) .none kV_ends_wrong dc_ends_wrong pm_ends_wrong an_ends_wrong cd_ends_wrong ct_ends_wrong), sl_ends_wrong⟩) (c_ends_wrong : PySem.W.codeIn K cd_ends_wrong "ends_wrong" = true) (k_ends_wrong : PySem.W.keepIn K (.ref f_ends_wrong) = true)
    {f_texts_by : Addr} {od_texts_by an_texts_by : Option Addr} {sl_texts_by : Array (Option Value)} {oc_texts_by kV_texts_by dc_texts_by pm_texts_by cd_texts_by ct_texts_by : Value}
    (a_texts_by : PySem.W.nsIn K mainGlobals "texts_by" = some (some (.ref f_texts_by))) (l_texts_by : K.lookup f_texts_by = some ⟨oc_texts_by, od_texts_by, .func (PySem.W.fnOf "texts_by" "texts_by" (defArgs s_texts_by) (defBody s_texts_by) (defScope s_texts_by) .none kV_texts_by dc_texts_by pm_texts_by an_texts_by cd_texts_by ct_texts_by), sl_texts_by⟩) (c_texts_by : PySem.W.codeIn K cd_texts_by "texts_by" = true) (k_texts_by : PySem.W.keepIn K (.ref f_texts_by) = true)
    {f_place_of : Addr} {od_place_of an_place_of : Option Addr} {sl_place_of : Array (Option Value)} {oc_place_of kV_place_of dc_place_of pm_place_of cd_place_of ct_place_of : Value}
    (a_place_of : PySem.W.nsIn K mainGlobals "place_of" = some (some (.ref f_place_of))) (l_place_of : K.lookup f_place_of = some ⟨oc_place_of, od_place_of, .func (PySem.W.fnOf "place_of" "place_of" (defArgs s_place_of) (defBody s_place_of) (defScope s_place_of) .none kV_place_of dc_place_of pm_place_of an_place_of cd_place_of ct_place_of), sl_place_of⟩) (c_place_of : PySem.W.codeIn K cd_place_of "place_of" = true) (k_place_of : PySem.W.keepIn K (.ref f_place_of) = true)
    {f_text_without : Addr} {od_text_without an_text_without : Option Addr} {sl_text_without : Array (Option Value)} {oc_text_without kV_text_without dc_text_without pm_text_without cd_text_without ct_text_without : Value}
    (a_text_without : PySem.W.nsIn K mainGlobals "text_without" = some (some (.ref f_text_without))) (l_text_without : K.lookup f_text_without = some ⟨oc_text_without, od_text_without, .func (PySem.W.fnOf "text_without" "text_without" (defArgs s_text_without) (defBody s_text_without) (defScope s_text_without) .none kV_text_without dc_text_without pm_text_without an_text_without cd_text_without ct_text_without), sl_text_without⟩) (c_text_without : PySem.W.codeIn K cd_text_without "text_without" = true) (k_text_without : PySem.W.keepIn K (.ref f_text_without) = true)
    {f_turned_text : Addr} {od_turned_text an_turned_text : Option Addr} {sl_turned_text : Array (Option Value)} {oc_turned_text kV_turned_text dc_turned_text pm_turned_text cd_turned_text ct_turned_text : Value}
    (a_turned_text : PySem.W.nsIn K mainGlobals "turned_text" = some (some (.ref f_turned_text))) (l_turned_text : K.lookup f_turned_text = some ⟨oc_turned_text, od_turned_text, .func (PySem.W.fnOf "turned_text" "turned_text" (defArgs s_turned_text) (defBody s_turned_text) (defScope s_turned_text) .none kV_turned_text dc_turned_text pm_turned_text an_turned_text cd_turned_text ct_turned_text), sl_turned_text⟩) (c_turned_text : PySem.W.codeIn K cd_turned_text "turned_text" = true) (k_turned_text : PySem.W.keepIn K (.ref f_turned_text) = true)
    {f_text_with : Addr} {od_text_with an_text_with : Option Addr} {sl_text_with : Array (Option Value)} {oc_text_with kV_text_with dc_text_with pm_text_with cd_text_with ct_text_with : Value}
    (a_text_with : PySem.W.nsIn K mainGlobals "text_with" = some (some (.ref f_text_with))) (l_text_with : K.lookup f_text_with = some ⟨oc_text_with, od_text_with, .func (PySem.W.fnOf "text_with" "text_with" (defArgs s_text_with) (defBody s_text_with) (defScope s_text_with) .none kV_text_with dc_text_with pm_text_with an_text_with cd_text_with ct_text_with), sl_text_with⟩) (c_text_with : PySem.W.codeIn K cd_text_with "text_with" = true) (k_text_with : PySem.W.keepIn K (.ref f_text_with) = true)
    {f_text_by : Addr} {od_text_by an_text_by : Option Addr} {sl_text_by : Array (Option Value)} {oc_text_by kV_text_by dc_text_by pm_text_by cd_text_by ct_text_by : Value}
    (a_text_by : PySem.W.nsIn K mainGlobals "text_by" = some (some (.ref f_text_by))) (l_text_by : K.lookup f_text_by = some ⟨oc_text_by, od_text_by, .func (PySem.W.fnOf "text_by" "text_by" (defArgs s_text_by) (defBody s_text_by) (defScope s_text_by) .none kV_text_by dc_text_by pm_text_by an_text_by cd_text_by ct_text_by), sl_text_by⟩) (c_text_by : PySem.W.codeIn K cd_text_by "text_by" = true) (k_text_by : PySem.W.keepIn K (.ref f_text_by) = true)
    {f_is_permutation : Addr} {od_is_permutation an_is_permutation : Option Addr} {sl_is_permutation : Array (Option Value)} {oc_is_permutation kV_is_permutation dc_is_permutation pm_is_permutation cd_is_permutation ct_is_permutation : Value}
    (a_is_permutation : PySem.W.nsIn K mainGlobals "is_permutation" = some (some (.ref f_is_permutation))) (l_is_permutation : K.lookup f_is_permutation = some ⟨oc_is_permutation, od_is_permutation, .func (PySem.W.fnOf "is_permutation" "is_permutation" (defArgs s_is_permutation) (defBody s_is_permutation) (defScope s_is_permutation) .none kV_is_permutation dc_is_permutation pm_is_permutation an_is_permutation cd_is_permutation ct_is_permutation), sl_is_permutation⟩) (c_is_permutation : PySem.W.codeIn K cd_is_permutation "is_permutation" = true) (k_is_permutation : PySem.W.keepIn K (.ref f_is_permutation) = true)
    {f_is_message : Addr} {od_is_message an_is_message : Option Addr} {sl_is_message : Array (Option Value)} {oc_is_message kV_is_message dc_is_message pm_is_message cd_is_message ct_is_message : Value}
    (a_is_message : PySem.W.nsIn K mainGlobals "is_message" = some (some (.ref f_is_message))) (l_is_message : K.lookup f_is_message = some ⟨oc_is_message, od_is_message, .func (PySem.W.fnOf "is_message" "is_message" (defArgs s_is_message) (defBody s_is_message) (defScope s_is_message) .none kV_is_message dc_is_message pm_is_message an_is_message cd_is_message ct_is_message), sl_is_message⟩) (c_is_message : PySem.W.codeIn K cd_is_message "is_message" = true) (k_is_message : PySem.W.keepIn K (.ref f_is_message) = true)
    {f_is_edit : Addr} {od_is_edit an_is_edit : Option Addr} {sl_is_edit : Array (Option Value)} {oc_is_edit kV_is_edit dc_is_edit pm_is_edit cd_is_edit ct_is_edit : Value}
    (a_is_edit : PySem.W.nsIn K mainGlobals "is_edit" = some (some (.ref f_is_edit))) (l_is_edit : K.lookup f_is_edit = some ⟨oc_is_edit, od_is_edit, .func (PySem.W.fnOf "is_edit" "is_edit" (defArgs s_is_edit) (defBody s_is_edit) (defScope s_is_edit) .none kV_is_edit dc_is_edit pm_is_edit an_is_edit cd_is_edit ct_is_edit), sl_is_edit⟩) (c_is_edit : PySem.W.codeIn K cd_is_edit "is_edit" = true) (k_is_edit : PySem.W.keepIn K (.ref f_is_edit) = true)
    {f_text_behind : Addr} {od_text_behind an_text_behind : Option Addr} {sl_text_behind : Array (Option Value)} {oc_text_behind kV_text_behind dc_text_behind pm_text_behind cd_text_behind ct_text_behind : Value}
    (a_text_behind : PySem.W.nsIn K mainGlobals "text_behind" = some (some (.ref f_text_behind))) (l_text_behind : K.lookup f_text_behind = some ⟨oc_text_behind, od_text_behind, .func (PySem.W.fnOf "text_behind" "text_behind" (defArgs s_text_behind) (defBody s_text_behind) (defScope s_text_behind) .none kV_text_behind dc_text_behind pm_text_behind an_text_behind cd_text_behind ct_text_behind), sl_text_behind⟩) (c_text_behind : PySem.W.codeIn K cd_text_behind "text_behind" = true) (k_text_behind : PySem.W.keepIn K (.ref f_text_behind) = true)
    {f_texts_along : Addr} {od_texts_along an_texts_along : Option Addr} {sl_texts_along : Array (Option Value)} {oc_texts_along kV_texts_along dc_texts_along pm_texts_along ct_texts_along : Value}
    {cc_texts_along : Addr}
    (a_texts_along : PySem.W.nsIn K mainGlobals "texts_along" = some (some (.ref f_texts_along))) (l_texts_along : K.lookup f_texts_along = some ⟨oc_texts_along, od_texts_along, .func (PySem.W.fnOf "texts_along" "texts_along" (defArgs s_texts_along) (defBody s_texts_along) (defScope s_texts_along) .none kV_texts_along dc_texts_along pm_texts_along an_texts_along (.ref cc_texts_along) ct_texts_along), sl_texts_along⟩) (c_texts_along : PySem.W.codeIn K (.ref cc_texts_along) "texts_along" = true) (k_texts_along : PySem.W.keepIn K (.ref f_texts_along) = true)
    {P_texts_along : Addr} {eM_texts_along : Value} {dM_texts_along : Option Addr} {vM_texts_along : Array Value} {sM_texts_along : Array (Option Value)} (m_texts_along : K.lookup cc_texts_along = some ⟨eM_texts_along, dM_texts_along, .fields vM_texts_along, sM_texts_along⟩) (p_texts_along : vM_texts_along[11]? = some (.ref P_texts_along)) (n_texts_along : K.lookup P_texts_along = none)
    {f_text_after : Addr} {od_text_after an_text_after : Option Addr} {sl_text_after : Array (Option Value)} {oc_text_after kV_text_after dc_text_after pm_text_after cd_text_after ct_text_after : Value}
    (a_text_after : PySem.W.nsIn K mainGlobals "text_after" = some (some (.ref f_text_after))) (l_text_after : K.lookup f_text_after = some ⟨oc_text_after, od_text_after, .func (PySem.W.fnOf "text_after" "text_after" (defArgs s_text_after) (defBody s_text_after) (defScope s_text_after) .none kV_text_after dc_text_after pm_text_after an_text_after cd_text_after ct_text_after), sl_text_after⟩) (c_text_after : PySem.W.codeIn K cd_text_after "text_after" = true) (k_text_after : PySem.W.keepIn K (.ref f_text_after) = true)
    {f_message_of : Addr} {od_message_of an_message_of : Option Addr} {sl_message_of : Array (Option Value)} {oc_message_of kV_message_of dc_message_of pm_message_of cd_message_of ct_message_of : Value}
    (a_message_of : PySem.W.nsIn K mainGlobals "message_of" = some (some (.ref f_message_of))) (l_message_of : K.lookup f_message_of = some ⟨oc_message_of, od_message_of, .func (PySem.W.fnOf "message_of" "message_of" (defArgs s_message_of) (defBody s_message_of) (defScope s_message_of) .none kV_message_of dc_message_of pm_message_of an_message_of cd_message_of ct_message_of), sl_message_of⟩) (c_message_of : PySem.W.codeIn K cd_message_of "message_of" = true) (k_message_of : PySem.W.keepIn K (.ref f_message_of) = true)
    {f_told : Addr} {od_told an_told : Option Addr} {sl_told : Array (Option Value)} {oc_told kV_told dc_told pm_told cd_told ct_told : Value}
    (a_told : PySem.W.nsIn K mainGlobals "told" = some (some (.ref f_told))) (l_told : K.lookup f_told = some ⟨oc_told, od_told, .func (PySem.W.fnOf "told" "told" (defArgs s_told) (defBody s_told) (defScope s_told) .none kV_told dc_told pm_told an_told cd_told ct_told), sl_told⟩) (c_told : PySem.W.codeIn K cd_told "told" = true) (k_told : PySem.W.keepIn K (.ref f_told) = true)
    {f_is_fooled : Addr} {od_is_fooled an_is_fooled : Option Addr} {sl_is_fooled : Array (Option Value)} {oc_is_fooled kV_is_fooled dc_is_fooled pm_is_fooled cd_is_fooled ct_is_fooled : Value}
    (a_is_fooled : PySem.W.nsIn K mainGlobals "is_fooled" = some (some (.ref f_is_fooled))) (l_is_fooled : K.lookup f_is_fooled = some ⟨oc_is_fooled, od_is_fooled, .func (PySem.W.fnOf "is_fooled" "is_fooled" (defArgs s_is_fooled) (defBody s_is_fooled) (defScope s_is_fooled) .none kV_is_fooled dc_is_fooled pm_is_fooled an_is_fooled cd_is_fooled ct_is_fooled), sl_is_fooled⟩) (c_is_fooled : PySem.W.codeIn K cd_is_fooled "is_fooled" = true) (k_is_fooled : PySem.W.keepIn K (.ref f_is_fooled) = true)
    {f_fool : Addr} {od_fool an_fool : Option Addr} {sl_fool : Array (Option Value)} {oc_fool kV_fool dc_fool pm_fool cd_fool ct_fool : Value}
    (a_fool : PySem.W.nsIn K mainGlobals "fool" = some (some (.ref f_fool))) (l_fool : K.lookup f_fool = some ⟨oc_fool, od_fool, .func (PySem.W.fnOf "fool" "fool" (defArgs s_fool) (defBody s_fool) (defScope s_fool) .none kV_fool dc_fool pm_fool an_fool cd_fool ct_fool), sl_fool⟩) (c_fool : PySem.W.codeIn K cd_fool "fool" = true) (k_fool : PySem.W.keepIn K (.ref f_fool) = true)
    {f_law_taken : Addr} {od_law_taken an_law_taken : Option Addr} {sl_law_taken : Array (Option Value)} {oc_law_taken kV_law_taken dc_law_taken pm_law_taken cd_law_taken ct_law_taken : Value}
    (a_law_taken : PySem.W.nsIn K mainGlobals "_law_taken" = some (some (.ref f_law_taken))) (l_law_taken : K.lookup f_law_taken = some ⟨oc_law_taken, od_law_taken, .func (PySem.W.fnOf "_law_taken" "_law_taken" (defArgs s_law_taken) (defBody s_law_taken) (defScope s_law_taken) .none kV_law_taken dc_law_taken pm_law_taken an_law_taken cd_law_taken ct_law_taken), sl_law_taken⟩) (c_law_taken : PySem.W.codeIn K cd_law_taken "_law_taken" = true) (k_law_taken : PySem.W.keepIn K (.ref f_law_taken) = true)
    {f_check_messages : Addr} {od_check_messages an_check_messages : Option Addr} {sl_check_messages : Array (Option Value)} {oc_check_messages kV_check_messages dc_check_messages pm_check_messages cd_check_messages ct_check_messages : Value}
    (a_check_messages : PySem.W.nsIn K mainGlobals "check_messages" = some (some (.ref f_check_messages))) (l_check_messages : K.lookup f_check_messages = some ⟨oc_check_messages, od_check_messages, .func (PySem.W.fnOf "check_messages" "check_messages" (defArgs s_check_messages) (defBody s_check_messages) (defScope s_check_messages) .none kV_check_messages dc_check_messages pm_check_messages an_check_messages cd_check_messages ct_check_messages), sl_check_messages⟩) (c_check_messages : PySem.W.codeIn K cd_check_messages "check_messages" = true) (k_check_messages : PySem.W.keepIn K (.ref f_check_messages) = true)
    {f_check_row : Addr} {od_check_row an_check_row : Option Addr} {sl_check_row : Array (Option Value)} {oc_check_row kV_check_row dc_check_row pm_check_row ct_check_row : Value}
    {cc_check_row : Addr}
    (a_check_row : PySem.W.nsIn K mainGlobals "check_row" = some (some (.ref f_check_row))) (l_check_row : K.lookup f_check_row = some ⟨oc_check_row, od_check_row, .func (PySem.W.fnOf "check_row" "check_row" (defArgs s_check_row) (defBody s_check_row) (defScope s_check_row) .none kV_check_row dc_check_row pm_check_row an_check_row (.ref cc_check_row) ct_check_row), sl_check_row⟩) (c_check_row : PySem.W.codeIn K (.ref cc_check_row) "check_row" = true) (k_check_row : PySem.W.keepIn K (.ref f_check_row) = true)
    {P_check_row : Addr} {eM_check_row : Value} {dM_check_row : Option Addr} {vM_check_row : Array Value} {sM_check_row : Array (Option Value)} (m_check_row : K.lookup cc_check_row = some ⟨eM_check_row, dM_check_row, .fields vM_check_row, sM_check_row⟩) (p_check_row : vM_check_row[11]? = some (.ref P_check_row)) (n_check_row : K.lookup P_check_row = none)
    {f_keep : Addr} {od_keep an_keep : Option Addr} {sl_keep : Array (Option Value)} {oc_keep kV_keep dc_keep pm_keep cd_keep ct_keep : Value}
    (a_keep : PySem.W.nsIn K mainGlobals "keep" = some (some (.ref f_keep))) (l_keep : K.lookup f_keep = some ⟨oc_keep, od_keep, .func (PySem.W.fnOf "keep" "keep" (defArgs s_keep) (defBody s_keep) (defScope s_keep) .none kV_keep dc_keep pm_keep an_keep cd_keep ct_keep), sl_keep⟩) (c_keep : PySem.W.codeIn K cd_keep "keep" = true) (k_keep : PySem.W.keepIn K (.ref f_keep) = true)
    {f_is_text : Addr} {od_is_text an_is_text : Option Addr} {sl_is_text : Array (Option Value)} {oc_is_text kV_is_text dc_is_text pm_is_text cd_is_text ct_is_text : Value}
    (a_is_text : PySem.W.nsIn K mainGlobals "is_text" = some (some (.ref f_is_text))) (l_is_text : K.lookup f_is_text = some ⟨oc_is_text, od_is_text, .func (PySem.W.fnOf "is_text" "is_text" (defArgs s_is_text) (defBody s_is_text) (defScope s_is_text) .none kV_is_text dc_is_text pm_is_text an_is_text cd_is_text ct_is_text), sl_is_text⟩) (c_is_text : PySem.W.codeIn K cd_is_text "is_text" = true) (k_is_text : PySem.W.keepIn K (.ref f_is_text) = true)
    {f_check_text : Addr} {od_check_text an_check_text : Option Addr} {sl_check_text : Array (Option Value)} {oc_check_text kV_check_text dc_check_text pm_check_text cd_check_text ct_check_text : Value}
    (a_check_text : PySem.W.nsIn K mainGlobals "check_text" = some (some (.ref f_check_text))) (l_check_text : K.lookup f_check_text = some ⟨oc_check_text, od_check_text, .func (PySem.W.fnOf "check_text" "check_text" (defArgs s_check_text) (defBody s_check_text) (defScope s_check_text) .none kV_check_text dc_check_text pm_check_text an_check_text cd_check_text ct_check_text), sl_check_text⟩) (c_check_text : PySem.W.codeIn K cd_check_text "check_text" = true) (k_check_text : PySem.W.keepIn K (.ref f_check_text) = true)
    {f_state_of : Addr} {od_state_of an_state_of : Option Addr} {sl_state_of : Array (Option Value)} {oc_state_of kV_state_of dc_state_of pm_state_of cd_state_of ct_state_of : Value}
    (a_state_of : PySem.W.nsIn K mainGlobals "state_of" = some (some (.ref f_state_of))) (l_state_of : K.lookup f_state_of = some ⟨oc_state_of, od_state_of, .func (PySem.W.fnOf "state_of" "state_of" (defArgs s_state_of) (defBody s_state_of) (defScope s_state_of) .none kV_state_of dc_state_of pm_state_of an_state_of cd_state_of ct_state_of), sl_state_of⟩) (c_state_of : PySem.W.codeIn K cd_state_of "state_of" = true) (k_state_of : PySem.W.keepIn K (.ref f_state_of) = true)
    {f_answer : Addr} {od_answer an_answer : Option Addr} {sl_answer : Array (Option Value)} {oc_answer kV_answer dc_answer pm_answer cd_answer ct_answer : Value}
    (a_answer : PySem.W.nsIn K mainGlobals "answer" = some (some (.ref f_answer))) (l_answer : K.lookup f_answer = some ⟨oc_answer, od_answer, .func (PySem.W.fnOf "answer" "answer" (defArgs s_answer) (defBody s_answer) (defScope s_answer) .none kV_answer dc_answer pm_answer an_answer cd_answer ct_answer), sl_answer⟩) (c_answer : PySem.W.codeIn K cd_answer "answer" = true) (k_answer : PySem.W.keepIn K (.ref f_answer) = true)
    {f_can_keep : Addr} {od_can_keep an_can_keep : Option Addr} {sl_can_keep : Array (Option Value)} {oc_can_keep kV_can_keep dc_can_keep pm_can_keep cd_can_keep ct_can_keep : Value}
    (a_can_keep : PySem.W.nsIn K mainGlobals "can_keep" = some (some (.ref f_can_keep))) (l_can_keep : K.lookup f_can_keep = some ⟨oc_can_keep, od_can_keep, .func (PySem.W.fnOf "can_keep" "can_keep" (defArgs s_can_keep) (defBody s_can_keep) (defScope s_can_keep) .none kV_can_keep dc_can_keep pm_can_keep an_can_keep cd_can_keep ct_can_keep), sl_can_keep⟩) (c_can_keep : PySem.W.codeIn K cd_can_keep "can_keep" = true) (k_can_keep : PySem.W.keepIn K (.ref f_can_keep) = true)
    {f_merge_reason : Addr} {od_merge_reason an_merge_reason : Option Addr} {sl_merge_reason : Array (Option Value)} {oc_merge_reason kV_merge_reason dc_merge_reason pm_merge_reason cd_merge_reason ct_merge_reason : Value}
    (a_merge_reason : PySem.W.nsIn K mainGlobals "merge_reason" = some (some (.ref f_merge_reason))) (l_merge_reason : K.lookup f_merge_reason = some ⟨oc_merge_reason, od_merge_reason, .func (PySem.W.fnOf "merge_reason" "merge_reason" (defArgs s_merge_reason) (defBody s_merge_reason) (defScope s_merge_reason) .none kV_merge_reason dc_merge_reason pm_merge_reason an_merge_reason cd_merge_reason ct_merge_reason), sl_merge_reason⟩) (c_merge_reason : PySem.W.codeIn K cd_merge_reason "merge_reason" = true) (k_merge_reason : PySem.W.keepIn K (.ref f_merge_reason) = true)
    {f_reason : Addr} {od_reason an_reason : Option Addr} {sl_reason : Array (Option Value)} {oc_reason kV_reason dc_reason pm_reason cd_reason ct_reason : Value}
    (a_reason : PySem.W.nsIn K mainGlobals "reason" = some (some (.ref f_reason))) (l_reason : K.lookup f_reason = some ⟨oc_reason, od_reason, .func (PySem.W.fnOf "reason" "reason" (defArgs s_reason) (defBody s_reason) (defScope s_reason) .none kV_reason dc_reason pm_reason an_reason cd_reason ct_reason), sl_reason⟩) (c_reason : PySem.W.codeIn K cd_reason "reason" = true) (k_reason : PySem.W.keepIn K (.ref f_reason) = true)
    {f_numbered : Addr} {od_numbered an_numbered : Option Addr} {sl_numbered : Array (Option Value)} {oc_numbered kV_numbered dc_numbered pm_numbered cd_numbered ct_numbered : Value}
    (a_numbered : PySem.W.nsIn K mainGlobals "numbered" = some (some (.ref f_numbered))) (l_numbered : K.lookup f_numbered = some ⟨oc_numbered, od_numbered, .func (PySem.W.fnOf "numbered" "numbered" (defArgs s_numbered) (defBody s_numbered) (defScope s_numbered) .none kV_numbered dc_numbered pm_numbered an_numbered cd_numbered ct_numbered), sl_numbered⟩) (c_numbered : PySem.W.codeIn K cd_numbered "numbered" = true) (k_numbered : PySem.W.keepIn K (.ref f_numbered) = true)
    {f_behind_move : Addr} {od_behind_move an_behind_move : Option Addr} {sl_behind_move : Array (Option Value)} {oc_behind_move kV_behind_move dc_behind_move pm_behind_move cd_behind_move ct_behind_move : Value}
    (a_behind_move : PySem.W.nsIn K mainGlobals "behind_move" = some (some (.ref f_behind_move))) (l_behind_move : K.lookup f_behind_move = some ⟨oc_behind_move, od_behind_move, .func (PySem.W.fnOf "behind_move" "behind_move" (defArgs s_behind_move) (defBody s_behind_move) (defScope s_behind_move) .none kV_behind_move dc_behind_move pm_behind_move an_behind_move cd_behind_move ct_behind_move), sl_behind_move⟩) (c_behind_move : PySem.W.codeIn K cd_behind_move "behind_move" = true) (k_behind_move : PySem.W.keepIn K (.ref f_behind_move) = true)
    {f_relabellings : Addr} {od_relabellings an_relabellings : Option Addr} {sl_relabellings : Array (Option Value)} {oc_relabellings kV_relabellings dc_relabellings pm_relabellings cd_relabellings ct_relabellings : Value}
    (a_relabellings : PySem.W.nsIn K mainGlobals "relabellings" = some (some (.ref f_relabellings))) (l_relabellings : K.lookup f_relabellings = some ⟨oc_relabellings, od_relabellings, .func (PySem.W.fnOf "relabellings" "relabellings" (defArgs s_relabellings) (defBody s_relabellings) (defScope s_relabellings) .none kV_relabellings dc_relabellings pm_relabellings an_relabellings cd_relabellings ct_relabellings), sl_relabellings⟩) (c_relabellings : PySem.W.codeIn K cd_relabellings "relabellings" = true) (k_relabellings : PySem.W.keepIn K (.ref f_relabellings) = true)
    {f_table_of : Addr} {od_table_of an_table_of : Option Addr} {sl_table_of : Array (Option Value)} {oc_table_of kV_table_of dc_table_of pm_table_of cd_table_of ct_table_of : Value}
    (a_table_of : PySem.W.nsIn K mainGlobals "table_of" = some (some (.ref f_table_of))) (l_table_of : K.lookup f_table_of = some ⟨oc_table_of, od_table_of, .func (PySem.W.fnOf "table_of" "table_of" (defArgs s_table_of) (defBody s_table_of) (defScope s_table_of) .none kV_table_of dc_table_of pm_table_of an_table_of cd_table_of ct_table_of), sl_table_of⟩) (c_table_of : PySem.W.codeIn K cd_table_of "table_of" = true) (k_table_of : PySem.W.keepIn K (.ref f_table_of) = true)
    {f_relabel_move : Addr} {od_relabel_move an_relabel_move : Option Addr} {sl_relabel_move : Array (Option Value)} {oc_relabel_move kV_relabel_move dc_relabel_move pm_relabel_move cd_relabel_move ct_relabel_move : Value}
    (a_relabel_move : PySem.W.nsIn K mainGlobals "relabel_move" = some (some (.ref f_relabel_move))) (l_relabel_move : K.lookup f_relabel_move = some ⟨oc_relabel_move, od_relabel_move, .func (PySem.W.fnOf "relabel_move" "relabel_move" (defArgs s_relabel_move) (defBody s_relabel_move) (defScope s_relabel_move) .none kV_relabel_move dc_relabel_move pm_relabel_move an_relabel_move cd_relabel_move ct_relabel_move), sl_relabel_move⟩) (c_relabel_move : PySem.W.codeIn K cd_relabel_move "relabel_move" = true) (k_relabel_move : PySem.W.keepIn K (.ref f_relabel_move) = true)
    {f_ahead_move : Addr} {od_ahead_move an_ahead_move : Option Addr} {sl_ahead_move : Array (Option Value)} {oc_ahead_move kV_ahead_move dc_ahead_move pm_ahead_move cd_ahead_move ct_ahead_move : Value}
    (a_ahead_move : PySem.W.nsIn K mainGlobals "ahead_move" = some (some (.ref f_ahead_move))) (l_ahead_move : K.lookup f_ahead_move = some ⟨oc_ahead_move, od_ahead_move, .func (PySem.W.fnOf "ahead_move" "ahead_move" (defArgs s_ahead_move) (defBody s_ahead_move) (defScope s_ahead_move) .none kV_ahead_move dc_ahead_move pm_ahead_move an_ahead_move cd_ahead_move ct_ahead_move), sl_ahead_move⟩) (c_ahead_move : PySem.W.codeIn K cd_ahead_move "ahead_move" = true) (k_ahead_move : PySem.W.keepIn K (.ref f_ahead_move) = true)
    {f_reverse_move : Addr} {od_reverse_move an_reverse_move : Option Addr} {sl_reverse_move : Array (Option Value)} {oc_reverse_move kV_reverse_move dc_reverse_move pm_reverse_move cd_reverse_move ct_reverse_move : Value}
    (a_reverse_move : PySem.W.nsIn K mainGlobals "reverse_move" = some (some (.ref f_reverse_move))) (l_reverse_move : K.lookup f_reverse_move = some ⟨oc_reverse_move, od_reverse_move, .func (PySem.W.fnOf "reverse_move" "reverse_move" (defArgs s_reverse_move) (defBody s_reverse_move) (defScope s_reverse_move) .none kV_reverse_move dc_reverse_move pm_reverse_move an_reverse_move cd_reverse_move ct_reverse_move), sl_reverse_move⟩) (c_reverse_move : PySem.W.codeIn K cd_reverse_move "reverse_move" = true) (k_reverse_move : PySem.W.keepIn K (.ref f_reverse_move) = true)
    {f_first_memory : Addr} {od_first_memory an_first_memory : Option Addr} {sl_first_memory : Array (Option Value)} {oc_first_memory kV_first_memory dc_first_memory pm_first_memory cd_first_memory ct_first_memory : Value}
    (a_first_memory : PySem.W.nsIn K mainGlobals "first_memory" = some (some (.ref f_first_memory))) (l_first_memory : K.lookup f_first_memory = some ⟨oc_first_memory, od_first_memory, .func (PySem.W.fnOf "first_memory" "first_memory" (defArgs s_first_memory) (defBody s_first_memory) (defScope s_first_memory) .none kV_first_memory dc_first_memory pm_first_memory an_first_memory cd_first_memory ct_first_memory), sl_first_memory⟩) (c_first_memory : PySem.W.codeIn K cd_first_memory "first_memory" = true) (k_first_memory : PySem.W.keepIn K (.ref f_first_memory) = true)
    {f_move_of : Addr} {od_move_of an_move_of : Option Addr} {sl_move_of : Array (Option Value)} {oc_move_of kV_move_of dc_move_of pm_move_of cd_move_of ct_move_of : Value}
    (a_move_of : PySem.W.nsIn K mainGlobals "move_of" = some (some (.ref f_move_of))) (l_move_of : K.lookup f_move_of = some ⟨oc_move_of, od_move_of, .func (PySem.W.fnOf "move_of" "move_of" (defArgs s_move_of) (defBody s_move_of) (defScope s_move_of) .none kV_move_of dc_move_of pm_move_of an_move_of cd_move_of ct_move_of), sl_move_of⟩) (c_move_of : PySem.W.codeIn K cd_move_of "move_of" = true) (k_move_of : PySem.W.keepIn K (.ref f_move_of) = true)
    {f_right_keeper : Addr} {od_right_keeper an_right_keeper : Option Addr} {sl_right_keeper : Array (Option Value)} {oc_right_keeper kV_right_keeper dc_right_keeper pm_right_keeper cd_right_keeper ct_right_keeper : Value}
    (a_right_keeper : PySem.W.nsIn K mainGlobals "right_keeper" = some (some (.ref f_right_keeper))) (l_right_keeper : K.lookup f_right_keeper = some ⟨oc_right_keeper, od_right_keeper, .func (PySem.W.fnOf "right_keeper" "right_keeper" (defArgs s_right_keeper) (defBody s_right_keeper) (defScope s_right_keeper) .none kV_right_keeper dc_right_keeper pm_right_keeper an_right_keeper cd_right_keeper ct_right_keeper), sl_right_keeper⟩) (c_right_keeper : PySem.W.codeIn K cd_right_keeper "right_keeper" = true) (k_right_keeper : PySem.W.keepIn K (.ref f_right_keeper) = true)
    {f_keeper : Addr} {od_keeper an_keeper : Option Addr} {sl_keeper : Array (Option Value)} {oc_keeper kV_keeper dc_keeper pm_keeper cd_keeper ct_keeper : Value}
    (a_keeper : PySem.W.nsIn K mainGlobals "keeper" = some (some (.ref f_keeper))) (l_keeper : K.lookup f_keeper = some ⟨oc_keeper, od_keeper, .func (PySem.W.fnOf "keeper" "keeper" (defArgs s_keeper) (defBody s_keeper) (defScope s_keeper) .none kV_keeper dc_keeper pm_keeper an_keeper cd_keeper ct_keeper), sl_keeper⟩) (c_keeper : PySem.W.codeIn K cd_keeper "keeper" = true) (k_keeper : PySem.W.keepIn K (.ref f_keeper) = true)
    {f_least : Addr} {od_least an_least : Option Addr} {sl_least : Array (Option Value)} {oc_least kV_least dc_least pm_least cd_least ct_least : Value}
    (a_least : PySem.W.nsIn K mainGlobals "least" = some (some (.ref f_least))) (l_least : K.lookup f_least = some ⟨oc_least, od_least, .func (PySem.W.fnOf "least" "least" (defArgs s_least) (defBody s_least) (defScope s_least) .none kV_least dc_least pm_least an_least cd_least ct_least), sl_least⟩) (c_least : PySem.W.codeIn K cd_least "least" = true) (k_least : PySem.W.keepIn K (.ref f_least) = true)
    {f_maps : Addr} {od_maps an_maps : Option Addr} {sl_maps : Array (Option Value)} {oc_maps kV_maps dc_maps pm_maps cd_maps ct_maps : Value}
    (a_maps : PySem.W.nsIn K mainGlobals "maps" = some (some (.ref f_maps))) (l_maps : K.lookup f_maps = some ⟨oc_maps, od_maps, .func (PySem.W.fnOf "maps" "maps" (defArgs s_maps) (defBody s_maps) (defScope s_maps) .none kV_maps dc_maps pm_maps an_maps cd_maps ct_maps), sl_maps⟩) (c_maps : PySem.W.codeIn K cd_maps "maps" = true) (k_maps : PySem.W.keepIn K (.ref f_maps) = true)
    {f_law : Addr} {od_law an_law : Option Addr} {sl_law : Array (Option Value)} {oc_law kV_law dc_law pm_law cd_law ct_law : Value}
    (a_law : PySem.W.nsIn K mainGlobals "law" = some (some (.ref f_law))) (l_law : K.lookup f_law = some ⟨oc_law, od_law, .func (PySem.W.fnOf "law" "law" (defArgs s_law) (defBody s_law) (defScope s_law) .none kV_law dc_law pm_law an_law cd_law ct_law), sl_law⟩) (c_law : PySem.W.codeIn K cd_law "law" = true) (k_law : PySem.W.keepIn K (.ref f_law) = true)
    (ne_order_reason_texts_along : P_order_reason ≠ P_texts_along)
    (ne_order_reason_check_row : P_order_reason ≠ P_check_row)
    (ne_texts_along_check_row : P_texts_along ≠ P_check_row)
    {t_MOST_ANSWER : Tok} (v_MOST_ANSWER : PySem.W.nsIn K mainGlobals "MOST_ANSWER" = some (some (.int 3 t_MOST_ANSWER)))
    {t_MOST_EDITS : Tok} (v_MOST_EDITS : PySem.W.nsIn K mainGlobals "MOST_EDITS" = some (some (.int 100 t_MOST_EDITS)))
    {t_MOST_LETTERS : Tok} (v_MOST_LETTERS : PySem.W.nsIn K mainGlobals "MOST_LETTERS" = some (some (.int 3 t_MOST_LETTERS)))
    {t_MOST_MAPS : Tok} (v_MOST_MAPS : PySem.W.nsIn K mainGlobals "MOST_MAPS" = some (some (.int 2000 t_MOST_MAPS)))
    {t_MOST_MEMORIES : Tok} (v_MOST_MEMORIES : PySem.W.nsIn K mainGlobals "MOST_MEMORIES" = some (some (.int 3000 t_MOST_MEMORIES)))
    {t_MOST_MESSAGES : Tok} (v_MOST_MESSAGES : PySem.W.nsIn K mainGlobals "MOST_MESSAGES" = some (some (.int 100 t_MOST_MESSAGES)))
    {t_MOST_STATES : Tok} (v_MOST_STATES : PySem.W.nsIn K mainGlobals "MOST_STATES" = some (some (.int 40 t_MOST_STATES)))
    {t_MOST_TEXT : Tok} (v_MOST_TEXT : PySem.W.nsIn K mainGlobals "MOST_TEXT" = some (some (.int 60 t_MOST_TEXT)))
    (z_abs : PySem.W.nsIn K mainGlobals "abs" = some none)
    (z_all : PySem.W.nsIn K mainGlobals "all" = some none)
    (z_any : PySem.W.nsIn K mainGlobals "any" = some none)
    (z_bool : PySem.W.nsIn K mainGlobals "bool" = some none)
    (z_enumerate : PySem.W.nsIn K mainGlobals "enumerate" = some none)
    (z_int : PySem.W.nsIn K mainGlobals "int" = some none)
    (z_isinstance : PySem.W.nsIn K mainGlobals "isinstance" = some none)
    (z_len : PySem.W.nsIn K mainGlobals "len" = some none)
    (z_list : PySem.W.nsIn K mainGlobals "list" = some none)
    (z_min : PySem.W.nsIn K mainGlobals "min" = some none)
    (z_range : PySem.W.nsIn K mainGlobals "range" = some none)
    (z_set : PySem.W.nsIn K mainGlobals "set" = some none)
    (z_sorted : PySem.W.nsIn K mainGlobals "sorted" = some none)
    (z_str : PySem.W.nsIn K mainGlobals "str" = some none)
    (z_tuple : PySem.W.nsIn K mainGlobals "tuple" = some none)
    {d_WORDS : Addr} {es_WORDS : Array DictEntry} {n_WORDS : Nat} (g_WORDS : PySem.W.nsIn K mainGlobals "WORDS" = some (some (.ref d_WORDS))) (h_WORDS : K.lookup d_WORDS = some ⟨.type "dict", none, .dict es_WORDS n_WORDS, #[]⟩) (i_WORDS : PySem.W.KeysLit w.params es_WORDS.toList) (j_WORDS : (d_WORDS == sysModules) = false)
    {p_WORDS_0 : Addr} {o_WORDS_0 : Option Addr} {s_WORDS_0 : Array (Option Value)} {y_WORDS_0 : Array Value} {m_WORDS_0 : Nat} (x_WORDS_0 : PySem.W.nsIn K d_WORDS "end" = some (some (.ref p_WORDS_0))) (e_WORDS_0 : K.lookup p_WORDS_0 = some ⟨.type "tuple", o_WORDS_0, .seq y_WORDS_0 m_WORDS_0, s_WORDS_0⟩) (w_WORDS_0 : y_WORDS_0.size ≤ sizeLine) (q_WORDS_0 : Vals ((["put"] : List Str).map V.str) y_WORDS_0.toList)
    {p_WORDS_1 : Addr} {o_WORDS_1 : Option Addr} {s_WORDS_1 : Array (Option Value)} {y_WORDS_1 : Array Value} {m_WORDS_1 : Nat} (x_WORDS_1 : PySem.W.nsIn K d_WORDS "ends" = some (some (.ref p_WORDS_1))) (e_WORDS_1 : K.lookup p_WORDS_1 = some ⟨.type "tuple", o_WORDS_1, .seq y_WORDS_1 m_WORDS_1, s_WORDS_1⟩) (w_WORDS_1 : y_WORDS_1.size ≤ sizeLine) (q_WORDS_1 : Vals ((["front", "put"] : List Str).map V.str) y_WORDS_1.toList)
    {p_WORDS_2 : Addr} {o_WORDS_2 : Option Addr} {s_WORDS_2 : Array (Option Value)} {y_WORDS_2 : Array Value} {m_WORDS_2 : Nat} (x_WORDS_2 : PySem.W.nsIn K d_WORDS "stack" = some (some (.ref p_WORDS_2))) (e_WORDS_2 : K.lookup p_WORDS_2 = some ⟨.type "tuple", o_WORDS_2, .seq y_WORDS_2 m_WORDS_2, s_WORDS_2⟩) (w_WORDS_2 : y_WORDS_2.size ≤ sizeLine) (q_WORDS_2 : Vals ((["chop", "put"] : List Str).map V.str) y_WORDS_2.toList)
    {p_WORDS_3 : Addr} {o_WORDS_3 : Option Addr} {s_WORDS_3 : Array (Option Value)} {y_WORDS_3 : Array Value} {m_WORDS_3 : Nat} (x_WORDS_3 : PySem.W.nsIn K d_WORDS "deque" = some (some (.ref p_WORDS_3))) (e_WORDS_3 : K.lookup p_WORDS_3 = some ⟨.type "tuple", o_WORDS_3, .seq y_WORDS_3 m_WORDS_3, s_WORDS_3⟩) (w_WORDS_3 : y_WORDS_3.size ≤ sizeLine) (q_WORDS_3 : Vals ((["behead", "chop", "front", "put"] : List Str).map V.str) y_WORDS_3.toList)
    {p_WORDS_4 : Addr} {o_WORDS_4 : Option Addr} {s_WORDS_4 : Array (Option Value)} {y_WORDS_4 : Array Value} {m_WORDS_4 : Nat} (x_WORDS_4 : PySem.W.nsIn K d_WORDS "in" = some (some (.ref p_WORDS_4))) (e_WORDS_4 : K.lookup p_WORDS_4 = some ⟨.type "tuple", o_WORDS_4, .seq y_WORDS_4 m_WORDS_4, s_WORDS_4⟩) (w_WORDS_4 : y_WORDS_4.size ≤ sizeLine) (q_WORDS_4 : Vals ((["put"] : List Str).map V.str) y_WORDS_4.toList)
    {p_WORDS_5 : Addr} {o_WORDS_5 : Option Addr} {s_WORDS_5 : Array (Option Value)} {y_WORDS_5 : Array Value} {m_WORDS_5 : Nat} (x_WORDS_5 : PySem.W.nsIn K d_WORDS "inout" = some (some (.ref p_WORDS_5))) (e_WORDS_5 : K.lookup p_WORDS_5 = some ⟨.type "tuple", o_WORDS_5, .seq y_WORDS_5 m_WORDS_5, s_WORDS_5⟩) (w_WORDS_5 : y_WORDS_5.size ≤ sizeLine) (q_WORDS_5 : Vals ((["put", "take"] : List Str).map V.str) y_WORDS_5.toList)
    {p_WORDS_6 : Addr} {o_WORDS_6 : Option Addr} {s_WORDS_6 : Array (Option Value)} {y_WORDS_6 : Array Value} {m_WORDS_6 : Nat} (x_WORDS_6 : PySem.W.nsIn K d_WORDS "relabel" = some (some (.ref p_WORDS_6))) (e_WORDS_6 : K.lookup p_WORDS_6 = some ⟨.type "tuple", o_WORDS_6, .seq y_WORDS_6 m_WORDS_6, s_WORDS_6⟩) (w_WORDS_6 : y_WORDS_6.size ≤ sizeLine) (q_WORDS_6 : Vals ((["put", "turn"] : List Str).map V.str) y_WORDS_6.toList)
    {p_WORDS_7 : Addr} {o_WORDS_7 : Option Addr} {s_WORDS_7 : Array (Option Value)} {y_WORDS_7 : Array Value} {m_WORDS_7 : Nat} (x_WORDS_7 : PySem.W.nsIn K d_WORDS "reverse" = some (some (.ref p_WORDS_7))) (e_WORDS_7 : K.lookup p_WORDS_7 = some ⟨.type "tuple", o_WORDS_7, .seq y_WORDS_7 m_WORDS_7, s_WORDS_7⟩) (w_WORDS_7 : y_WORDS_7.size ≤ sizeLine) (q_WORDS_7 : Vals ((["put", "turn"] : List Str).map V.str) y_WORDS_7.toList)
    {p_PLACED : Addr} {o_PLACED : Option Addr} {s_PLACED : Array (Option Value)} {y_PLACED : Array Value} {m_PLACED : Nat} (x_PLACED : PySem.W.nsIn K mainGlobals "PLACED" = some (some (.ref p_PLACED))) (e_PLACED : K.lookup p_PLACED = some ⟨.type "tuple", o_PLACED, .seq y_PLACED m_PLACED, s_PLACED⟩) (w_PLACED : y_PLACED.size ≤ sizeLine) (q_PLACED : Vals ((["in", "inout"] : List Str).map V.str) y_PLACED.toList)
    {p_PLACELESS : Addr} {o_PLACELESS : Option Addr} {s_PLACELESS : Array (Option Value)} {y_PLACELESS : Array Value} {m_PLACELESS : Nat} (x_PLACELESS : PySem.W.nsIn K mainGlobals "PLACELESS" = some (some (.ref p_PLACELESS))) (e_PLACELESS : K.lookup p_PLACELESS = some ⟨.type "tuple", o_PLACELESS, .seq y_PLACELESS m_PLACELESS, s_PLACELESS⟩) (w_PLACELESS : y_PLACELESS.size ≤ sizeLine) (q_PLACELESS : Vals ((["in", "inout"] : List Str).map V.str) y_PLACELESS.toList)
    {p_TAKING : Addr} {o_TAKING : Option Addr} {s_TAKING : Array (Option Value)} {y_TAKING : Array Value} {m_TAKING : Nat} (x_TAKING : PySem.W.nsIn K mainGlobals "TAKING" = some (some (.ref p_TAKING))) (e_TAKING : K.lookup p_TAKING = some ⟨.type "tuple", o_TAKING, .seq y_TAKING m_TAKING, s_TAKING⟩) (w_TAKING : y_TAKING.size ≤ sizeLine) (q_TAKING : Vals ((["stack", "deque", "inout"] : List Str).map V.str) y_TAKING.toList)
    {p_TWO_ENDED : Addr} {o_TWO_ENDED : Option Addr} {s_TWO_ENDED : Array (Option Value)} {y_TWO_ENDED : Array Value} {m_TWO_ENDED : Nat} (x_TWO_ENDED : PySem.W.nsIn K mainGlobals "TWO_ENDED" = some (some (.ref p_TWO_ENDED))) (e_TWO_ENDED : K.lookup p_TWO_ENDED = some ⟨.type "tuple", o_TWO_ENDED, .seq y_TWO_ENDED m_TWO_ENDED, s_TWO_ENDED⟩) (w_TWO_ENDED : y_TWO_ENDED.size ≤ sizeLine) (q_TWO_ENDED : Vals ((["ends", "deque"] : List Str).map V.str) y_TWO_ENDED.toList)
    (p_permutations : PySem.W.nsIn K mainGlobals "permutations" = some (some (.type "itertools.permutations")))
    {C_BadEdits : Addr} (xg_BadEdits : PySem.W.nsIn K mainGlobals "BadEdits" = some (some (.ref C_BadEdits)))
    (x3_BadEdits : PySem.W.subIn K (.ref C_BadEdits) (.type "BaseException") = some true)
    (x4_BadEdits : PySem.W.hasDictIn K C_BadEdits = true)
    (xy_BadEdits : PySem.W.typeIn K (.ref C_BadEdits) = some (.type "type"))
    : LamX.LawAtS l w K (L2.CX l.prog w) 14 63 "script" mg fa h := by
  have e := hfa.symm.trans (PySem.W.mg_of X G a_law)
  cases e
  have kt_WORDS : KTab K w d_WORDS tb_WORDS := by
    refine ⟨⟨_, _, ⟨h_WORDS, i_WORDS, j_WORDS⟩⟩, ktab_of fun p hp => ?_⟩
    unfold tb_WORDS at hp
    simp only [List.mem_cons, List.not_mem_nil, or_false] at hp
    rcases hp with rfl | rfl | rfl | rfl | rfl | rfl | rfl | rfl
    · exact ⟨_, x_WORDS_0, _, _, _, e_WORDS_0, rfl, rfl, w_WORDS_0, q_WORDS_0⟩
    · exact ⟨_, x_WORDS_1, _, _, _, e_WORDS_1, rfl, rfl, w_WORDS_1, q_WORDS_1⟩
    · exact ⟨_, x_WORDS_2, _, _, _, e_WORDS_2, rfl, rfl, w_WORDS_2, q_WORDS_2⟩
    · exact ⟨_, x_WORDS_3, _, _, _, e_WORDS_3, rfl, rfl, w_WORDS_3, q_WORDS_3⟩
    · exact ⟨_, x_WORDS_4, _, _, _, e_WORDS_4, rfl, rfl, w_WORDS_4, q_WORDS_4⟩
    · exact ⟨_, x_WORDS_5, _, _, _, e_WORDS_5, rfl, rfl, w_WORDS_5, q_WORDS_5⟩
    · exact ⟨_, x_WORDS_6, _, _, _, e_WORDS_6, rfl, rfl, w_WORDS_6, q_WORDS_6⟩
    · exact ⟨_, x_WORDS_7, _, _, _, e_WORDS_7, rfl, rfl, w_WORDS_7, q_WORDS_7⟩
  have T : Txt w K mg := ⟨PySem.W.mg_none_of X G z_abs, PySem.W.mg_none_of X G z_all, PySem.W.mg_none_of X G z_any, PySem.W.mg_none_of X G z_bool, PySem.W.mg_none_of X G z_enumerate, PySem.W.mg_none_of X G z_int, PySem.W.mg_none_of X G z_isinstance, PySem.W.mg_none_of X G z_len, PySem.W.mg_none_of X G z_list, PySem.W.mg_none_of X G z_min, PySem.W.mg_none_of X G z_range, PySem.W.mg_none_of X G z_set, PySem.W.mg_none_of X G z_sorted, PySem.W.mg_none_of X G z_str, PySem.W.mg_none_of X G z_tuple, ⟨_, PySem.W.mg_of X G v_MOST_ANSWER⟩, ⟨_, PySem.W.mg_of X G v_MOST_EDITS⟩, ⟨_, PySem.W.mg_of X G v_MOST_LETTERS⟩, ⟨_, PySem.W.mg_of X G v_MOST_MAPS⟩, ⟨_, PySem.W.mg_of X G v_MOST_MEMORIES⟩, ⟨_, PySem.W.mg_of X G v_MOST_MESSAGES⟩, ⟨_, PySem.W.mg_of X G v_MOST_STATES⟩, ⟨_, PySem.W.mg_of X G v_MOST_TEXT⟩, ⟨_, PySem.W.mg_of X G x_PLACED, _, _, _, e_PLACED, rfl, rfl, w_PLACED, q_PLACED⟩, ⟨_, PySem.W.mg_of X G x_PLACELESS, _, _, _, e_PLACELESS, rfl, rfl, w_PLACELESS, q_PLACELESS⟩, ⟨_, PySem.W.mg_of X G x_TAKING, _, _, _, e_TAKING, rfl, rfl, w_TAKING, q_TAKING⟩, ⟨_, PySem.W.mg_of X G x_TWO_ENDED, _, _, _, e_TWO_ENDED, rfl, rfl, w_TWO_ENDED, q_TWO_ENDED⟩, ⟨_, PySem.W.mg_of X G g_WORDS, kt_WORDS⟩, PySem.W.mg_of X G p_permutations, ⟨_, (PySem.W.mg_of X G xg_BadEdits), exTab_nil⟩⟩
  have Fl := fun_mk (st := s_law) l_law c_law k_law
  obtain ⟨f1_order_reason, c1_order_reason, P1_order_reason, o1_order_reason, fd1_order_reason, t1_order_reason, t2_order_reason, t3_order_reason, t4_order_reason, t5_order_reason, t6_order_reason⟩ := hX "order_reason" (by simp)
  have z1_order_reason := t1_order_reason.symm.trans (PySem.W.mg_of X G a_order_reason)
  cases z1_order_reason
  rw [X _ _ l_order_reason] at t2_order_reason
  cases t2_order_reason
  cases t3_order_reason
  cases t4_order_reason
  have z2_order_reason : P1_order_reason = P_order_reason := by
    obtain ⟨oo, vv, f1, f2, f3, f4, f5, f6, f7, g1, g2, g3, g4, _⟩ := t5_order_reason
    rw [X _ _ m_order_reason] at g1
    cases g1
    cases g3
    rw [p_order_reason] at g4
    cases g4
    rfl
  subst z2_order_reason
  obtain ⟨f1_texts_along, c1_texts_along, P1_texts_along, o1_texts_along, fd1_texts_along, t1_texts_along, t2_texts_along, t3_texts_along, t4_texts_along, t5_texts_along, t6_texts_along⟩ := hX "texts_along" (by simp)
  have z1_texts_along := t1_texts_along.symm.trans (PySem.W.mg_of X G a_texts_along)
  cases z1_texts_along
  rw [X _ _ l_texts_along] at t2_texts_along
  cases t2_texts_along
  cases t3_texts_along
  cases t4_texts_along
  have z2_texts_along : P1_texts_along = P_texts_along := by
    obtain ⟨oo, vv, f1, f2, f3, f4, f5, f6, f7, g1, g2, g3, g4, _⟩ := t5_texts_along
    rw [X _ _ m_texts_along] at g1
    cases g1
    cases g3
    rw [p_texts_along] at g4
    cases g4
    rfl
  subst z2_texts_along
  obtain ⟨f1_check_row, c1_check_row, P1_check_row, o1_check_row, fd1_check_row, t1_check_row, t2_check_row, t3_check_row, t4_check_row, t5_check_row, t6_check_row⟩ := hX "check_row" (by simp)
  have z1_check_row := t1_check_row.symm.trans (PySem.W.mg_of X G a_check_row)
  cases z1_check_row
  rw [X _ _ l_check_row] at t2_check_row
  cases t2_check_row
  cases t3_check_row
  cases t4_check_row
  have z2_check_row : P1_check_row = P_check_row := by
    obtain ⟨oo, vv, f1, f2, f3, f4, f5, f6, f7, g1, g2, g3, g4, _⟩ := t5_check_row
    rw [X _ _ m_check_row] at g1
    cases g1
    cases g3
    rw [p_check_row] at g4
    cases g4
    rfl
  subst z2_check_row
  refine ⟨(PySem.W.fnOf "law" "law" (defArgs s_law) (defBody s_law) (defScope s_law) .none kV_law dc_law pm_law an_law cd_law ct_law), [(cc_order_reason, P1_order_reason), (cc_texts_along, P1_texts_along), (cc_check_row, P1_check_row)], spA ⟨mg, ⟨w, K, mg, [(P1_order_reason, (("order_reason" : Str) ++ ".<locals>.") ++ "<lambda>"), (P1_texts_along, (("texts_along" : Str) ++ ".<locals>.") ++ "<lambda>"), (P1_check_row, (("check_row" : Str) ++ ".<locals>.") ++ "<lambda>")]⟩⟩ 1 F_law, fun p hp => ?_, fun p hp => ?_, fun p hp => ?_, fun s v => .of_eq rfl, fun H a ns hl _ hT hS => ?_, fun base _ _ hB => ?_⟩
  · simp only [List.mem_cons, List.not_mem_nil, or_false] at hp
    rcases hp with rfl | rfl | rfl
    · exact t6_order_reason
    · exact t6_texts_along
    · exact t6_check_row
  · simp only [List.mem_cons, List.not_mem_nil, or_false] at hp
    rcases hp with rfl | rfl | rfl
    · exact n_order_reason
    · exact n_texts_along
    · exact n_check_row
  · simp only [List.mem_cons, List.not_mem_nil, or_false] at hp
    rcases hp with rfl | rfl | rfl
    · exact t5_order_reason
    · exact t5_texts_along
    · exact t5_check_row
  · refine law_endT hF H a ns hl hS (fun p hp => ?_) fun _ => rfl
    simp only [List.mem_cons, List.not_mem_nil, or_false] at hp
    rcases hp with rfl | rfl | rfl
    · exact LamX.TabS.nil (hT (cc_order_reason, P1_order_reason) (by simp))
    · exact LamX.TabS.nil (hT (cc_texts_along, P1_texts_along) (by simp))
    · exact LamX.TabS.nil (hT (cc_check_row, P1_check_row) (by simp))
  have B_order_reason : LamB mg [(P1_order_reason, (("order_reason" : Str) ++ ".<locals>.") ++ "<lambda>"), (P1_texts_along, (("texts_along" : Str) ++ ".<locals>.") ++ "<lambda>"), (P1_check_row, (("check_row" : Str) ++ ".<locals>.") ++ "<lambda>")] base (PySem.W.fnOf "order_reason" "order_reason" (defArgs s_order_reason) (defBody s_order_reason) (defScope s_order_reason) .none kV_order_reason dc_order_reason pm_order_reason an_order_reason (.ref cc_order_reason) ct_order_reason) ((("order_reason" : Str) ++ ".<locals>.") ++ "<lambda>") cc_order_reason P1_order_reason := by
    refine ⟨rfl, hB (cc_order_reason, P1_order_reason) (by simp), by simp, ?_⟩
    · intro p hp e
      simp only [List.mem_cons, List.not_mem_nil, or_false] at hp
      rcases hp with rfl | rfl | rfl
      · rfl
      · exact absurd e.symm ne_order_reason_texts_along
      · exact absurd e.symm ne_order_reason_check_row
  have B_texts_along : LamB mg [(P1_order_reason, (("order_reason" : Str) ++ ".<locals>.") ++ "<lambda>"), (P1_texts_along, (("texts_along" : Str) ++ ".<locals>.") ++ "<lambda>"), (P1_check_row, (("check_row" : Str) ++ ".<locals>.") ++ "<lambda>")] base (PySem.W.fnOf "texts_along" "texts_along" (defArgs s_texts_along) (defBody s_texts_along) (defScope s_texts_along) .none kV_texts_along dc_texts_along pm_texts_along an_texts_along (.ref cc_texts_along) ct_texts_along) ((("texts_along" : Str) ++ ".<locals>.") ++ "<lambda>") cc_texts_along P1_texts_along := by
    refine ⟨rfl, hB (cc_texts_along, P1_texts_along) (by simp), by simp, ?_⟩
    · intro p hp e
      simp only [List.mem_cons, List.not_mem_nil, or_false] at hp
      rcases hp with rfl | rfl | rfl
      · exact absurd e ne_order_reason_texts_along
      · rfl
      · exact absurd e.symm ne_texts_along_check_row
  have B_check_row : LamB mg [(P1_order_reason, (("order_reason" : Str) ++ ".<locals>.") ++ "<lambda>"), (P1_texts_along, (("texts_along" : Str) ++ ".<locals>.") ++ "<lambda>"), (P1_check_row, (("check_row" : Str) ++ ".<locals>.") ++ "<lambda>")] base (PySem.W.fnOf "check_row" "check_row" (defArgs s_check_row) (defBody s_check_row) (defScope s_check_row) .none kV_check_row dc_check_row pm_check_row an_check_row (.ref cc_check_row) ct_check_row) ((("check_row" : Str) ++ ".<locals>.") ++ "<lambda>") cc_check_row P1_check_row := by
    refine ⟨rfl, hB (cc_check_row, P1_check_row) (by simp), by simp, ?_⟩
    · intro p hp e
      simp only [List.mem_cons, List.not_mem_nil, or_false] at hp
      rcases hp with rfl | rfl | rfl
      · exact absurd e ne_order_reason_check_row
      · exact absurd e ne_texts_along_check_row
      · rfl
  have g_is_number := ok_is_number (P := l.prog) (w := w) (Tb := [(P1_order_reason, (("order_reason" : Str) ++ ".<locals>.") ++ "<lambda>"), (P1_texts_along, (("texts_along" : Str) ++ ".<locals>.") ++ "<lambda>"), (P1_check_row, (("check_row" : Str) ++ ".<locals>.") ++ "<lambda>")]) (base := base) T  (fun_mk (st := s_is_number) l_is_number c_is_number k_is_number) (PySem.W.mg_of X G a_is_number) 
  have g_are_numbers := ok_are_numbers (P := l.prog) (w := w) (Tb := [(P1_order_reason, (("order_reason" : Str) ++ ".<locals>.") ++ "<lambda>"), (P1_texts_along, (("texts_along" : Str) ++ ".<locals>.") ++ "<lambda>"), (P1_check_row, (("check_row" : Str) ++ ".<locals>.") ++ "<lambda>")]) (base := base) T g_is_number (fun_mk (st := s_are_numbers) l_are_numbers c_are_numbers k_are_numbers) (PySem.W.mg_of X G a_are_numbers) 
  have g_are_steps := ok_are_steps (P := l.prog) (w := w) (Tb := [(P1_order_reason, (("order_reason" : Str) ++ ".<locals>.") ++ "<lambda>"), (P1_texts_along, (("texts_along" : Str) ++ ".<locals>.") ++ "<lambda>"), (P1_check_row, (("check_row" : Str) ++ ".<locals>.") ++ "<lambda>")]) (base := base) T g_are_numbers (fun_mk (st := s_are_steps) l_are_steps c_are_steps k_are_steps) (PySem.W.mg_of X G a_are_steps) 
  have g_check_question := ok_check_question (P := l.prog) (w := w) (Tb := [(P1_order_reason, (("order_reason" : Str) ++ ".<locals>.") ++ "<lambda>"), (P1_texts_along, (("texts_along" : Str) ++ ".<locals>.") ++ "<lambda>"), (P1_check_row, (("check_row" : Str) ++ ".<locals>.") ++ "<lambda>")]) (base := base) T g_is_number g_are_steps g_are_numbers (fun_mk (st := s_check_question) l_check_question c_check_question k_check_question) (PySem.W.mg_of X G a_check_question) 
  have g_parted_groups := ok_parted_groups (P := l.prog) (w := w) (Tb := [(P1_order_reason, (("order_reason" : Str) ++ ".<locals>.") ++ "<lambda>"), (P1_texts_along, (("texts_along" : Str) ++ ".<locals>.") ++ "<lambda>"), (P1_check_row, (("check_row" : Str) ++ ".<locals>.") ++ "<lambda>")]) (base := base) T  (fun_mk (st := s_parted_groups) l_parted_groups c_parted_groups k_parted_groups) (PySem.W.mg_of X G a_parted_groups) 
  have g_groups_of := ok_groups_of (P := l.prog) (w := w) (Tb := [(P1_order_reason, (("order_reason" : Str) ++ ".<locals>.") ++ "<lambda>"), (P1_texts_along, (("texts_along" : Str) ++ ".<locals>.") ++ "<lambda>"), (P1_check_row, (("check_row" : Str) ++ ".<locals>.") ++ "<lambda>")]) (base := base) T g_parted_groups ⟨⟨_, _, _, _, _, _, _, _, _, _, rfl, l_groups_of, c_groups_of, .inr ⟨by simp, T_groups_of, _, yT_groups_of.toList, _, rfl, t_groups_of, rfl, u_groups_of⟩, .inl rfl⟩, k_groups_of⟩ (PySem.W.mg_of X G a_groups_of) 
  have g_least_of := ok_least_of (P := l.prog) (w := w) (Tb := [(P1_order_reason, (("order_reason" : Str) ++ ".<locals>.") ++ "<lambda>"), (P1_texts_along, (("texts_along" : Str) ++ ".<locals>.") ++ "<lambda>"), (P1_check_row, (("check_row" : Str) ++ ".<locals>.") ++ "<lambda>")]) (base := base) T g_groups_of ⟨⟨_, _, _, _, _, _, _, _, _, _, rfl, l_least_of, c_least_of, .inr ⟨by simp, T_least_of, _, yT_least_of.toList, _, rfl, t_least_of, rfl, u_least_of⟩, .inl rfl⟩, k_least_of⟩ (PySem.W.mg_of X G a_least_of) 
  have g_is_parting := ok_is_parting (P := l.prog) (w := w) (Tb := [(P1_order_reason, (("order_reason" : Str) ++ ".<locals>.") ++ "<lambda>"), (P1_texts_along, (("texts_along" : Str) ++ ".<locals>.") ++ "<lambda>"), (P1_check_row, (("check_row" : Str) ++ ".<locals>.") ++ "<lambda>")]) (base := base) T  (fun_mk (st := s_is_parting) l_is_parting c_is_parting k_is_parting) (PySem.W.mg_of X G a_is_parting) 
  have g_is_commuting := ok_is_commuting (P := l.prog) (w := w) (Tb := [(P1_order_reason, (("order_reason" : Str) ++ ".<locals>.") ++ "<lambda>"), (P1_texts_along, (("texts_along" : Str) ++ ".<locals>.") ++ "<lambda>"), (P1_check_row, (("check_row" : Str) ++ ".<locals>.") ++ "<lambda>")]) (base := base) T  (fun_mk (st := s_is_commuting) l_is_commuting c_is_commuting k_is_commuting) (PySem.W.mg_of X G a_is_commuting) 
  have g_is_kept := ok_is_kept (P := l.prog) (w := w) (Tb := [(P1_order_reason, (("order_reason" : Str) ++ ".<locals>.") ++ "<lambda>"), (P1_texts_along, (("texts_along" : Str) ++ ".<locals>.") ++ "<lambda>"), (P1_check_row, (("check_row" : Str) ++ ".<locals>.") ++ "<lambda>")]) (base := base) T g_is_commuting g_is_parting (fun_mk (st := s_is_kept) l_is_kept c_is_kept k_is_kept) (PySem.W.mg_of X G a_is_kept) 
  have g_summed := ok_summed (P := l.prog) (w := w) (Tb := [(P1_order_reason, (("order_reason" : Str) ++ ".<locals>.") ++ "<lambda>"), (P1_texts_along, (("texts_along" : Str) ++ ".<locals>.") ++ "<lambda>"), (P1_check_row, (("check_row" : Str) ++ ".<locals>.") ++ "<lambda>")]) (base := base) T g_check_question g_least_of g_is_kept (fun_mk (st := s_summed) l_summed c_summed k_summed) (PySem.W.mg_of X G a_summed) 
  have g_bring_least := ok_bring_least (P := l.prog) (w := w) (Tb := [(P1_order_reason, (("order_reason" : Str) ++ ".<locals>.") ++ "<lambda>"), (P1_texts_along, (("texts_along" : Str) ++ ".<locals>.") ++ "<lambda>"), (P1_check_row, (("check_row" : Str) ++ ".<locals>.") ++ "<lambda>")]) (base := base) T  (fun_mk (st := s_bring_least) l_bring_least c_bring_least k_bring_least) (PySem.W.mg_of X G a_bring_least) 
  have g_add_row := ok_add_row (P := l.prog) (w := w) (Tb := [(P1_order_reason, (("order_reason" : Str) ++ ".<locals>.") ++ "<lambda>"), (P1_texts_along, (("texts_along" : Str) ++ ".<locals>.") ++ "<lambda>"), (P1_check_row, (("check_row" : Str) ++ ".<locals>.") ++ "<lambda>")]) (base := base) T  (fun_mk (st := s_add_row) l_add_row c_add_row k_add_row) (PySem.W.mg_of X G a_add_row) 
  have g_lower := ok_lower (P := l.prog) (w := w) (Tb := [(P1_order_reason, (("order_reason" : Str) ++ ".<locals>.") ++ "<lambda>"), (P1_texts_along, (("texts_along" : Str) ++ ".<locals>.") ++ "<lambda>"), (P1_check_row, (("check_row" : Str) ++ ".<locals>.") ++ "<lambda>")]) (base := base) T g_add_row (fun_mk (st := s_lower) l_lower c_lower k_lower) (PySem.W.mg_of X G a_lower) 
  have g_settle := ok_settle (P := l.prog) (w := w) (Tb := [(P1_order_reason, (("order_reason" : Str) ++ ".<locals>.") ++ "<lambda>"), (P1_texts_along, (("texts_along" : Str) ++ ".<locals>.") ++ "<lambda>"), (P1_check_row, (("check_row" : Str) ++ ".<locals>.") ++ "<lambda>")]) (base := base) T g_bring_least g_lower g_add_row (fun_mk (st := s_settle) l_settle c_settle k_settle) (PySem.W.mg_of X G a_settle) 
  have g_plain_form := ok_plain_form (P := l.prog) (w := w) (Tb := [(P1_order_reason, (("order_reason" : Str) ++ ".<locals>.") ++ "<lambda>"), (P1_texts_along, (("texts_along" : Str) ++ ".<locals>.") ++ "<lambda>"), (P1_check_row, (("check_row" : Str) ++ ".<locals>.") ++ "<lambda>")]) (base := base) T g_settle (fun_mk (st := s_plain_form) l_plain_form c_plain_form k_plain_form) (PySem.W.mg_of X G a_plain_form) 
  have g_counts_with := ok_counts_with (P := l.prog) (w := w) (Tb := [(P1_order_reason, (("order_reason" : Str) ++ ".<locals>.") ++ "<lambda>"), (P1_texts_along, (("texts_along" : Str) ++ ".<locals>.") ++ "<lambda>"), (P1_check_row, (("check_row" : Str) ++ ".<locals>.") ++ "<lambda>")]) (base := base) T  (fun_mk (st := s_counts_with) l_counts_with c_counts_with k_counts_with) (PySem.W.mg_of X G a_counts_with) 
  have g_relations_of := ok_relations_of (P := l.prog) (w := w) (Tb := [(P1_order_reason, (("order_reason" : Str) ++ ".<locals>.") ++ "<lambda>"), (P1_texts_along, (("texts_along" : Str) ++ ".<locals>.") ++ "<lambda>"), (P1_check_row, (("check_row" : Str) ++ ".<locals>.") ++ "<lambda>")]) (base := base) T g_counts_with (fun_mk (st := s_relations_of) l_relations_of c_relations_of k_relations_of) (PySem.W.mg_of X G a_relations_of) 
  have g_weights_of := ok_weights_of (P := l.prog) (w := w) (Tb := [(P1_order_reason, (("order_reason" : Str) ++ ".<locals>.") ++ "<lambda>"), (P1_texts_along, (("texts_along" : Str) ++ ".<locals>.") ++ "<lambda>"), (P1_check_row, (("check_row" : Str) ++ ".<locals>.") ++ "<lambda>")]) (base := base) T g_plain_form g_relations_of (fun_mk (st := s_weights_of) l_weights_of c_weights_of k_weights_of) (PySem.W.mg_of X G a_weights_of) 
  have g_sums_met := ok_sums_met (P := l.prog) (w := w) (Tb := [(P1_order_reason, (("order_reason" : Str) ++ ".<locals>.") ++ "<lambda>"), (P1_texts_along, (("texts_along" : Str) ++ ".<locals>.") ++ "<lambda>"), (P1_check_row, (("check_row" : Str) ++ ".<locals>.") ++ "<lambda>")]) (base := base) T  (fun_mk (st := s_sums_met) l_sums_met c_sums_met k_sums_met) (PySem.W.mg_of X G a_sums_met) 
  have g_sums := ok_sums (P := l.prog) (w := w) (Tb := [(P1_order_reason, (("order_reason" : Str) ++ ".<locals>.") ++ "<lambda>"), (P1_texts_along, (("texts_along" : Str) ++ ".<locals>.") ++ "<lambda>"), (P1_check_row, (("check_row" : Str) ++ ".<locals>.") ++ "<lambda>")]) (base := base) T g_summed g_weights_of g_sums_met (fun_mk (st := s_sums) l_sums c_sums k_sums) (PySem.W.mg_of X G a_sums) 
  have g_check_world := ok_check_world (P := l.prog) (w := w) (Tb := [(P1_order_reason, (("order_reason" : Str) ++ ".<locals>.") ++ "<lambda>"), (P1_texts_along, (("texts_along" : Str) ++ ".<locals>.") ++ "<lambda>"), (P1_check_row, (("check_row" : Str) ++ ".<locals>.") ++ "<lambda>")]) (base := base) T  (fun_mk (st := s_check_world) l_check_world c_check_world k_check_world) (PySem.W.mg_of X G a_check_world) 
  have g_check_states := ok_check_states (P := l.prog) (w := w) (Tb := [(P1_order_reason, (("order_reason" : Str) ++ ".<locals>.") ++ "<lambda>"), (P1_texts_along, (("texts_along" : Str) ++ ".<locals>.") ++ "<lambda>"), (P1_check_row, (("check_row" : Str) ++ ".<locals>.") ++ "<lambda>")]) (base := base) T g_are_numbers g_is_number (fun_mk (st := s_check_states) l_check_states c_check_states k_check_states) (PySem.W.mg_of X G a_check_states) 
  have g_check_letters := ok_check_letters (P := l.prog) (w := w) (Tb := [(P1_order_reason, (("order_reason" : Str) ++ ".<locals>.") ++ "<lambda>"), (P1_texts_along, (("texts_along" : Str) ++ ".<locals>.") ++ "<lambda>"), (P1_check_row, (("check_row" : Str) ++ ".<locals>.") ++ "<lambda>")]) (base := base) T g_is_number (fun_mk (st := s_check_letters) l_check_letters c_check_letters k_check_letters) (PySem.W.mg_of X G a_check_letters) 
  have g_messages_with := ok_messages_with (P := l.prog) (w := w) (Tb := [(P1_order_reason, (("order_reason" : Str) ++ ".<locals>.") ++ "<lambda>"), (P1_texts_along, (("texts_along" : Str) ++ ".<locals>.") ++ "<lambda>"), (P1_check_row, (("check_row" : Str) ++ ".<locals>.") ++ "<lambda>")]) (base := base) T  (fun_mk (st := s_messages_with) l_messages_with c_messages_with k_messages_with) (PySem.W.mg_of X G a_messages_with) 
  have g_messages := ok_messages (P := l.prog) (w := w) (Tb := [(P1_order_reason, (("order_reason" : Str) ++ ".<locals>.") ++ "<lambda>"), (P1_texts_along, (("texts_along" : Str) ++ ".<locals>.") ++ "<lambda>"), (P1_check_row, (("check_row" : Str) ++ ".<locals>.") ++ "<lambda>")]) (base := base) T g_check_world g_check_letters g_messages_with (fun_mk (st := s_messages) l_messages c_messages k_messages) (PySem.W.mg_of X G a_messages) 
  have g_check_keeper := ok_check_keeper (P := l.prog) (w := w) (Tb := [(P1_order_reason, (("order_reason" : Str) ++ ".<locals>.") ++ "<lambda>"), (P1_texts_along, (("texts_along" : Str) ++ ".<locals>.") ++ "<lambda>"), (P1_check_row, (("check_row" : Str) ++ ".<locals>.") ++ "<lambda>")]) (base := base) T g_check_states g_messages (fun_mk (st := s_check_keeper) l_check_keeper c_check_keeper k_check_keeper) (PySem.W.mg_of X G a_check_keeper) 
  have g_check_told := ok_check_told (P := l.prog) (w := w) (Tb := [(P1_order_reason, (("order_reason" : Str) ++ ".<locals>.") ++ "<lambda>"), (P1_texts_along, (("texts_along" : Str) ++ ".<locals>.") ++ "<lambda>"), (P1_check_row, (("check_row" : Str) ++ ".<locals>.") ++ "<lambda>")]) (base := base) T g_check_world g_check_question g_check_keeper (fun_mk (st := s_check_told) l_check_told c_check_told k_check_told) (PySem.W.mg_of X G a_check_told) 
  have g_puts_alone := ok_puts_alone (P := l.prog) (w := w) (Tb := [(P1_order_reason, (("order_reason" : Str) ++ ".<locals>.") ++ "<lambda>"), (P1_texts_along, (("texts_along" : Str) ++ ".<locals>.") ++ "<lambda>"), (P1_check_row, (("check_row" : Str) ++ ".<locals>.") ++ "<lambda>")]) (base := base) T  (fun_mk (st := s_puts_alone) l_puts_alone c_puts_alone k_puts_alone) (PySem.W.mg_of X G a_puts_alone) 
  have g_text_back := ok_text_back (P := l.prog) (w := w) (Tb := [(P1_order_reason, (("order_reason" : Str) ++ ".<locals>.") ++ "<lambda>"), (P1_texts_along, (("texts_along" : Str) ++ ".<locals>.") ++ "<lambda>"), (P1_check_row, (("check_row" : Str) ++ ".<locals>.") ++ "<lambda>")]) (base := base) T  (fun_mk (st := s_text_back) l_text_back c_text_back k_text_back) (PySem.W.mg_of X G a_text_back) 
  have g_parting_of := ok_parting_of (P := l.prog) (w := w) (Tb := [(P1_order_reason, (("order_reason" : Str) ++ ".<locals>.") ++ "<lambda>"), (P1_texts_along, (("texts_along" : Str) ++ ".<locals>.") ++ "<lambda>"), (P1_check_row, (("check_row" : Str) ++ ".<locals>.") ++ "<lambda>")]) (base := base) T g_text_back (fun_mk (st := s_parting_of) l_parting_of c_parting_of k_parting_of) (PySem.W.mg_of X G a_parting_of) 
  have g_edits_at_end := ok_edits_at_end (P := l.prog) (w := w) (Tb := [(P1_order_reason, (("order_reason" : Str) ++ ".<locals>.") ++ "<lambda>"), (P1_texts_along, (("texts_along" : Str) ++ ".<locals>.") ++ "<lambda>"), (P1_check_row, (("check_row" : Str) ++ ".<locals>.") ++ "<lambda>")]) (base := base) T  (fun_mk (st := s_edits_at_end) l_edits_at_end c_edits_at_end k_edits_at_end) (PySem.W.mg_of X G a_edits_at_end) 
  have g_texts_longer := ok_texts_longer (P := l.prog) (w := w) (Tb := [(P1_order_reason, (("order_reason" : Str) ++ ".<locals>.") ++ "<lambda>"), (P1_texts_along, (("texts_along" : Str) ++ ".<locals>.") ++ "<lambda>"), (P1_check_row, (("check_row" : Str) ++ ".<locals>.") ++ "<lambda>")]) (base := base) T  (fun_mk (st := s_texts_longer) l_texts_longer c_texts_longer k_texts_longer) (PySem.W.mg_of X G a_texts_longer) 
  have g_long_texts := ok_long_texts (P := l.prog) (w := w) (Tb := [(P1_order_reason, (("order_reason" : Str) ++ ".<locals>.") ++ "<lambda>"), (P1_texts_along, (("texts_along" : Str) ++ ".<locals>.") ++ "<lambda>"), (P1_check_row, (("check_row" : Str) ++ ".<locals>.") ++ "<lambda>")]) (base := base) T g_texts_longer (fun_mk (st := s_long_texts) l_long_texts c_long_texts k_long_texts) (PySem.W.mg_of X G a_long_texts) 
  have g_first_texts := ok_first_texts (P := l.prog) (w := w) (Tb := [(P1_order_reason, (("order_reason" : Str) ++ ".<locals>.") ++ "<lambda>"), (P1_texts_along, (("texts_along" : Str) ++ ".<locals>.") ++ "<lambda>"), (P1_check_row, (("check_row" : Str) ++ ".<locals>.") ++ "<lambda>")]) (base := base) T g_long_texts (fun_mk (st := s_first_texts) l_first_texts c_first_texts k_first_texts) (PySem.W.mg_of X G a_first_texts) 
  have g_parting_texts := ok_parting_texts (P := l.prog) (w := w) (Tb := [(P1_order_reason, (("order_reason" : Str) ++ ".<locals>.") ++ "<lambda>"), (P1_texts_along, (("texts_along" : Str) ++ ".<locals>.") ++ "<lambda>"), (P1_check_row, (("check_row" : Str) ++ ".<locals>.") ++ "<lambda>")]) (base := base) T  (fun_mk (st := s_parting_texts) l_parting_texts c_parting_texts k_parting_texts) (PySem.W.mg_of X G a_parting_texts) 
  have g_order_reason := ok_order_reason (P := l.prog) (w := w) (Tb := [(P1_order_reason, (("order_reason" : Str) ++ ".<locals>.") ++ "<lambda>"), (P1_texts_along, (("texts_along" : Str) ++ ".<locals>.") ++ "<lambda>"), (P1_check_row, (("check_row" : Str) ++ ".<locals>.") ++ "<lambda>")]) (base := base) T g_first_texts g_parting_texts (fun_mk (st := s_order_reason) l_order_reason c_order_reason k_order_reason) (PySem.W.mg_of X G a_order_reason) B_order_reason 
  have g_puts_of := ok_puts_of (P := l.prog) (w := w) (Tb := [(P1_order_reason, (("order_reason" : Str) ++ ".<locals>.") ++ "<lambda>"), (P1_texts_along, (("texts_along" : Str) ++ ".<locals>.") ++ "<lambda>"), (P1_check_row, (("check_row" : Str) ++ ".<locals>.") ++ "<lambda>")]) (base := base) T  (fun_mk (st := s_puts_of) l_puts_of c_puts_of k_puts_of) (PySem.W.mg_of X G a_puts_of) 
  have g_order_rows := ok_order_rows (P := l.prog) (w := w) (Tb := [(P1_order_reason, (("order_reason" : Str) ++ ".<locals>.") ++ "<lambda>"), (P1_texts_along, (("texts_along" : Str) ++ ".<locals>.") ++ "<lambda>"), (P1_check_row, (("check_row" : Str) ++ ".<locals>.") ++ "<lambda>")]) (base := base) T g_order_reason g_edits_at_end g_puts_of (fun_mk (st := s_order_rows) l_order_rows c_order_rows k_order_rows) (PySem.W.mg_of X G a_order_rows) 
  have g_turn_of := ok_turn_of (P := l.prog) (w := w) (Tb := [(P1_order_reason, (("order_reason" : Str) ++ ".<locals>.") ++ "<lambda>"), (P1_texts_along, (("texts_along" : Str) ++ ".<locals>.") ++ "<lambda>"), (P1_check_row, (("check_row" : Str) ++ ".<locals>.") ++ "<lambda>")]) (base := base) T  (fun_mk (st := s_turn_of) l_turn_of c_turn_of k_turn_of) (PySem.W.mg_of X G a_turn_of) 
  have g_state_from := ok_state_from (P := l.prog) (w := w) (Tb := [(P1_order_reason, (("order_reason" : Str) ++ ".<locals>.") ++ "<lambda>"), (P1_texts_along, (("texts_along" : Str) ++ ".<locals>.") ++ "<lambda>"), (P1_check_row, (("check_row" : Str) ++ ".<locals>.") ++ "<lambda>")]) (base := base) T  (fun_mk (st := s_state_from) l_state_from c_state_from k_state_from) (PySem.W.mg_of X G a_state_from) 
  have g_merge_rows := ok_merge_rows (P := l.prog) (w := w) (Tb := [(P1_order_reason, (("order_reason" : Str) ++ ".<locals>.") ++ "<lambda>"), (P1_texts_along, (("texts_along" : Str) ++ ".<locals>.") ++ "<lambda>"), (P1_check_row, (("check_row" : Str) ++ ".<locals>.") ++ "<lambda>")]) (base := base) T g_first_texts g_parting_texts g_turn_of g_state_from g_puts_of (fun_mk (st := s_merge_rows) l_merge_rows c_merge_rows k_merge_rows) (PySem.W.mg_of X G a_merge_rows) 
  have g_fooling_rows := ok_fooling_rows (P := l.prog) (w := w) (Tb := [(P1_order_reason, (("order_reason" : Str) ++ ".<locals>.") ++ "<lambda>"), (P1_texts_along, (("texts_along" : Str) ++ ".<locals>.") ++ "<lambda>"), (P1_check_row, (("check_row" : Str) ++ ".<locals>.") ++ "<lambda>")]) (base := base) T g_puts_alone g_messages g_parting_of g_edits_at_end g_puts_of g_is_commuting g_order_rows g_merge_rows (fun_mk (st := s_fooling_rows) l_fooling_rows c_fooling_rows k_fooling_rows) (PySem.W.mg_of X G a_fooling_rows) 
  have g_kept_answers := ok_kept_answers (P := l.prog) (w := w) (Tb := [(P1_order_reason, (("order_reason" : Str) ++ ".<locals>.") ++ "<lambda>"), (P1_texts_along, (("texts_along" : Str) ++ ".<locals>.") ++ "<lambda>"), (P1_check_row, (("check_row" : Str) ++ ".<locals>.") ++ "<lambda>")]) (base := base) T  (fun_mk (st := s_kept_answers) l_kept_answers c_kept_answers k_kept_answers) (PySem.W.mg_of X G a_kept_answers) 
  have g_ends_wrong := ok_ends_wrong (P := l.prog) (w := w) (Tb := [(P1_order_reason, (("order_reason" : Str) ++ ".<locals>.") ++ "<lambda>"), (P1_texts_along, (("texts_along" : Str) ++ ".<locals>.") ++ "<lambda>"), (P1_check_row, (("check_row" : Str) ++ ".<locals>.") ++ "<lambda>")]) (base := base) T g_state_from g_kept_answers (fun_mk (st := s_ends_wrong) l_ends_wrong c_ends_wrong k_ends_wrong) (PySem.W.mg_of X G a_ends_wrong) 
  have g_place_of := ok_place_of (P := l.prog) (w := w) (Tb := [(P1_order_reason, (("order_reason" : Str) ++ ".<locals>.") ++ "<lambda>"), (P1_texts_along, (("texts_along" : Str) ++ ".<locals>.") ++ "<lambda>"), (P1_check_row, (("check_row" : Str) ++ ".<locals>.") ++ "<lambda>")]) (base := base) T  (fun_mk (st := s_place_of) l_place_of c_place_of k_place_of) (PySem.W.mg_of X G a_place_of) 
  have g_text_without := ok_text_without (P := l.prog) (w := w) (Tb := [(P1_order_reason, (("order_reason" : Str) ++ ".<locals>.") ++ "<lambda>"), (P1_texts_along, (("texts_along" : Str) ++ ".<locals>.") ++ "<lambda>"), (P1_check_row, (("check_row" : Str) ++ ".<locals>.") ++ "<lambda>")]) (base := base) T  (fun_mk (st := s_text_without) l_text_without c_text_without k_text_without) (PySem.W.mg_of X G a_text_without) 
  have g_turned_text := ok_turned_text (P := l.prog) (w := w) (Tb := [(P1_order_reason, (("order_reason" : Str) ++ ".<locals>.") ++ "<lambda>"), (P1_texts_along, (("texts_along" : Str) ++ ".<locals>.") ++ "<lambda>"), (P1_check_row, (("check_row" : Str) ++ ".<locals>.") ++ "<lambda>")]) (base := base) T  (fun_mk (st := s_turned_text) l_turned_text c_turned_text k_turned_text) (PySem.W.mg_of X G a_turned_text) 
  have g_text_with := ok_text_with (P := l.prog) (w := w) (Tb := [(P1_order_reason, (("order_reason" : Str) ++ ".<locals>.") ++ "<lambda>"), (P1_texts_along, (("texts_along" : Str) ++ ".<locals>.") ++ "<lambda>"), (P1_check_row, (("check_row" : Str) ++ ".<locals>.") ++ "<lambda>")]) (base := base) T  (fun_mk (st := s_text_with) l_text_with c_text_with k_text_with) (PySem.W.mg_of X G a_text_with) 
  have g_text_by := ok_text_by (P := l.prog) (w := w) (Tb := [(P1_order_reason, (("order_reason" : Str) ++ ".<locals>.") ++ "<lambda>"), (P1_texts_along, (("texts_along" : Str) ++ ".<locals>.") ++ "<lambda>"), (P1_check_row, (("check_row" : Str) ++ ".<locals>.") ++ "<lambda>")]) (base := base) T g_turned_text g_place_of g_text_with g_text_without (fun_mk (st := s_text_by) l_text_by c_text_by k_text_by) (PySem.W.mg_of X G a_text_by) 
  have g_is_permutation := ok_is_permutation (P := l.prog) (w := w) (Tb := [(P1_order_reason, (("order_reason" : Str) ++ ".<locals>.") ++ "<lambda>"), (P1_texts_along, (("texts_along" : Str) ++ ".<locals>.") ++ "<lambda>"), (P1_check_row, (("check_row" : Str) ++ ".<locals>.") ++ "<lambda>")]) (base := base) T g_are_numbers (fun_mk (st := s_is_permutation) l_is_permutation c_is_permutation k_is_permutation) (PySem.W.mg_of X G a_is_permutation) 
  have g_is_message := ok_is_message (P := l.prog) (w := w) (Tb := [(P1_order_reason, (("order_reason" : Str) ++ ".<locals>.") ++ "<lambda>"), (P1_texts_along, (("texts_along" : Str) ++ ".<locals>.") ++ "<lambda>"), (P1_check_row, (("check_row" : Str) ++ ".<locals>.") ++ "<lambda>")]) (base := base) T g_is_permutation g_is_number (fun_mk (st := s_is_message) l_is_message c_is_message k_is_message) (PySem.W.mg_of X G a_is_message) 
  have g_is_edit := ok_is_edit (P := l.prog) (w := w) (Tb := [(P1_order_reason, (("order_reason" : Str) ++ ".<locals>.") ++ "<lambda>"), (P1_texts_along, (("texts_along" : Str) ++ ".<locals>.") ++ "<lambda>"), (P1_check_row, (("check_row" : Str) ++ ".<locals>.") ++ "<lambda>")]) (base := base) T g_is_message g_is_number (fun_mk (st := s_is_edit) l_is_edit c_is_edit k_is_edit) (PySem.W.mg_of X G a_is_edit) 
  have g_text_behind := ok_text_behind (P := l.prog) (w := w) (Tb := [(P1_order_reason, (("order_reason" : Str) ++ ".<locals>.") ++ "<lambda>"), (P1_texts_along, (("texts_along" : Str) ++ ".<locals>.") ++ "<lambda>"), (P1_check_row, (("check_row" : Str) ++ ".<locals>.") ++ "<lambda>")]) (base := base) T g_is_edit g_text_by (fun_mk (st := s_text_behind) l_text_behind c_text_behind k_text_behind) (PySem.W.mg_of X G a_text_behind) 
  have g_texts_along := ok_texts_along (P := l.prog) (w := w) (Tb := [(P1_order_reason, (("order_reason" : Str) ++ ".<locals>.") ++ "<lambda>"), (P1_texts_along, (("texts_along" : Str) ++ ".<locals>.") ++ "<lambda>"), (P1_check_row, (("check_row" : Str) ++ ".<locals>.") ++ "<lambda>")]) (base := base) T (ok_texts_by (P := l.prog) (w := w) (Tb := [(P1_order_reason, (("order_reason" : Str) ++ ".<locals>.") ++ "<lambda>"), (P1_texts_along, (("texts_along" : Str) ++ ".<locals>.") ++ "<lambda>"), (P1_check_row, (("check_row" : Str) ++ ".<locals>.") ++ "<lambda>")]) (base := base) (k := 7) (by decide) T  (fun_mk (st := s_texts_by) l_texts_by c_texts_by k_texts_by) (PySem.W.mg_of X G a_texts_by)) g_text_behind (fun_mk (st := s_texts_along) l_texts_along c_texts_along k_texts_along) (PySem.W.mg_of X G a_texts_along) B_texts_along 
  have g_text_after := ok_text_after (P := l.prog) (w := w) (Tb := [(P1_order_reason, (("order_reason" : Str) ++ ".<locals>.") ++ "<lambda>"), (P1_texts_along, (("texts_along" : Str) ++ ".<locals>.") ++ "<lambda>"), (P1_check_row, (("check_row" : Str) ++ ".<locals>.") ++ "<lambda>")]) (base := base) T g_check_world g_check_letters g_texts_along (fun_mk (st := s_text_after) l_text_after c_text_after k_text_after) (PySem.W.mg_of X G a_text_after) 
  have g_message_of := ok_message_of (P := l.prog) (w := w) (Tb := [(P1_order_reason, (("order_reason" : Str) ++ ".<locals>.") ++ "<lambda>"), (P1_texts_along, (("texts_along" : Str) ++ ".<locals>.") ++ "<lambda>"), (P1_check_row, (("check_row" : Str) ++ ".<locals>.") ++ "<lambda>")]) (base := base) T  (fun_mk (st := s_message_of) l_message_of c_message_of k_message_of) (PySem.W.mg_of X G a_message_of) 
  have g_told := ok_told (P := l.prog) (w := w) (Tb := [(P1_order_reason, (("order_reason" : Str) ++ ".<locals>.") ++ "<lambda>"), (P1_texts_along, (("texts_along" : Str) ++ ".<locals>.") ++ "<lambda>"), (P1_check_row, (("check_row" : Str) ++ ".<locals>.") ++ "<lambda>")]) (base := base) T g_text_after g_message_of (fun_mk (st := s_told) l_told c_told k_told) (PySem.W.mg_of X G a_told) 
  have g_is_fooled := ok_is_fooled (P := l.prog) (w := w) (Tb := [(P1_order_reason, (("order_reason" : Str) ++ ".<locals>.") ++ "<lambda>"), (P1_texts_along, (("texts_along" : Str) ++ ".<locals>.") ++ "<lambda>"), (P1_check_row, (("check_row" : Str) ++ ".<locals>.") ++ "<lambda>")]) (base := base) T g_told g_ends_wrong g_text_after g_messages (fun_mk (st := s_is_fooled) l_is_fooled c_is_fooled k_is_fooled) (PySem.W.mg_of X G a_is_fooled) 
  have g_fool := ok_fool (P := l.prog) (w := w) (Tb := [(P1_order_reason, (("order_reason" : Str) ++ ".<locals>.") ++ "<lambda>"), (P1_texts_along, (("texts_along" : Str) ++ ".<locals>.") ++ "<lambda>"), (P1_check_row, (("check_row" : Str) ++ ".<locals>.") ++ "<lambda>")]) (base := base) T g_check_told g_least_of g_is_kept g_fooling_rows g_is_fooled (fun_mk (st := s_fool) l_fool c_fool k_fool) (PySem.W.mg_of X G a_fool) 
  have g_law_taken := ok_law_taken (P := l.prog) (w := w) (Tb := [(P1_order_reason, (("order_reason" : Str) ++ ".<locals>.") ++ "<lambda>"), (P1_texts_along, (("texts_along" : Str) ++ ".<locals>.") ++ "<lambda>"), (P1_check_row, (("check_row" : Str) ++ ".<locals>.") ++ "<lambda>")]) (base := base) T  (fun_mk (st := s_law_taken) l_law_taken c_law_taken k_law_taken) (PySem.W.mg_of X G a_law_taken) 
  have g_check_row := ok_check_row (P := l.prog) (w := w) (Tb := [(P1_order_reason, (("order_reason" : Str) ++ ".<locals>.") ++ "<lambda>"), (P1_texts_along, (("texts_along" : Str) ++ ".<locals>.") ++ "<lambda>"), (P1_check_row, (("check_row" : Str) ++ ".<locals>.") ++ "<lambda>")]) (base := base) T (ok_check_messages (P := l.prog) (w := w) (Tb := [(P1_order_reason, (("order_reason" : Str) ++ ".<locals>.") ++ "<lambda>"), (P1_texts_along, (("texts_along" : Str) ++ ".<locals>.") ++ "<lambda>"), (P1_check_row, (("check_row" : Str) ++ ".<locals>.") ++ "<lambda>")]) (base := base) (k := 5) (by decide) T  (fun_mk (st := s_check_messages) l_check_messages c_check_messages k_check_messages) (PySem.W.mg_of X G a_check_messages)) g_is_message (fun_mk (st := s_check_row) l_check_row c_check_row k_check_row) (PySem.W.mg_of X G a_check_row) B_check_row 
  have g_keep := ok_keep (P := l.prog) (w := w) (Tb := [(P1_order_reason, (("order_reason" : Str) ++ ".<locals>.") ++ "<lambda>"), (P1_texts_along, (("texts_along" : Str) ++ ".<locals>.") ++ "<lambda>"), (P1_check_row, (("check_row" : Str) ++ ".<locals>.") ++ "<lambda>")]) (base := base) T g_check_world g_check_letters g_check_keeper g_check_row g_kept_answers g_messages (fun_mk (st := s_keep) l_keep c_keep k_keep) (PySem.W.mg_of X G a_keep) 
  have g_is_text := ok_is_text (P := l.prog) (w := w) (Tb := [(P1_order_reason, (("order_reason" : Str) ++ ".<locals>.") ++ "<lambda>"), (P1_texts_along, (("texts_along" : Str) ++ ".<locals>.") ++ "<lambda>"), (P1_check_row, (("check_row" : Str) ++ ".<locals>.") ++ "<lambda>")]) (base := base) T g_are_numbers (fun_mk (st := s_is_text) l_is_text c_is_text k_is_text) (PySem.W.mg_of X G a_is_text) 
  have g_check_text := ok_check_text (P := l.prog) (w := w) (Tb := [(P1_order_reason, (("order_reason" : Str) ++ ".<locals>.") ++ "<lambda>"), (P1_texts_along, (("texts_along" : Str) ++ ".<locals>.") ++ "<lambda>"), (P1_check_row, (("check_row" : Str) ++ ".<locals>.") ++ "<lambda>")]) (base := base) T g_is_text (fun_mk (st := s_check_text) l_check_text c_check_text k_check_text) (PySem.W.mg_of X G a_check_text) 
  have g_state_of := ok_state_of (P := l.prog) (w := w) (Tb := [(P1_order_reason, (("order_reason" : Str) ++ ".<locals>.") ++ "<lambda>"), (P1_texts_along, (("texts_along" : Str) ++ ".<locals>.") ++ "<lambda>"), (P1_check_row, (("check_row" : Str) ++ ".<locals>.") ++ "<lambda>")]) (base := base) T g_check_question g_check_text g_state_from (fun_mk (st := s_state_of) l_state_of c_state_of k_state_of) (PySem.W.mg_of X G a_state_of) 
  have g_answer := ok_answer (P := l.prog) (w := w) (Tb := [(P1_order_reason, (("order_reason" : Str) ++ ".<locals>.") ++ "<lambda>"), (P1_texts_along, (("texts_along" : Str) ++ ".<locals>.") ++ "<lambda>"), (P1_check_row, (("check_row" : Str) ++ ".<locals>.") ++ "<lambda>")]) (base := base) T g_state_of (fun_mk (st := s_answer) l_answer c_answer k_answer) (PySem.W.mg_of X G a_answer) 
  have g_can_keep := ok_can_keep (P := l.prog) (w := w) (Tb := [(P1_order_reason, (("order_reason" : Str) ++ ".<locals>.") ++ "<lambda>"), (P1_texts_along, (("texts_along" : Str) ++ ".<locals>.") ++ "<lambda>"), (P1_check_row, (("check_row" : Str) ++ ".<locals>.") ++ "<lambda>")]) (base := base) T g_check_world g_check_question g_is_kept g_least_of (fun_mk (st := s_can_keep) l_can_keep c_can_keep k_can_keep) (PySem.W.mg_of X G a_can_keep) 
  have g_merge_reason := ok_merge_reason (P := l.prog) (w := w) (Tb := [(P1_order_reason, (("order_reason" : Str) ++ ".<locals>.") ++ "<lambda>"), (P1_texts_along, (("texts_along" : Str) ++ ".<locals>.") ++ "<lambda>"), (P1_check_row, (("check_row" : Str) ++ ".<locals>.") ++ "<lambda>")]) (base := base) T g_first_texts g_parting_texts (fun_mk (st := s_merge_reason) l_merge_reason c_merge_reason k_merge_reason) (PySem.W.mg_of X G a_merge_reason) 
  have g_reason := ok_reason (P := l.prog) (w := w) (Tb := [(P1_order_reason, (("order_reason" : Str) ++ ".<locals>.") ++ "<lambda>"), (P1_texts_along, (("texts_along" : Str) ++ ".<locals>.") ++ "<lambda>"), (P1_check_row, (("check_row" : Str) ++ ".<locals>.") ++ "<lambda>")]) (base := base) T g_check_world g_check_question g_least_of g_is_kept g_is_commuting g_order_reason g_merge_reason (fun_mk (st := s_reason) l_reason c_reason k_reason) (PySem.W.mg_of X G a_reason) 
  have g_numbered := ok_numbered (P := l.prog) (w := w) (Tb := [(P1_order_reason, (("order_reason" : Str) ++ ".<locals>.") ++ "<lambda>"), (P1_texts_along, (("texts_along" : Str) ++ ".<locals>.") ++ "<lambda>"), (P1_check_row, (("check_row" : Str) ++ ".<locals>.") ++ "<lambda>")]) (base := base) T  (fun_mk (st := s_numbered) l_numbered c_numbered k_numbered) (PySem.W.mg_of X G a_numbered) 
  have g_behind_move := ok_behind_move (P := l.prog) (w := w) (Tb := [(P1_order_reason, (("order_reason" : Str) ++ ".<locals>.") ++ "<lambda>"), (P1_texts_along, (("texts_along" : Str) ++ ".<locals>.") ++ "<lambda>"), (P1_check_row, (("check_row" : Str) ++ ".<locals>.") ++ "<lambda>")]) (base := base) T  (fun_mk (st := s_behind_move) l_behind_move c_behind_move k_behind_move) (PySem.W.mg_of X G a_behind_move) 
  have g_relabellings := ok_relabellings (P := l.prog) (w := w) (Tb := [(P1_order_reason, (("order_reason" : Str) ++ ".<locals>.") ++ "<lambda>"), (P1_texts_along, (("texts_along" : Str) ++ ".<locals>.") ++ "<lambda>"), (P1_check_row, (("check_row" : Str) ++ ".<locals>.") ++ "<lambda>")]) (base := base) T  (fun_mk (st := s_relabellings) l_relabellings c_relabellings k_relabellings) (PySem.W.mg_of X G a_relabellings) 
  have g_table_of := ok_table_of (P := l.prog) (w := w) (Tb := [(P1_order_reason, (("order_reason" : Str) ++ ".<locals>.") ++ "<lambda>"), (P1_texts_along, (("texts_along" : Str) ++ ".<locals>.") ++ "<lambda>"), (P1_check_row, (("check_row" : Str) ++ ".<locals>.") ++ "<lambda>")]) (base := base) T  (fun_mk (st := s_table_of) l_table_of c_table_of k_table_of) (PySem.W.mg_of X G a_table_of) 
  have g_relabel_move := ok_relabel_move (P := l.prog) (w := w) (Tb := [(P1_order_reason, (("order_reason" : Str) ++ ".<locals>.") ++ "<lambda>"), (P1_texts_along, (("texts_along" : Str) ++ ".<locals>.") ++ "<lambda>"), (P1_check_row, (("check_row" : Str) ++ ".<locals>.") ++ "<lambda>")]) (base := base) T g_relabellings g_table_of (fun_mk (st := s_relabel_move) l_relabel_move c_relabel_move k_relabel_move) (PySem.W.mg_of X G a_relabel_move) 
  have g_ahead_move := ok_ahead_move (P := l.prog) (w := w) (Tb := [(P1_order_reason, (("order_reason" : Str) ++ ".<locals>.") ++ "<lambda>"), (P1_texts_along, (("texts_along" : Str) ++ ".<locals>.") ++ "<lambda>"), (P1_check_row, (("check_row" : Str) ++ ".<locals>.") ++ "<lambda>")]) (base := base) T  (fun_mk (st := s_ahead_move) l_ahead_move c_ahead_move k_ahead_move) (PySem.W.mg_of X G a_ahead_move) 
  have g_reverse_move := ok_reverse_move (P := l.prog) (w := w) (Tb := [(P1_order_reason, (("order_reason" : Str) ++ ".<locals>.") ++ "<lambda>"), (P1_texts_along, (("texts_along" : Str) ++ ".<locals>.") ++ "<lambda>"), (P1_check_row, (("check_row" : Str) ++ ".<locals>.") ++ "<lambda>")]) (base := base) T g_table_of g_behind_move g_ahead_move (fun_mk (st := s_reverse_move) l_reverse_move c_reverse_move k_reverse_move) (PySem.W.mg_of X G a_reverse_move) 
  have g_first_memory := ok_first_memory (P := l.prog) (w := w) (Tb := [(P1_order_reason, (("order_reason" : Str) ++ ".<locals>.") ++ "<lambda>"), (P1_texts_along, (("texts_along" : Str) ++ ".<locals>.") ++ "<lambda>"), (P1_check_row, (("check_row" : Str) ++ ".<locals>.") ++ "<lambda>")]) (base := base) T g_relabellings (fun_mk (st := s_first_memory) l_first_memory c_first_memory k_first_memory) (PySem.W.mg_of X G a_first_memory) 
  have g_move_of := ok_move_of (P := l.prog) (w := w) (Tb := [(P1_order_reason, (("order_reason" : Str) ++ ".<locals>.") ++ "<lambda>"), (P1_texts_along, (("texts_along" : Str) ++ ".<locals>.") ++ "<lambda>"), (P1_check_row, (("check_row" : Str) ++ ".<locals>.") ++ "<lambda>")]) (base := base) T g_relabel_move g_reverse_move g_ahead_move g_table_of g_behind_move g_first_memory (fun_mk (st := s_move_of) l_move_of c_move_of k_move_of) (PySem.W.mg_of X G a_move_of) 
  have g_right_keeper := ok_right_keeper (P := l.prog) (w := w) (Tb := [(P1_order_reason, (("order_reason" : Str) ++ ".<locals>.") ++ "<lambda>"), (P1_texts_along, (("texts_along" : Str) ++ ".<locals>.") ++ "<lambda>"), (P1_check_row, (("check_row" : Str) ++ ".<locals>.") ++ "<lambda>")]) (base := base) T g_least_of g_is_kept g_messages g_move_of g_numbered g_first_memory (fun_mk (st := s_right_keeper) l_right_keeper c_right_keeper k_right_keeper) (PySem.W.mg_of X G a_right_keeper) 
  have g_keeper := ok_keeper (P := l.prog) (w := w) (Tb := [(P1_order_reason, (("order_reason" : Str) ++ ".<locals>.") ++ "<lambda>"), (P1_texts_along, (("texts_along" : Str) ++ ".<locals>.") ++ "<lambda>"), (P1_check_row, (("check_row" : Str) ++ ".<locals>.") ++ "<lambda>")]) (base := base) T g_check_world g_check_question g_right_keeper (fun_mk (st := s_keeper) l_keeper c_keeper k_keeper) (PySem.W.mg_of X G a_keeper) 
  have g_least := ok_least (P := l.prog) (w := w) (Tb := [(P1_order_reason, (("order_reason" : Str) ++ ".<locals>.") ++ "<lambda>"), (P1_texts_along, (("texts_along" : Str) ++ ".<locals>.") ++ "<lambda>"), (P1_check_row, (("check_row" : Str) ++ ".<locals>.") ++ "<lambda>")]) (base := base) T g_check_question g_least_of (fun_mk (st := s_least) l_least c_least k_least) (PySem.W.mg_of X G a_least) 
  have g_maps := ok_maps (P := l.prog) (w := w) (Tb := [(P1_order_reason, (("order_reason" : Str) ++ ".<locals>.") ++ "<lambda>"), (P1_texts_along, (("texts_along" : Str) ++ ".<locals>.") ++ "<lambda>"), (P1_check_row, (("check_row" : Str) ++ ".<locals>.") ++ "<lambda>")]) (base := base) T g_least (fun_mk (st := s_maps) l_maps c_maps k_maps) (PySem.W.mg_of X G a_maps) 
  have gl := ok_law (P := l.prog) (w := w) (Tb := [(P1_order_reason, (("order_reason" : Str) ++ ".<locals>.") ++ "<lambda>"), (P1_texts_along, (("texts_along" : Str) ++ ".<locals>.") ++ "<lambda>"), (P1_check_row, (("check_row" : Str) ++ ".<locals>.") ++ "<lambda>")]) (base := base) T g_can_keep g_keeper g_maps g_law_taken g_sums g_reason g_text_after g_told g_keep g_least g_answer g_fool Fl 
  exact gl
end P12
open PySem PySem.W PyProof.Rows
set_option maxHeartbeats 0 in
theorem PySem.Challenge.cw_toldwhat_k12_known_questions_holds : PySem.Challenge.rw_toldwhat_k12_known_questions.Holds := by
  w_on; o_law; k_head; (case hw => w_witness2)
  k_fill
  refine AB.walk_ofX (l := PySem.Challenge.rw_toldwhat_k12_known_questions) (n := 63) (k := 14) (x := "script") (CX := fun w => L2.CX PySem.Challenge.rw_toldwhat_k12_known_questions.prog w) ["order_reason", "texts_along", "check_row"] rfl (by decide) rfl ⟨rfl, by decide, by decide⟩ (by decide +kernel) (fun w h Y => PySem.W.km_in_of Y) ?F AB.cx_false
  case F =>
    intro w mg fa h Yh KX G hmg hX
    refine' P12.all_mk KX G hmg hX P12.maths ?a_is_number ?l_is_number ?c_is_number ?k_is_number ?a_are_numbers ?l_are_numbers ?c_are_numbers ?k_are_numbers ?a_are_steps ?l_are_steps ?c_are_steps ?k_are_steps ?a_check_question ?l_check_question ?c_check_question ?k_check_question ?a_parted_groups ?l_parted_groups ?c_parted_groups ?k_parted_groups ?a_groups_of ?l_groups_of ?c_groups_of ?k_groups_of ?t_groups_of ?u_groups_of ?a_least_of ?l_least_of ?c_least_of ?k_least_of ?t_least_of ?u_least_of ?a_is_parting ?l_is_parting ?c_is_parting ?k_is_parting ?a_is_commuting ?l_is_commuting ?c_is_commuting ?k_is_commuting ?a_is_kept ?l_is_kept ?c_is_kept ?k_is_kept ?a_summed ?l_summed ?c_summed ?k_summed ?a_bring_least ?l_bring_least ?c_bring_least ?k_bring_least ?a_add_row ?l_add_row ?c_add_row ?k_add_row ?a_lower ?l_lower ?c_lower ?k_lower ?a_settle ?l_settle ?c_settle ?k_settle ?a_plain_form ?l_plain_form ?c_plain_form ?k_plain_form ?a_counts_with ?l_counts_with ?c_counts_with ?k_counts_with ?a_relations_of ?l_relations_of ?c_relations_of ?k_relations_of ?a_weights_of ?l_weights_of ?c_weights_of ?k_weights_of ?a_sums_met ?l_sums_met ?c_sums_met ?k_sums_met ?a_sums ?l_sums ?c_sums ?k_sums ?a_check_world ?l_check_world ?c_check_world ?k_check_world ?a_check_states ?l_check_states ?c_check_states ?k_check_states ?a_check_letters ?l_check_letters ?c_check_letters ?k_check_letters ?a_messages_with ?l_messages_with ?c_messages_with ?k_messages_with ?a_messages ?l_messages ?c_messages ?k_messages ?a_check_keeper ?l_check_keeper ?c_check_keeper ?k_check_keeper ?a_check_told ?l_check_told ?c_check_told ?k_check_told ?a_puts_alone ?l_puts_alone ?c_puts_alone ?k_puts_alone ?a_text_back ?l_text_back ?c_text_back ?k_text_back ?a_parting_of ?l_parting_of ?c_parting_of ?k_parting_of ?a_edits_at_end ?l_edits_at_end ?c_edits_at_end ?k_edits_at_end ?a_texts_longer ?l_texts_longer ?c_texts_longer ?k_texts_longer ?a_long_texts ?l_long_texts ?c_long_texts ?k_long_texts ?a_first_texts ?l_first_texts ?c_first_texts ?k_first_texts ?a_parting_texts ?l_parting_texts ?c_parting_texts ?k_parting_texts ?a_order_reason ?l_order_reason ?c_order_reason ?k_order_reason ?m_order_reason ?p_order_reason ?n_order_reason ?a_puts_of ?l_puts_of ?c_puts_of ?k_puts_of ?a_order_rows ?l_order_rows ?c_order_rows ?k_order_rows ?a_turn_of ?l_turn_of ?c_turn_of ?k_turn_of ?a_state_from ?l_state_from ?c_state_from ?k_state_from ?a_merge_rows ?l_merge_rows ?c_merge_rows ?k_merge_rows ?a_fooling_rows ?l_fooling_rows ?c_fooling_rows ?k_fooling_rows ?a_kept_answers ?l_kept_answers ?c_kept_answers ?k_kept_answers ?a_ends_wrong ?l_ends_wrong ?c_ends_wrong ?k_ends_wrong ?a_texts_by ?l_texts_by ?c_texts_by ?k_texts_by ?a_place_of ?l_place_of ?c_place_of ?k_place_of ?a_text_without ?l_text_without ?c_text_without ?k_text_without ?a_turned_text ?l_turned_text ?c_turned_text ?k_turned_text ?a_text_with ?l_text_with ?c_text_with ?k_text_with ?a_text_by ?l_text_by ?c_text_by ?k_text_by ?a_is_permutation ?l_is_permutation ?c_is_permutation ?k_is_permutation ?a_is_message ?l_is_message ?c_is_message ?k_is_message ?a_is_edit ?l_is_edit ?c_is_edit ?k_is_edit ?a_text_behind ?l_text_behind ?c_text_behind ?k_text_behind ?a_texts_along ?l_texts_along ?c_texts_along ?k_texts_along ?m_texts_along ?p_texts_along ?n_texts_along ?a_text_after ?l_text_after ?c_text_after ?k_text_after ?a_message_of ?l_message_of ?c_message_of ?k_message_of ?a_told ?l_told ?c_told ?k_told ?a_is_fooled ?l_is_fooled ?c_is_fooled ?k_is_fooled ?a_fool ?l_fool ?c_fool ?k_fool ?a_law_taken ?l_law_taken ?c_law_taken ?k_law_taken ?a_check_messages ?l_check_messages ?c_check_messages ?k_check_messages ?a_check_row ?l_check_row ?c_check_row ?k_check_row ?m_check_row ?p_check_row ?n_check_row ?a_keep ?l_keep ?c_keep ?k_keep ?a_is_text ?l_is_text ?c_is_text ?k_is_text ?a_check_text ?l_check_text ?c_check_text ?k_check_text ?a_state_of ?l_state_of ?c_state_of ?k_state_of ?a_answer ?l_answer ?c_answer ?k_answer ?a_can_keep ?l_can_keep ?c_can_keep ?k_can_keep ?a_merge_reason ?l_merge_reason ?c_merge_reason ?k_merge_reason ?a_reason ?l_reason ?c_reason ?k_reason ?a_numbered ?l_numbered ?c_numbered ?k_numbered ?a_behind_move ?l_behind_move ?c_behind_move ?k_behind_move ?a_relabellings ?l_relabellings ?c_relabellings ?k_relabellings ?a_table_of ?l_table_of ?c_table_of ?k_table_of ?a_relabel_move ?l_relabel_move ?c_relabel_move ?k_relabel_move ?a_ahead_move ?l_ahead_move ?c_ahead_move ?k_ahead_move ?a_reverse_move ?l_reverse_move ?c_reverse_move ?k_reverse_move ?a_first_memory ?l_first_memory ?c_first_memory ?k_first_memory ?a_move_of ?l_move_of ?c_move_of ?k_move_of ?a_right_keeper ?l_right_keeper ?c_right_keeper ?k_right_keeper ?a_keeper ?l_keeper ?c_keeper ?k_keeper ?a_least ?l_least ?c_least ?k_least ?a_maps ?l_maps ?c_maps ?k_maps ?a_law ?l_law ?c_law ?k_law ?ne_order_reason_texts_along ?ne_order_reason_check_row ?ne_texts_along_check_row ?v_MOST_ANSWER ?v_MOST_EDITS ?v_MOST_LETTERS ?v_MOST_MAPS ?v_MOST_MEMORIES ?v_MOST_MESSAGES ?v_MOST_STATES ?v_MOST_TEXT ?z_abs ?z_all ?z_any ?z_bool ?z_enumerate ?z_int ?z_isinstance ?z_len ?z_list ?z_min ?z_range ?z_set ?z_sorted ?z_str ?z_tuple ?g_WORDS ?h_WORDS ?i_WORDS ?j_WORDS ?x_WORDS_0 ?e_WORDS_0 ?w_WORDS_0 ?q_WORDS_0 ?x_WORDS_1 ?e_WORDS_1 ?w_WORDS_1 ?q_WORDS_1 ?x_WORDS_2 ?e_WORDS_2 ?w_WORDS_2 ?q_WORDS_2 ?x_WORDS_3 ?e_WORDS_3 ?w_WORDS_3 ?q_WORDS_3 ?x_WORDS_4 ?e_WORDS_4 ?w_WORDS_4 ?q_WORDS_4 ?x_WORDS_5 ?e_WORDS_5 ?w_WORDS_5 ?q_WORDS_5 ?x_WORDS_6 ?e_WORDS_6 ?w_WORDS_6 ?q_WORDS_6 ?x_WORDS_7 ?e_WORDS_7 ?w_WORDS_7 ?q_WORDS_7 ?x_PLACED ?e_PLACED ?w_PLACED ?q_PLACED ?x_PLACELESS ?e_PLACELESS ?w_PLACELESS ?q_PLACELESS ?x_TAKING ?e_TAKING ?w_TAKING ?q_TAKING ?x_TWO_ENDED ?e_TWO_ENDED ?w_TWO_ENDED ?q_TWO_ENDED ?p_permutations ?xg_BadEdits ?x3_BadEdits ?x4_BadEdits ?xy_BadEdits
    (case a_is_number => k_is)
    (case l_is_number => k_is)
    (case c_is_number => k_is)
    (case k_is_number => k_is)
    (case a_are_numbers => k_is)
    (case l_are_numbers => k_is)
    (case c_are_numbers => k_is)
    (case k_are_numbers => k_is)
    (case a_are_steps => k_is)
    (case l_are_steps => k_is)
    (case c_are_steps => k_is)
    (case k_are_steps => k_is)
    (case a_check_question => k_is)
    (case l_check_question => k_is)
    (case c_check_question => k_is)
    (case k_check_question => k_is)
    (case a_parted_groups => k_is)
    (case l_parted_groups => k_is)
    (case c_parted_groups => k_is)
    (case k_parted_groups => k_is)
    (case a_groups_of => k_is)
    (case l_groups_of => k_is)
    (case c_groups_of => k_is)
    (case k_groups_of => k_is)
    (case t_groups_of => k_is)
    (case u_groups_of => exact .cons rfl .nil)
    (case a_least_of => k_is)
    (case l_least_of => k_is)
    (case c_least_of => k_is)
    (case k_least_of => k_is)
    (case t_least_of => k_is)
    (case u_least_of => exact .cons rfl .nil)
    (case a_is_parting => k_is)
    (case l_is_parting => k_is)
    (case c_is_parting => k_is)
    (case k_is_parting => k_is)
    (case a_is_commuting => k_is)
    (case l_is_commuting => k_is)
    (case c_is_commuting => k_is)
    (case k_is_commuting => k_is)
    (case a_is_kept => k_is)
    (case l_is_kept => k_is)
    (case c_is_kept => k_is)
    (case k_is_kept => k_is)
    (case a_summed => k_is)
    (case l_summed => k_is)
    (case c_summed => k_is)
    (case k_summed => k_is)
    (case a_bring_least => k_is)
    (case l_bring_least => k_is)
    (case c_bring_least => k_is)
    (case k_bring_least => k_is)
    (case a_add_row => k_is)
    (case l_add_row => k_is)
    (case c_add_row => k_is)
    (case k_add_row => k_is)
    (case a_lower => k_is)
    (case l_lower => k_is)
    (case c_lower => k_is)
    (case k_lower => k_is)
    (case a_settle => k_is)
    (case l_settle => k_is)
    (case c_settle => k_is)
    (case k_settle => k_is)
    (case a_plain_form => k_is)
    (case l_plain_form => k_is)
    (case c_plain_form => k_is)
    (case k_plain_form => k_is)
    (case a_counts_with => k_is)
    (case l_counts_with => k_is)
    (case c_counts_with => k_is)
    (case k_counts_with => k_is)
    (case a_relations_of => k_is)
    (case l_relations_of => k_is)
    (case c_relations_of => k_is)
    (case k_relations_of => k_is)
    (case a_weights_of => k_is)
    (case l_weights_of => k_is)
    (case c_weights_of => k_is)
    (case k_weights_of => k_is)
    (case a_sums_met => k_is)
    (case l_sums_met => k_is)
    (case c_sums_met => k_is)
    (case k_sums_met => k_is)
    (case a_sums => k_is)
    (case l_sums => k_is)
    (case c_sums => k_is)
    (case k_sums => k_is)
    (case a_check_world => k_is)
    (case l_check_world => k_is)
    (case c_check_world => k_is)
    (case k_check_world => k_is)
    (case a_check_states => k_is)
    (case l_check_states => k_is)
    (case c_check_states => k_is)
    (case k_check_states => k_is)
    (case a_check_letters => k_is)
    (case l_check_letters => k_is)
    (case c_check_letters => k_is)
    (case k_check_letters => k_is)
    (case a_messages_with => k_is)
    (case l_messages_with => k_is)
    (case c_messages_with => k_is)
    (case k_messages_with => k_is)
    (case a_messages => k_is)
    (case l_messages => k_is)
    (case c_messages => k_is)
    (case k_messages => k_is)
    (case a_check_keeper => k_is)
    (case l_check_keeper => k_is)
    (case c_check_keeper => k_is)
    (case k_check_keeper => k_is)
    (case a_check_told => k_is)
    (case l_check_told => k_is)
    (case c_check_told => k_is)
    (case k_check_told => k_is)
    (case a_puts_alone => k_is)
    (case l_puts_alone => k_is)
    (case c_puts_alone => k_is)
    (case k_puts_alone => k_is)
    (case a_text_back => k_is)
    (case l_text_back => k_is)
    (case c_text_back => k_is)
    (case k_text_back => k_is)
    (case a_parting_of => k_is)
    (case l_parting_of => k_is)
    (case c_parting_of => k_is)
    (case k_parting_of => k_is)
    (case a_edits_at_end => k_is)
    (case l_edits_at_end => k_is)
    (case c_edits_at_end => k_is)
    (case k_edits_at_end => k_is)
    (case a_texts_longer => k_is)
    (case l_texts_longer => k_is)
    (case c_texts_longer => k_is)
    (case k_texts_longer => k_is)
    (case a_long_texts => k_is)
    (case l_long_texts => k_is)
    (case c_long_texts => k_is)
    (case k_long_texts => k_is)
    (case a_first_texts => k_is)
    (case l_first_texts => k_is)
    (case c_first_texts => k_is)
    (case k_first_texts => k_is)
    (case a_parting_texts => k_is)
    (case l_parting_texts => k_is)
    (case c_parting_texts => k_is)
    (case k_parting_texts => k_is)
    (case a_order_reason => k_is)
    (case l_order_reason => k_is)
    (case c_order_reason => k_is)
    (case k_order_reason => k_is)
    (case m_order_reason => k_is)
    (case p_order_reason => exact rfl)
    (case n_order_reason => exact AB.km_out Yh (by decide))
    (case a_puts_of => k_is)
    (case l_puts_of => k_is)
    (case c_puts_of => k_is)
    (case k_puts_of => k_is)
    (case a_order_rows => k_is)
    (case l_order_rows => k_is)
    (case c_order_rows => k_is)
    (case k_order_rows => k_is)
    (case a_turn_of => k_is)
    (case l_turn_of => k_is)
    (case c_turn_of => k_is)
    (case k_turn_of => k_is)
    (case a_state_from => k_is)
    (case l_state_from => k_is)
    (case c_state_from => k_is)
    (case k_state_from => k_is)
    (case a_merge_rows => k_is)
    (case l_merge_rows => k_is)
    (case c_merge_rows => k_is)
    (case k_merge_rows => k_is)
    (case a_fooling_rows => k_is)
    (case l_fooling_rows => k_is)
    (case c_fooling_rows => k_is)
    (case k_fooling_rows => k_is)
    (case a_kept_answers => k_is)
    (case l_kept_answers => k_is)
    (case c_kept_answers => k_is)
    (case k_kept_answers => k_is)
    (case a_ends_wrong => k_is)
    (case l_ends_wrong => k_is)
    (case c_ends_wrong => k_is)
    (case k_ends_wrong => k_is)
    (case a_texts_by => k_is)
    (case l_texts_by => k_is)
    (case c_texts_by => k_is)
    (case k_texts_by => k_is)
    (case a_place_of => k_is)
    (case l_place_of => k_is)
    (case c_place_of => k_is)
    (case k_place_of => k_is)
    (case a_text_without => k_is)
    (case l_text_without => k_is)
    (case c_text_without => k_is)
    (case k_text_without => k_is)
    (case a_turned_text => k_is)
    (case l_turned_text => k_is)
    (case c_turned_text => k_is)
    (case k_turned_text => k_is)
    (case a_text_with => k_is)
    (case l_text_with => k_is)
    (case c_text_with => k_is)
    (case k_text_with => k_is)
    (case a_text_by => k_is)
    (case l_text_by => k_is)
    (case c_text_by => k_is)
    (case k_text_by => k_is)
    (case a_is_permutation => k_is)
    (case l_is_permutation => k_is)
    (case c_is_permutation => k_is)
    (case k_is_permutation => k_is)
    (case a_is_message => k_is)
    (case l_is_message => k_is)
    (case c_is_message => k_is)
    (case k_is_message => k_is)
    (case a_is_edit => k_is)
    (case l_is_edit => k_is)
    (case c_is_edit => k_is)
    (case k_is_edit => k_is)
    (case a_text_behind => k_is)
    (case l_text_behind => k_is)
    (case c_text_behind => k_is)
    (case k_text_behind => k_is)
    (case a_texts_along => k_is)
    (case l_texts_along => k_is)
    (case c_texts_along => k_is)
    (case k_texts_along => k_is)
    (case m_texts_along => k_is)
    (case p_texts_along => exact rfl)
    (case n_texts_along => exact AB.km_out Yh (by decide))
    (case a_text_after => k_is)
    (case l_text_after => k_is)
    (case c_text_after => k_is)
    (case k_text_after => k_is)
    (case a_message_of => k_is)
    (case l_message_of => k_is)
    (case c_message_of => k_is)
    (case k_message_of => k_is)
    (case a_told => k_is)
    (case l_told => k_is)
    (case c_told => k_is)
    (case k_told => k_is)
    (case a_is_fooled => k_is)
    (case l_is_fooled => k_is)
    (case c_is_fooled => k_is)
    (case k_is_fooled => k_is)
    (case a_fool => k_is)
    (case l_fool => k_is)
    (case c_fool => k_is)
    (case k_fool => k_is)
    (case a_law_taken => k_is)
    (case l_law_taken => k_is)
    (case c_law_taken => k_is)
    (case k_law_taken => k_is)
    (case a_check_messages => k_is)
    (case l_check_messages => k_is)
    (case c_check_messages => k_is)
    (case k_check_messages => k_is)
    (case a_check_row => k_is)
    (case l_check_row => k_is)
    (case c_check_row => k_is)
    (case k_check_row => k_is)
    (case m_check_row => k_is)
    (case p_check_row => exact rfl)
    (case n_check_row => exact AB.km_out Yh (by decide))
    (case a_keep => k_is)
    (case l_keep => k_is)
    (case c_keep => k_is)
    (case k_keep => k_is)
    (case a_is_text => k_is)
    (case l_is_text => k_is)
    (case c_is_text => k_is)
    (case k_is_text => k_is)
    (case a_check_text => k_is)
    (case l_check_text => k_is)
    (case c_check_text => k_is)
    (case k_check_text => k_is)
    (case a_state_of => k_is)
    (case l_state_of => k_is)
    (case c_state_of => k_is)
    (case k_state_of => k_is)
    (case a_answer => k_is)
    (case l_answer => k_is)
    (case c_answer => k_is)
    (case k_answer => k_is)
    (case a_can_keep => k_is)
    (case l_can_keep => k_is)
    (case c_can_keep => k_is)
    (case k_can_keep => k_is)
    (case a_merge_reason => k_is)
    (case l_merge_reason => k_is)
    (case c_merge_reason => k_is)
    (case k_merge_reason => k_is)
    (case a_reason => k_is)
    (case l_reason => k_is)
    (case c_reason => k_is)
    (case k_reason => k_is)
    (case a_numbered => k_is)
    (case l_numbered => k_is)
    (case c_numbered => k_is)
    (case k_numbered => k_is)
    (case a_behind_move => k_is)
    (case l_behind_move => k_is)
    (case c_behind_move => k_is)
    (case k_behind_move => k_is)
    (case a_relabellings => k_is)
    (case l_relabellings => k_is)
    (case c_relabellings => k_is)
    (case k_relabellings => k_is)
    (case a_table_of => k_is)
    (case l_table_of => k_is)
    (case c_table_of => k_is)
    (case k_table_of => k_is)
    (case a_relabel_move => k_is)
    (case l_relabel_move => k_is)
    (case c_relabel_move => k_is)
    (case k_relabel_move => k_is)
    (case a_ahead_move => k_is)
    (case l_ahead_move => k_is)
    (case c_ahead_move => k_is)
    (case k_ahead_move => k_is)
    (case a_reverse_move => k_is)
    (case l_reverse_move => k_is)
    (case c_reverse_move => k_is)
    (case k_reverse_move => k_is)
    (case a_first_memory => k_is)
    (case l_first_memory => k_is)
    (case c_first_memory => k_is)
    (case k_first_memory => k_is)
    (case a_move_of => k_is)
    (case l_move_of => k_is)
    (case c_move_of => k_is)
    (case k_move_of => k_is)
    (case a_right_keeper => k_is)
    (case l_right_keeper => k_is)
    (case c_right_keeper => k_is)
    (case k_right_keeper => k_is)
    (case a_keeper => k_is)
    (case l_keeper => k_is)
    (case c_keeper => k_is)
    (case k_keeper => k_is)
    (case a_least => k_is)
    (case l_least => k_is)
    (case c_least => k_is)
    (case k_least => k_is)
    (case a_maps => k_is)
    (case l_maps => k_is)
    (case c_maps => k_is)
    (case k_maps => k_is)
    (case a_law => k_is)
    (case l_law => k_is)
    (case c_law => k_is)
    (case k_law => k_is)
    (case ne_order_reason_texts_along => decide)
    (case ne_order_reason_check_row => decide)
    (case ne_texts_along_check_row => decide)
    (case v_MOST_ANSWER => k_is)
    (case v_MOST_EDITS => k_is)
    (case v_MOST_LETTERS => k_is)
    (case v_MOST_MAPS => k_is)
    (case v_MOST_MEMORIES => k_is)
    (case v_MOST_MESSAGES => k_is)
    (case v_MOST_STATES => k_is)
    (case v_MOST_TEXT => k_is)
    (case z_abs => k_is)
    (case z_all => k_is)
    (case z_any => k_is)
    (case z_bool => k_is)
    (case z_enumerate => k_is)
    (case z_int => k_is)
    (case z_isinstance => k_is)
    (case z_len => k_is)
    (case z_list => k_is)
    (case z_min => k_is)
    (case z_range => k_is)
    (case z_set => k_is)
    (case z_sorted => k_is)
    (case z_str => k_is)
    (case z_tuple => k_is)
    (case g_WORDS => k_is)
    (case h_WORDS => k_is)
    (case i_WORDS => k_keys)
    (case j_WORDS => decide)
    (case x_WORDS_0 => k_is)
    (case e_WORDS_0 => k_is)
    (case w_WORDS_0 => decide)
    (case q_WORDS_0 => exact (.cons ⟨_, rfl⟩ .nil))
    (case x_WORDS_1 => k_is)
    (case e_WORDS_1 => k_is)
    (case w_WORDS_1 => decide)
    (case q_WORDS_1 => exact (.cons ⟨_, rfl⟩ (.cons ⟨_, rfl⟩ .nil)))
    (case x_WORDS_2 => k_is)
    (case e_WORDS_2 => k_is)
    (case w_WORDS_2 => decide)
    (case q_WORDS_2 => exact (.cons ⟨_, rfl⟩ (.cons ⟨_, rfl⟩ .nil)))
    (case x_WORDS_3 => k_is)
    (case e_WORDS_3 => k_is)
    (case w_WORDS_3 => decide)
    (case q_WORDS_3 => exact (.cons ⟨_, rfl⟩ (.cons ⟨_, rfl⟩ (.cons ⟨_, rfl⟩ (.cons ⟨_, rfl⟩ .nil)))))
    (case x_WORDS_4 => k_is)
    (case e_WORDS_4 => k_is)
    (case w_WORDS_4 => decide)
    (case q_WORDS_4 => exact (.cons ⟨_, rfl⟩ .nil))
    (case x_WORDS_5 => k_is)
    (case e_WORDS_5 => k_is)
    (case w_WORDS_5 => decide)
    (case q_WORDS_5 => exact (.cons ⟨_, rfl⟩ (.cons ⟨_, rfl⟩ .nil)))
    (case x_WORDS_6 => k_is)
    (case e_WORDS_6 => k_is)
    (case w_WORDS_6 => decide)
    (case q_WORDS_6 => exact (.cons ⟨_, rfl⟩ (.cons ⟨_, rfl⟩ .nil)))
    (case x_WORDS_7 => k_is)
    (case e_WORDS_7 => k_is)
    (case w_WORDS_7 => decide)
    (case q_WORDS_7 => exact (.cons ⟨_, rfl⟩ (.cons ⟨_, rfl⟩ .nil)))
    (case x_PLACED => k_is)
    (case e_PLACED => k_is)
    (case w_PLACED => decide)
    (case q_PLACED => exact (.cons ⟨_, rfl⟩ (.cons ⟨_, rfl⟩ .nil)))
    (case x_PLACELESS => k_is)
    (case e_PLACELESS => k_is)
    (case w_PLACELESS => decide)
    (case q_PLACELESS => exact (.cons ⟨_, rfl⟩ (.cons ⟨_, rfl⟩ .nil)))
    (case x_TAKING => k_is)
    (case e_TAKING => k_is)
    (case w_TAKING => decide)
    (case q_TAKING => exact (.cons ⟨_, rfl⟩ (.cons ⟨_, rfl⟩ (.cons ⟨_, rfl⟩ .nil))))
    (case x_TWO_ENDED => k_is)
    (case e_TWO_ENDED => k_is)
    (case w_TWO_ENDED => decide)
    (case q_TWO_ENDED => exact (.cons ⟨_, rfl⟩ (.cons ⟨_, rfl⟩ .nil)))
    (case p_permutations => k_is)
    (case xg_BadEdits => k_is)
    (case x3_BadEdits => k_is)
    (case x4_BadEdits => k_is)
    (case xy_BadEdits => k_is)
