import PyProof.Rows.All
import Wide.All
import OpenK.AllK
import Wide.FinOn
import HandS.ForMost
import HandS.ForExc
import KE.KeyNested
import HandS.Strs
import HandS.Lambda
import HandS.IsInst
import HandS.TupAny
import HandS.Deep
import HandS.Zip
import HandS.SortInts
import HandS.Conv
import HandS.TupLen
import HandS.Wide
import KE.GoesMore
import PyProof.Draws
import HandS.Style
import PyProof.Rows.TupDisplay
import HandS.Defaults
import HandS.CallSlots
import KE.KFromBytes
import HandS.Base
import HandS.Call
import HandS.List
import HandS.More
import KE.LtData
import HandS.DictComp
import KE.GoesEnumKw
import HandS.SetFor
import HandS.SetBool
import HandS.EndTab
import KE.KNestM
import HandS.TupMul
import PyProof.Rows.SumAny
import HandS.ListItems
import KE.KDictSum
import KE.KDictWalk
import PyProof.ConsumeWalk
import PySem.Challenge.RW_toldwhat_k66_whole_counts_alone
import KE.OsSetLaws
set_option Elab.async false
set_option linter.all false
set_option maxRecDepth 100000
set_option maxHeartbeats 8000000
/-! AB: an abstract machine over the hand layer: values are trees, lists and dicts stand in a store by number. -/
namespace AB
open PySem PySem.Spec PyProof.Rows L2
inductive A where
  | non | bl (b : Bool) | int (i : Int) | str (x : Str) | tup (xs : List A) | lst (l : Nat) | dct (l : Nat) | ty (n : String) | obj (l : Nat) | rng (lo hi : Int)
inductive Cell where
  | lst (xs : List A) | frz (xs : List A) | dK (kvs : List (Key × A)) | dT (kvs : List (List Key × A)) | dN (kvs : List (NestedKey × A)) | st (xs : List Int) | obj | xd (fs : List (Str × A)) | fk (kvs : List (Key × A)) | fT (kvs : List (List Key × A)) | ins (C : Str) (fs : List (Str × A))
abbrev Store := List Cell
structure Exn where
  name : Str
  dct : Option Nat
inductive EO (α : Type) where
  | ok (a : α) (M : Store) | ex (e : Exn) (M : Store) | bad
def EO.bind {α β : Type} (x : EO α) (g : α → Store → EO β) : EO β := match x with
  | .ok a M => g a M
  | .ex e M => .ex e M
  | .bad => .bad
abbrev Sl := List (Option A)
abbrev EF := Sl → Store → EO A
abbrev EFs := Sl → Store → EO (List A)
abbrev EFb := Sl → Store → EO Bool
/-! ### the relation -/
mutual
inductive Is (ρ : List Addr) (H : Hp) : A → V → Prop
  | non : Is ρ H .non .non
  | bl (b : Bool) : Is ρ H (.bl b) (.bl b)
  | int (i : Int) : Is ρ H (.int i) (.int i)
  | str (x : Str) : Is ρ H (.str x) (.str x)
  | tup {a : Addr} {ts : List A} {vs : List V} : H a = some (.tup vs) → IsAll ρ H ts vs → Is ρ H (.tup ts) (.ref a)
  | lst {i : Nat} {a : Addr} : ρ[i]? = some a → Is ρ H (.lst i) (.ref a)
  | dct {i : Nat} {a : Addr} : ρ[i]? = some a → Is ρ H (.dct i) (.ref a)
  | ty (n : String) : Is ρ H (.ty n) (.ty n)
  | obj {i : Nat} {a : Addr} : ρ[i]? = some a → Is ρ H (.obj i) (.ref a)
  | rng {lo hi : Int} {a : Addr} : H a = some (.rng lo hi) → Is ρ H (.rng lo hi) (.ref a)
inductive IsAll (ρ : List Addr) (H : Hp) : List A → List V → Prop
  | nil : IsAll ρ H [] []
  | cons {t : A} {v : V} {ts : List A} {vs : List V} : Is ρ H t v → IsAll ρ H ts vs → IsAll ρ H (t :: ts) (v :: vs)
end
def Ext (ρ ρ' : List Addr) : Prop := ∃ t, ρ' = ρ ++ t
/-- what never changes -/
inductive Imm : HO → Prop where
  | frz (ob u) : Imm (.frz ob u)
  | tup (xs) : Imm (.tup xs)
  | rng (a b) : Imm (.rng a b)
  | own (x) : Imm (.own x)
  | code (c : Addr) (q : Str) : Imm (LamX.CodeO c q)
def Grow (H H' : Hp) : Prop := ∀ a u, Imm u → H a = some u → H' a = some u
theorem Ext.refl (ρ : List Addr) : Ext ρ ρ := ⟨[], by simp⟩
theorem Ext.trans {a b c : List Addr} (x : Ext a b) (y : Ext b c) : Ext a c := by
  obtain ⟨t, rfl⟩ := x
  obtain ⟨u, rfl⟩ := y
  exact ⟨t ++ u, by simp⟩
theorem Ext.get {ρ ρ' : List Addr} (x : Ext ρ ρ') {i : Nat} {a : Addr} (h : ρ[i]? = some a) : ρ'[i]? = some a := by
  obtain ⟨t, rfl⟩ := x
  have hi : i < ρ.length := (List.getElem?_eq_some_iff.mp h).1
  rw [List.getElem?_append_left hi]; exact h
theorem Ext.snoc (ρ : List Addr) (p : Addr) : Ext ρ (ρ ++ [p]) := ⟨[p], rfl⟩
theorem Grow.refl (H : Hp) : Grow H H := fun _ _ _ h => h
theorem Grow.trans {a b c : Hp} (x : Grow a b) (y : Grow b c) : Grow a c := fun p xs i h => y p xs i (x p xs i h)
theorem Grow.upd {H : Hp} {p : Addr} {o : HO} (h : ∀ u, Imm u → H p ≠ some u) : Grow H (upd H p o) := fun a xs i e => by
  have : a ≠ p := fun z => by subst z; exact h _ i e
  rw [upd_ne this]; exact e
theorem Grow.new {H : Hp} {p : Addr} {o : HO} (h : H p = none) : Grow H (L2.upd H p o) := Grow.upd (fun xs _ e => by rw [h] at e; cases e)
mutual
theorem Is.mono {ρ ρ' : List Addr} {H H' : Hp} (x : Ext ρ ρ') (g : Grow H H') : ∀ {t : A} {v : V}, Is ρ H t v → Is ρ' H' t v
  | _, _, .non => .non
  | _, _, .bl b => .bl b
  | _, _, .int i => .int i
  | _, _, .str s => .str s
  | _, _, .tup h r => .tup (g _ _ (.tup _) h) (IsAll.mono x g r)
  | _, _, .lst h => .lst (x.get h)
  | _, _, .dct h => .dct (x.get h)
  | _, _, .ty n => .ty n
  | _, _, .obj h => .obj (x.get h)
  | _, _, .rng h => .rng (g _ _ (.rng _ _) h)
theorem IsAll.mono {ρ ρ' : List Addr} {H H' : Hp} (x : Ext ρ ρ') (g : Grow H H') : ∀ {ts : List A} {vs : List V}, IsAll ρ H ts vs → IsAll ρ' H' ts vs
  | _, _, .nil => .nil
  | _, _, .cons r rs => .cons (Is.mono x g r) (IsAll.mono x g rs)
end
section
variable {ρ : List Addr} {H : Hp}
theorem IsAll.length : ∀ {ts : List A} {vs : List V}, IsAll ρ H ts vs → ts.length = vs.length
  | _, _, .nil => rfl
  | _, _, .cons _ r => by simp [IsAll.length r]
theorem IsAll.append : ∀ {ts us : List A} {vs ws : List V}, IsAll ρ H ts vs → IsAll ρ H us ws → IsAll ρ H (ts ++ us) (vs ++ ws)
  | _, _, _, _, .nil, s => s
  | _, _, _, _, .cons r t, s => .cons r (IsAll.append t s)
theorem IsAll.get : ∀ {ts : List A} {vs : List V} {i : Nat} {t : A}, IsAll ρ H ts vs → ts[i]? = some t → ∃ v, vs[i]? = some v ∧ Is ρ H t v
  | _, _, _, _, .nil, e => by simp at e
  | _, _, 0, _, .cons r _, e => by simp at e; subst e; exact ⟨_, rfl, r⟩
  | _, _, i + 1, _, .cons _ r, e => by
    obtain ⟨v, h1, h2⟩ := IsAll.get (i := i) r (by simpa using e)
    exact ⟨v, by simpa using h1, h2⟩
theorem IsAll.getV : ∀ {ts : List A} {vs : List V} {i : Nat} {v : V}, IsAll ρ H ts vs → vs[i]? = some v → ∃ t, ts[i]? = some t ∧ Is ρ H t v
  | _, _, _, _, .nil, e => by simp at e
  | _, _, 0, _, .cons r _, e => by simp at e; subst e; exact ⟨_, rfl, r⟩
  | _, _, i + 1, _, .cons _ r, e => by
    obtain ⟨v, h1, h2⟩ := IsAll.getV (i := i) r (by simpa using e)
    exact ⟨v, by simpa using h1, h2⟩
theorem IsAll.take : ∀ {ts : List A} {vs : List V} (n : Nat), IsAll ρ H ts vs → IsAll ρ H (ts.take n) (vs.take n)
  | _, _, 0, _ => by simpa using IsAll.nil
  | _, _, _ + 1, .nil => by simpa using IsAll.nil
  | _, _, n + 1, .cons r t => by simpa using IsAll.cons r (IsAll.take n t)
theorem IsAll.drop : ∀ {ts : List A} {vs : List V} (n : Nat), IsAll ρ H ts vs → IsAll ρ H (ts.drop n) (vs.drop n)
  | _, _, 0, r => by simpa using r
  | _, _, _ + 1, .nil => by simpa using IsAll.nil
  | _, _, n + 1, .cons _ t => by simpa using IsAll.drop n t
theorem IsAll.reverse : ∀ {ts : List A} {vs : List V}, IsAll ρ H ts vs → IsAll ρ H ts.reverse vs.reverse
  | _, _, .nil => .nil
  | _, _, .cons r t => by
    rw [List.reverse_cons, List.reverse_cons]
    exact IsAll.append (IsAll.reverse t) (.cons r .nil)
theorem IsAll.set {t : A} {v : V} (r : Is ρ H t v) : ∀ {ts : List A} {vs : List V} (i : Nat), IsAll ρ H ts vs → IsAll ρ H (ts.set i t) (vs.set i v)
  | _, _, _, .nil => by simpa using IsAll.nil
  | _, _, 0, .cons _ s => .cons r s
  | _, _, i + 1, .cons q s => .cons q (IsAll.set r i s)
theorem IsAll.eraseIdx : ∀ {ts : List A} {vs : List V} (i : Nat), IsAll ρ H ts vs → IsAll ρ H (ts.eraseIdx i) (vs.eraseIdx i)
  | _, _, _, .nil => by simpa using IsAll.nil
  | _, _, 0, .cons _ s => by simpa using s
  | _, _, i + 1, .cons q s => by simpa using IsAll.cons q (IsAll.eraseIdx i s)
theorem IsAll.ints : ∀ {vs : List V} {is : List Int}, IsAll ρ H (is.map A.int) vs → vs = is.map V.int
  | _, [], .nil => rfl
  | _, i :: is, .cons r t => by
    cases r
    rw [IsAll.ints t]; rfl
end
/-- the world and what the top has written -/
abbrev Tbl := List (Addr × Str)
structure Amb where
  wd : World
  K : PySem.W.Frag
  mg : Str → Option Value
  Tb : Tbl
/-- what a text's top and world are -/
structure Gx where
  mg : Str → Option Value
  w : Amb
abbrev _root_.L2.Cx.am (X : Cx) (Tb : Tbl) : Amb := ⟨X.w, X.K, X.mg, Tb⟩
abbrev _root_.L2.Cx.gx (X : Cx) (Tb : Tbl) : Gx := ⟨X.mg, X.am Tb⟩
/-- a wish; where the tables are; what stood at the frame's beginning -/
structure WR where
  w : WX
  Tb : Tbl
  r : List Addr
  h : Hp
instance : CoeFun WR (fun _ => Value → Option Addr → L2.St → Hp → Prop) := ⟨WR.w⟩
/-- .. nothing may be raised -/
abbrev WR.nx (W : WR) : WR := ⟨fun _ _ _ _ => False, W.Tb, W.r, W.h⟩
def Cell.isM : Cell → Bool
  | .frz _ => false
  | .obj => false
  | .fk _ => false
  | .fT _ => false
  | _ => true
def Cell.isF : Cell → Bool
  | .fk _ => true
  | .fT _ => true
  | _ => false
/-- a key, as a value -/
def ofN : NestedKey → A
  | .none => .non
  | .num i => .int i
  | .text x => .str x
  | .tup ks => .tup (ofNs ks)
where ofNs : List NestedKey → List A
  | [] => []
  | k :: ks => ofN k :: ofNs ks
/-- a dict whose keys are tuples of anything: its keys with their places -/
def nestO (w : World) (a : Addr) (ks : List (NestedKey × Addr)) (vs : List V) : HO := .ext fun h => ks.length ≤ sizeLine ∧ (a == sysModules) = false ∧ ks.length = vs.length ∧ (ks.map (·.1)).Nodup ∧
  ∃ us : List Value, Vals vs us ∧ ∃ o es ep, h.get? a = some o ∧ o.ExactDict ∧ o.data = .dict es ep ∧ es.toList = (ks.zip us).map fun p => { hash := p.1.1.hash w, key := .ref p.1.2, val := p.2 }
/-- a list of the written part -/
def FrK (w : Amb) (a : Addr) (vs : List V) : Prop := ∃ (o : Obj) (its : Array Value) (n : Nat), w.K.lookup a = some o ∧ o.cls = .type "list" ∧ o.dict = none ∧ o.data = .seq its n ∧ its.size ≤ sizeLine ∧ Vals vs its.toList
/-- a cell as it lies at its address -/
def RC (w : Amb) (ρ : List Addr) (H : Hp) (a : Addr) : Cell → Prop
  | .lst xs => ∃ vs, H a = some (.lst vs) ∧ IsAll ρ H xs vs
  | .frz xs => ∃ vs, (((∃ o, H a = some (.frz o (.lst vs))) ∨ H a = some (.lst vs)) ∨ FrK w a vs) ∧ IsAll ρ H xs vs
  | .dK kvs => ∃ vs, H a = some (.dK ((kvs.map (·.1)).zip vs)) ∧ IsAll ρ H (kvs.map (·.2)) vs
  | .dT kvs => ∃ vs, H a = some (.dT ((kvs.map (·.1)).zip vs)) ∧ IsAll ρ H (kvs.map (·.2)) vs
  | .dN kvs => ∃ bs vs, H a = some (nestO w.wd a ((kvs.map (·.1)).zip bs) vs) ∧ IsAll ρ H (kvs.map fun kv => ofN kv.1) (bs.map V.ref) ∧ IsAll ρ H (kvs.map (·.2)) vs ∧ ∀ kv ∈ kvs, kv.1.depth ≤ 8
  | .st xs => ∃ S : Int → Bool, H a = some (SetO w.wd a S xs.length) ∧ (∀ k, S k = decide (k ∈ xs))
  | .obj => True
  | .xd fs => ∃ vs, H a = some (.xd ((fs.map (·.1)).zip vs)) ∧ IsAll ρ H (fs.map (·.2)) vs
  | .fk kvs => ∃ (od : Obj) (vs : List V), H a = some (.frz od (.dK ((kvs.map (·.1)).zip vs))) ∧ IsAll ρ H (kvs.map (·.2)) vs
  | .fT kvs => ∃ (od : Obj) (vs : List V), H a = some (.frz od (.dT ((kvs.map (·.1)).zip vs))) ∧ IsAll ρ H (kvs.map (·.2)) vs
  | .ins C fs => ∃ (Ca dx : Addr) (vs : List V), w.mg C = some (.ref Ca) ∧ H a = some (.ins Ca dx ((fs.map (·.1)).zip vs)) ∧ H dx = some (.own a) ∧ IsAll ρ H (fs.map (·.2)) vs
/-! ### code objects stand apart -/
/-- whatever is not a record is none of the code objects -/
theorem ext_ne_code {φ : Heap → Prop} {a c : Addr} {q : Str} (hφ : ∀ h, φ h → ∃ o, h.get? a = some o ∧ ∀ vs, o.data ≠ .fields vs) : HO.ext φ ≠ LamX.CodeO c q := fun z => by
  unfold LamX.CodeO at z
  have z := HO.ext.inj z
  let ob : Obj := { cls := .none, data := .fields #[.none, .str q 0] }
  let h : Heap := { objs := Array.replicate (c + 1) ob }
  have all : ∀ (b : Addr) (o : Obj), h.get? b = some o → o = ob := fun b o e => by
    have e := (Heap.get?_some_iff.mp e).1
    rw [show h.objs = Array.replicate (c + 1) ob from rfl, Array.getElem?_replicate] at e
    split at e
    · exact (Option.some.inj e).symm
    · cases e
  have at_c : h.get? c = some ob := Heap.get?_some_iff.mpr ⟨by rw [show h.objs = Array.replicate (c + 1) ob from rfl, Array.getElem?_replicate, if_pos (Nat.lt_succ_self c)], rfl⟩
  have hc : (fun h : Heap => ∃ (oc : Obj) (vs : Array Value) (t : Tok), h.get? c = some oc ∧ oc.data = .fields vs ∧ vs[1]? = some (.str q t)) h :=
    ⟨ob, _, 0, at_c, rfl, rfl⟩
  rw [← z] at hc
  obtain ⟨o, ho, hn⟩ := hφ _ hc
  have := all _ _ ho
  subst this
  exact hn _ rfl
structure RM (w : Amb) (ρ : List Addr) (H : Hp) (M : Store) : Prop where
  len : ρ.length = M.length
  nd : ∀ (i j : Nat) (a : Addr) (c d : Cell), ρ[i]? = some a → ρ[j]? = some a → M[i]? = some c → M[j]? = some d → c.isM = true → d.isM = true → i = j
  at_ : ∀ (i : Nat) (a : Addr) (c : Cell), ρ[i]? = some a → M[i]? = some c → RC w ρ H a c
  tabs : LamX.Tabs w.Tb H
  fz : ∀ (i j : Nat) (a : Addr) (c : Cell) (xs : List A), ρ[i]? = some a → ρ[j]? = some a → M[i]? = some c → M[j]? = some (.frz xs) → c.isM = true → ∃ vs, FrK w a vs ∧ IsAll ρ H xs vs
  fu : ∀ (i j : Nat) (a : Addr) (c d : Cell), ρ[i]? = some a → ρ[j]? = some a → M[i]? = some c → M[j]? = some d → c.isF = true → d.isF = true → i = j
inductive RS0 (ρ : List Addr) (H : Hp) : Sl → L2.St → Prop
  | nil : RS0 ρ H [] []
  | no {t : Sl} {s : L2.St} {v : Option V} : RS0 ρ H t s → RS0 ρ H (none :: t) (v :: s)
  | yes {t : Sl} {s : L2.St} {a : A} {v : V} : Is ρ H a v → RS0 ρ H t s → RS0 ρ H (some a :: t) (some v :: s)
/-- the slots, behind what stood at the frame's beginning -/
structure RS (W : WR) (ρ : List Addr) (H : Hp) (τ : Sl) (σ : L2.St) : Prop where
  ext : Ext W.r ρ
  grow : Grow W.h H
  s : RS0 ρ H τ σ
section
variable {ρ ρ' : List Addr} {H H' : Hp}
theorem RS0.mono (x : Ext ρ ρ') (g : Grow H H') : ∀ {t : Sl} {s : L2.St}, RS0 ρ H t s → RS0 ρ' H' t s
  | _, _, .nil => .nil
  | _, _, .no r => .no (RS0.mono x g r)
  | _, _, .yes i r => .yes (i.mono x g) (RS0.mono x g r)
theorem RS0.length : ∀ {t : Sl} {s : L2.St}, RS0 ρ H t s → t.length = s.length
  | _, _, .nil => rfl
  | _, _, .no r => by simp [RS0.length r]
  | _, _, .yes _ r => by simp [RS0.length r]
theorem RS0.get : ∀ {t : Sl} {s : L2.St} {i : Nat} {a : A}, RS0 ρ H t s → t[i]? = some (some a) → ∃ v, s[i]? = some (some v) ∧ Is ρ H a v
  | _, _, _, _, .nil, e => by simp at e
  | _, _, 0, _, .no _, e => by simp at e
  | _, _, i + 1, _, .no r, e => by
    obtain ⟨v, h1, h2⟩ := RS0.get (i := i) r (by simpa using e)
    exact ⟨v, by simpa using h1, h2⟩
  | _, _, 0, _, .yes h _, e => by simp at e; subst e; exact ⟨_, rfl, h⟩
  | _, _, i + 1, _, .yes _ r, e => by
    obtain ⟨v, h1, h2⟩ := RS0.get (i := i) r (by simpa using e)
    exact ⟨v, by simpa using h1, h2⟩
theorem RS0.set {a : A} {v : V} (h : Is ρ H a v) : ∀ {t : Sl} {s : L2.St} (i : Nat), RS0 ρ H t s → RS0 ρ H (t.set i (some a)) (s.set i (some v))
  | _, _, _, .nil => .nil
  | _, _, 0, .no r => .yes h r
  | _, _, i + 1, .no r => .no (RS0.set h i r)
  | _, _, 0, .yes _ r => .yes h r
  | _, _, i + 1, .yes q r => .yes q (RS0.set h i r)
theorem RS0.unset : ∀ {t : Sl} {s : L2.St} (i : Nat) (v : Option V), RS0 ρ H t s → RS0 ρ H (t.set i none) (s.set i v)
  | _, _, _, _, .nil => .nil
  | _, _, 0, _, .no r => .no r
  | _, _, i + 1, v, .no r => .no (RS0.unset i v r)
  | _, _, 0, _, .yes _ r => .no r
  | _, _, i + 1, v, .yes q r => .yes q (RS0.unset i v r)
theorem RS.mono {W : WR} (x : Ext ρ ρ') (g : Grow H H') {τ : Sl} {σ : L2.St} (r : RS W ρ H τ σ) : RS W ρ' H' τ σ := ⟨r.ext.trans x, r.grow.trans g, r.s.mono x g⟩
theorem RS.length {W : WR} {τ : Sl} {σ : L2.St} (r : RS W ρ H τ σ) : τ.length = σ.length := r.s.length
theorem RS.get {W : WR} {τ : Sl} {σ : L2.St} {i : Nat} {a : A} (r : RS W ρ H τ σ) (e : τ[i]? = some (some a)) : ∃ v, σ[i]? = some (some v) ∧ Is ρ H a v := r.s.get e
theorem RS.set {W : WR} {a : A} {v : V} (h : Is ρ H a v) {τ : Sl} {σ : L2.St} (i : Nat) (r : RS W ρ H τ σ) : RS W ρ H (τ.set i (some a)) (σ.set i (some v)) := ⟨r.ext, r.grow, r.s.set h i⟩
theorem RS.unset {W : WR} {τ : Sl} {σ : L2.St} (i : Nat) (v : Option V) (r : RS W ρ H τ σ) : RS W ρ H (τ.set i none) (σ.set i v) := ⟨r.ext, r.grow, r.s.unset i v⟩
theorem RS.of {W : WR} {τ τ' : Sl} {σ σ' : L2.St} (r : RS W ρ H τ σ) (s : RS0 ρ H τ' σ') : RS W ρ H τ' σ' := ⟨r.ext, r.grow, s⟩
theorem RC.mono {a : Addr} {c : Cell} (x : Ext ρ ρ') (g : Grow H H') (e : H' a = H a) (r : RC w ρ H a c) : RC w ρ' H' a c := by
  cases c with
  | lst xs => obtain ⟨vs, h, i⟩ := r; exact ⟨vs, e.trans h, i.mono x g⟩
  | frz xs =>
    obtain ⟨vs, h, i⟩ := r
    refine ⟨vs, ?_, i.mono x g⟩
    rcases h with (⟨o, h⟩ | h) | h
    · exact .inl (.inl ⟨o, e.trans h⟩)
    · exact .inl (.inr (e.trans h))
    · exact .inr h
  | dK xs => obtain ⟨vs, h, i⟩ := r; exact ⟨vs, e.trans h, i.mono x g⟩
  | dT xs => obtain ⟨vs, h, i⟩ := r; exact ⟨vs, e.trans h, i.mono x g⟩
  | dN xs => obtain ⟨bs, vs, h, i, j, d⟩ := r; exact ⟨bs, vs, e.trans h, i.mono x g, j.mono x g, d⟩
  | st xs => obtain ⟨S, h, i⟩ := r; exact ⟨S, e.trans h, i⟩
  | obj => trivial
  | xd xs => obtain ⟨vs, h, i⟩ := r; exact ⟨vs, e.trans h, i.mono x g⟩
  | fk xs => obtain ⟨od, vs, h, i⟩ := r; exact ⟨od, vs, e.trans h, i.mono x g⟩
  | fT xs => obtain ⟨od, vs, h, i⟩ := r; exact ⟨od, vs, e.trans h, i.mono x g⟩
  | ins C fs => obtain ⟨Ca, dx, vs, h0, h, h2, i⟩ := r; exact ⟨Ca, dx, vs, h0, e.trans h, g _ _ (.own _) h2, i.mono x g⟩
theorem set_ne_code {w : World} {a c : Addr} {S : Int → Bool} {n : Nat} {q : Str} : SetO w a S n ≠ LamX.CodeO c q := by
  unfold SetO
  refine ext_ne_code (a := a) fun h e => ?_
  obtain ⟨o, es, ep, t, ho, _, hd, _⟩ := e
  exact ⟨o, ho, fun vs z => by rw [hd] at z; cases z⟩
theorem nest_ne_code {w : World} {a c : Addr} {ks : List (NestedKey × Addr)} {vs : List V} {q : Str} : nestO w a ks vs ≠ LamX.CodeO c q := by
  unfold nestO
  refine ext_ne_code (a := a) fun h e => ?_
  obtain ⟨_, _, _, _, us, _, o, es, ep, ho, _, hd, _⟩ := e
  exact ⟨o, ho, fun vs z => by rw [hd] at z; cases z⟩
theorem codeO_ext {c : Addr} {q : Str} {o : HO} (h : ∀ φ, o ≠ .ext φ) : o ≠ LamX.CodeO c q := fun z => h _ z
/-- what a cell that may change is not -/
structure Loose (o : HO) : Prop where
  im : ¬ Imm o
  fz : ∀ ob u, o ≠ .frz ob u
  tb : ∀ ps, o ≠ .tbl ps
  cd : ∀ c q, o ≠ LamX.CodeO c q
theorem Loose.of {o : HO} (h1 : ∀ xs, o ≠ .tup xs) (h2 : ∀ a b, o ≠ .rng a b) (h3 : ∀ x, o ≠ .own x) (h4 : ∀ ob u, o ≠ .frz ob u) (h5 : ∀ ps, o ≠ .tbl ps) (h6 : ∀ c q, o ≠ LamX.CodeO c q) : Loose o :=
  ⟨fun i => by cases i with
    | tup xs => exact h1 _ rfl
    | rng a b => exact h2 _ _ rfl
    | own x => exact h3 _ rfl
    | code c q => exact h6 _ _ rfl
    | frz ob u => exact h4 _ _ rfl, h4, h5, h6⟩
theorem RC.there {a : Addr} {c : Cell} (r : RC w ρ H a c) (hm : c.isM = true) : ∃ o, H a = Option.some o ∧ Loose o := by
  cases c with
  | lst xs => obtain ⟨vs, h, i⟩ := r; exact ⟨_, h, .of (fun _ z => (by cases z)) (fun _ _ z => (by cases z)) (fun _ z => (by cases z)) (fun _ _ z => (by cases z)) (fun _ z => (by cases z)) (fun _ _ => codeO_ext fun _ z => (by cases z))⟩
  | frz xs => cases hm
  | dK xs => obtain ⟨vs, h, i⟩ := r; exact ⟨_, h, .of (fun _ z => (by cases z)) (fun _ _ z => (by cases z)) (fun _ z => (by cases z)) (fun _ _ z => (by cases z)) (fun _ z => (by cases z)) (fun _ _ => codeO_ext fun _ z => (by cases z))⟩
  | dT xs => obtain ⟨vs, h, i⟩ := r; exact ⟨_, h, .of (fun _ z => (by cases z)) (fun _ _ z => (by cases z)) (fun _ z => (by cases z)) (fun _ _ z => (by cases z)) (fun _ z => (by cases z)) (fun _ _ => codeO_ext fun _ z => (by cases z))⟩
  | dN xs => obtain ⟨bs, vs, h, i⟩ := r; exact ⟨_, h, .of (fun _ z => (by cases z)) (fun _ _ z => (by cases z)) (fun _ z => (by cases z)) (fun _ _ z => (by cases z)) (fun _ z => (by cases z)) (fun _ _ => nest_ne_code)⟩
  | st xs => obtain ⟨S, h, i⟩ := r; exact ⟨_, h, .of (fun _ z => (by cases z)) (fun _ _ z => (by cases z)) (fun _ z => (by cases z)) (fun _ _ z => (by cases z)) (fun _ z => (by cases z)) (fun _ _ => set_ne_code)⟩
  | obj => cases hm
  | xd xs => obtain ⟨vs, h, i⟩ := r; exact ⟨_, h, .of (fun _ z => (by cases z)) (fun _ _ z => (by cases z)) (fun _ z => (by cases z)) (fun _ _ z => (by cases z)) (fun _ z => (by cases z)) (fun _ _ => codeO_ext fun _ z => (by cases z))⟩
  | fk xs => cases hm
  | fT xs => cases hm
  | ins C fs => obtain ⟨Ca, dx, vs, h0, h, h2, i⟩ := r; exact ⟨_, h, .of (fun _ z => (by cases z)) (fun _ _ z => (by cases z)) (fun _ z => (by cases z)) (fun _ _ z => (by cases z)) (fun _ z => (by cases z)) (fun _ _ => codeO_ext fun _ z => (by cases z))⟩
theorem RC.froz {a : Addr} {c : Cell} (r : RC w ρ H a c) (hm : c.isF = true) : ∃ ob u, H a = Option.some (.frz ob u) := by
  cases c with
  | fk xs => obtain ⟨od, vs, h, i⟩ := r; exact ⟨_, _, h⟩
  | fT xs => obtain ⟨od, vs, h, i⟩ := r; exact ⟨_, _, h⟩
  | _ => cases hm
/-- the heap changed where nothing locked stood -/
theorem RC.kept {a : Addr} {c : Cell} (x : Ext ρ ρ') (g : Grow H H') (e : c.isM = true → H' a = H a) (f : ∀ xs, c = .frz xs → (∀ o, (∀ ps, o ≠ .tbl ps) → H a = Option.some o → H' a = Option.some o) ∨ ∃ vs, FrK w a vs ∧ IsAll ρ H xs vs) (r : RC w ρ H a c) : RC w ρ' H' a c := by
  cases hc : c.isM with
  | true => exact r.mono x g (e hc)
  | false =>
    cases c with
    | frz xs =>
      rcases f xs rfl with f | ⟨vs, f1, f2⟩
      · obtain ⟨vs, h, i⟩ := r
        refine ⟨vs, ?_, i.mono x g⟩
        rcases h with (⟨o, h⟩ | h) | h
        · exact .inl (.inl ⟨o, f _ (fun _ z => (by cases z)) h⟩)
        · exact .inl (.inr (f _ (fun _ z => (by cases z)) h))
        · exact .inr h
      · exact ⟨vs, .inr f1, f2.mono x g⟩
    | obj => trivial
    | fk xs => obtain ⟨od, vs, h, i⟩ := r; exact ⟨od, vs, g _ _ (.frz _ _) h, i.mono x g⟩
    | fT xs => obtain ⟨od, vs, h, i⟩ := r; exact ⟨od, vs, g _ _ (.frz _ _) h, i.mono x g⟩
    | _ => cases hc
theorem frz_K {a : Addr} {xs : List A} (r : RC w ρ H a (.frz xs)) (h : H a = Option.none) : ∃ vs, FrK w a vs ∧ IsAll ρ H xs vs := by
  obtain ⟨vs, q, i⟩ := r
  rcases q with (⟨o, q⟩ | q) | q
  · rw [h] at q; cases q
  · rw [h] at q; cases q
  · exact ⟨vs, q, i⟩
theorem RM.addr {M : Store} {i : Nat} {c : Cell} (m : RM w ρ H M) (h : M[i]? = Option.some c) : ∃ a, ρ[i]? = Option.some a ∧ RC w ρ H a c := by
  have hi : i < ρ.length := by rw [m.len]; exact (List.getElem?_eq_some_iff.mp h).1
  exact ⟨ρ[i], by simp [hi], m.at_ i _ c (by simp [hi]) h⟩
theorem RM.cell {M : Store} {i : Nat} {a : Addr} (m : RM w ρ H M) (h : ρ[i]? = Option.some a) : ∃ c, M[i]? = Option.some c ∧ RC w ρ H a c := by
  have hi : i < M.length := by rw [← m.len]; exact (List.getElem?_eq_some_iff.mp h).1
  exact ⟨M[i], by simp [hi], m.at_ i a _ h (by simp [hi])⟩
/-- the heap grew by what is no cell -/
theorem RM.grow {M : Store} (m : RM w ρ H M) (g : Grow H H') (k : ∀ b o, H b = Option.some o → H' b = Option.some o) : RM w ρ H' M :=
  ⟨m.len, m.nd, fun i a c h1 h2 => by
    have r := m.at_ i a c h1 h2
    refine r.kept (.refl _) g (fun hm => ?_) fun xs _ => .inl fun o _ e => k _ _ e
    obtain ⟨o, e, _⟩ := r.there hm
    exact (k a o e).trans e.symm, m.tabs.ext k, fun i j a c xs h1 h2 h3 h4 h5 => by
      obtain ⟨vs, f1, f2⟩ := m.fz i j a c xs h1 h2 h3 h4 h5
      exact ⟨vs, f1, f2.mono (.refl _) g⟩, m.fu⟩
/-- .. the tables may have grown -/
theorem RM.growT {M : Store} (m : RM w ρ H M) (k : LamX.ExtN H H') (t : LamX.Tabs w.Tb H') : RM w ρ H' M :=
  have g : Grow H H' := fun a u i e => k a u e fun ps z => by
    subst z
    generalize hz : HO.tbl ps = z at i
    cases i with
    | code c q => exact LamX.codeO_ne ps hz.symm
    | _ => cases hz
  ⟨m.len, m.nd, fun i a c h1 h2 => by
    have r := m.at_ i a c h1 h2
    refine r.kept (.refl _) g (fun hm => ?_) fun xs _ => .inl fun o n e => k _ _ e n
    obtain ⟨o, e, l⟩ := r.there hm
    exact (k a o e l.tb).trans e.symm, t, fun i j a c xs h1 h2 h3 h4 h5 => by
      obtain ⟨vs, f1, f2⟩ := m.fz i j a c xs h1 h2 h3 h4 h5
      exact ⟨vs, f1, f2.mono (.refl _) g⟩, m.fu⟩
theorem Grow.ofT {H H' : Hp} (k : LamX.ExtN H H') : Grow H H' := fun a u i e => k a u e fun ps z => by
    subst z
    generalize hz : HO.tbl ps = z at i
    cases i with
    | code c q => exact LamX.codeO_ne ps hz.symm
    | _ => cases hz
/-- an object that is not looked at -/
theorem RM.name {M : Store} (m : RM w ρ H M) (p : Addr) : RM w (ρ ++ [p]) H (M ++ [.obj]) := by
  have old : ∀ (i : Nat) (a : Addr) (d : Cell), (ρ ++ [p])[i]? = Option.some a → (M ++ [.obj])[i]? = Option.some d → (ρ[i]? = Option.some a ∧ M[i]? = Option.some d) ∨ d = .obj := fun i a d h1 h2 => by
    by_cases hi : i < ρ.length
    · rw [List.getElem?_append_left hi] at h1
      rw [List.getElem?_append_left (by rw [← m.len]; exact hi)] at h2
      exact .inl ⟨h1, h2⟩
    · rw [m.len] at hi
      rw [List.getElem?_append_right (by omega)] at h2
      have : i - M.length = 0 := by
        have := (List.getElem?_eq_some_iff.mp h2).1
        simp at this; omega
      rw [this] at h2
      exact .inr (Option.some.inj h2).symm
  refine ⟨by simp [m.len], fun i j a d d' h1 h2 h3 h4 h5 h6 => ?_, fun i a d h1 h2 => ?_, m.tabs, fun i j a c xs h1 h2 h3 h4 h5 => ?_, fun i j a d d' h1 h2 h3 h4 h5 h6 => ?_⟩
  · rcases old i a d h1 h3 with ⟨q1, q2⟩ | q
    · rcases old j a d' h2 h4 with ⟨q3, q4⟩ | q
      · exact m.nd i j a d d' q1 q3 q2 q4 h5 h6
      · subst q; cases h6
    · subst q; cases h5
  · rcases old i a d h1 h2 with ⟨q1, q2⟩ | q
    · exact (m.at_ i a d q1 q2).kept (.snoc _ _) (.refl _) (fun _ => rfl) fun _ _ => .inl fun _ _ e => e
    · subst q; trivial
  · rcases old i a c h1 h3 with ⟨q1, q2⟩ | q
    · rcases old j a _ h2 h4 with ⟨q3, q4⟩ | q
      · obtain ⟨vs, f1, f2⟩ := m.fz i j a c xs q1 q3 q2 q4 h5
        exact ⟨vs, f1, f2.mono (.snoc _ _) (.refl _)⟩
      · cases q
    · subst q; cases h5
  · rcases old i a d h1 h3 with ⟨q1, q2⟩ | q
    · rcases old j a d' h2 h4 with ⟨q3, q4⟩ | q
      · exact m.fu i j a d d' q1 q3 q2 q4 h5 h6
      · subst q; cases h6
    · subst q; cases h5
theorem tabs_upd {T : Tbl} {H : Hp} {a : Addr} {o o' : HO} (t : LamX.Tabs T H) (h : H a = Option.some o) (l : Loose o) : LamX.Tabs T (upd H a o') := fun p hp => by
  obtain ⟨ps, h1, h2, h3⟩ := t p hp
  refine ⟨ps, ?_, h2, fun pos cv hc => ?_⟩
  · rw [upd_ne (fun z => l.tb ps (by rw [z, h] at h1; exact Option.some.inj h1))]; exact h1
  · obtain ⟨c, e1, e2⟩ := h3 pos cv hc
    exact ⟨c, e1, by rw [upd_ne (fun z => l.cd c _ (by rw [z, h] at e2; rw [z]; exact Option.some.inj e2))]; exact e2⟩
theorem RM.new {M : Store} (m : RM w ρ H M) {p : Addr} {o : HO} (hp : H p = Option.none) : RM w ρ (upd H p o) M :=
  m.grow (.new hp) fun b o' e => by rw [upd_ne (ne_of_none e hp)]; exact e
/-- a new cell -/
theorem RM.push {M : Store} (m : RM w ρ H M) {p : Addr} {o : HO} {c : Cell} (hp : H p = Option.none) (hc : RC w (ρ ++ [p]) (upd H p o) p c) : RM w (ρ ++ [p]) (upd H p o) (M ++ [c]) := by
  have g : Grow H (upd H p o) := .new hp
  have old : ∀ (i : Nat) (a : Addr) (d : Cell), (ρ ++ [p])[i]? = Option.some a → (M ++ [c])[i]? = Option.some d → (i < ρ.length ∧ ρ[i]? = Option.some a ∧ M[i]? = Option.some d) ∨ (i = ρ.length ∧ a = p ∧ d = c) := fun i a d h1 h2 => by
    by_cases hi : i < ρ.length
    · rw [List.getElem?_append_left hi] at h1
      rw [List.getElem?_append_left (by rw [← m.len]; exact hi)] at h2
      exact .inl ⟨hi, h1, h2⟩
    · have : i = ρ.length := by
        have := (List.getElem?_eq_some_iff.mp h1).1
        simp at this; omega
      subst this
      rw [List.getElem?_append_right (Nat.le_refl _)] at h1
      rw [m.len, List.getElem?_append_right (Nat.le_refl _)] at h2
      simp at h1 h2
      exact .inr ⟨rfl, h1.symm, h2.symm⟩
  have apart : ∀ (i : Nat) (d : Cell), ρ[i]? = Option.some p → M[i]? = Option.some d → d.isM = true → False := fun i d h1 h2 hm => by
    obtain ⟨u, e, _⟩ := (m.at_ i p d h1 h2).there hm
    rw [hp] at e; cases e
  refine ⟨by simp [m.len], fun i j a d d' h1 h2 h3 h4 h5 h6 => ?_, fun i a d h1 h2 => ?_, m.tabs.ext fun b o' e => by rw [upd_ne (ne_of_none e hp)]; exact e, fun i j a d xs h1 h2 h3 h4 h5 => ?_, fun i j a d d' h1 h2 h3 h4 h5 h6 => ?_⟩
  · rcases old i a d h1 h3 with ⟨_, q1, q2⟩ | ⟨q0, q1, q2⟩
    · rcases old j a d' h2 h4 with ⟨_, q3, q4⟩ | ⟨_, q3, q4⟩
      · exact m.nd i j a d d' q1 q3 q2 q4 h5 h6
      · subst q3; exact (apart i d q1 q2 h5).elim
    · rcases old j a d' h2 h4 with ⟨_, q3, q4⟩ | ⟨q0', q3, q4⟩
      · subst q1; exact (apart j d' q3 q4 h6).elim
      · rw [q0, q0']
  · rcases old i a d h1 h2 with ⟨_, q1, q2⟩ | ⟨_, q1, q2⟩
    · have r := m.at_ i a d q1 q2
      refine r.kept (.snoc _ _) g (fun hm => ?_) fun xs _ => .inl fun o _ e => ?_
      · obtain ⟨u, e, _⟩ := r.there hm
        rw [upd_ne (ne_of_none e hp)]
      · rw [upd_ne (ne_of_none e hp)]; exact e
    · subst q1 q2; exact hc
  · rcases old j a _ h2 h4 with ⟨_, q3, q4⟩ | ⟨q0, q3, q4⟩
    · rcases old i a d h1 h3 with ⟨_, q1, q2⟩ | ⟨_, q1, q2⟩
      · obtain ⟨vs, f1, f2⟩ := m.fz i j a d xs q1 q3 q2 q4 h5
        exact ⟨vs, f1, f2.mono (.snoc _ _) g⟩
      · subst q1
        obtain ⟨vs, f1, f2⟩ := frz_K (m.at_ j a _ q3 q4) hp
        exact ⟨vs, f1, f2.mono (.snoc _ _) g⟩
    · subst q3
      rcases old i a d h1 h3 with ⟨_, q1, q2⟩ | ⟨_, q1, q2⟩
      · exact (apart i d q1 q2 h5).elim
      · subst q2; rw [← q4] at h5; cases h5
  · have ap : ∀ (i : Nat) (d : Cell), ρ[i]? = Option.some p → M[i]? = Option.some d → d.isF = true → False := fun i d h1 h2 hm => by
      obtain ⟨ob, u, e⟩ := (m.at_ i p d h1 h2).froz hm
      rw [hp] at e; cases e
    rcases old i a d h1 h3 with ⟨_, q1, q2⟩ | ⟨q0, q1, q2⟩
    · rcases old j a d' h2 h4 with ⟨_, q3, q4⟩ | ⟨_, q3, q4⟩
      · exact m.fu i j a d d' q1 q3 q2 q4 h5 h6
      · subst q3; exact (ap i d q1 q2 h5).elim
    · rcases old j a d' h2 h4 with ⟨_, q3, q4⟩ | ⟨q0', q3, q4⟩
      · subst q1; exact (ap j d' q3 q4 h6).elim
      · rw [q0, q0']
theorem RM.growSet {M : Store} (m : RM w ρ H M) {i : Nat} {a : Addr} {o : HO} {c : Cell} (ha : ρ[i]? = Option.some a) (hc : M[i]? = Option.some c) (hm : c.isM = true := by rfl) : Grow H (upd H a o) := by
  have r := m.at_ i a c ha hc
  obtain ⟨o', e, l⟩ := r.there hm
  exact .upd fun xs i z => by rw [e] at z; cases z; exact l.im i
/-- a cell is changed -/
theorem RM.set {M : Store} (m : RM w ρ H M) {i : Nat} {a : Addr} {o : HO} {c c' : Cell} (ha : ρ[i]? = Option.some a) (hc : M[i]? = Option.some c) (hc' : RC w ρ (upd H a o) a c') (hm : c.isM = true := by rfl) : RM w ρ (upd H a o) (M.set i c') := by
  have r := m.at_ i a c ha hc
  obtain ⟨o', e, l⟩ := r.there hm
  have g : Grow H (upd H a o) := m.growSet ha hc hm
  have hlt : i < M.length := (List.getElem?_eq_some_iff.mp hc).1
  have getM : ∀ (j : Nat) (d : Cell), (M.set i c')[j]? = Option.some d → (j = i ∧ d = c') ∨ (j ≠ i ∧ M[j]? = Option.some d) := fun j d h => by
    by_cases hj : j = i
    · subst hj
      rw [List.getElem?_set_self hlt] at h
      exact .inl ⟨rfl, (Option.some.inj h).symm⟩
    · rw [List.getElem?_set_ne (Ne.symm hj)] at h
      exact .inr ⟨hj, h⟩
  refine ⟨by simp [m.len], fun j k b d d' h1 h2 h3 h4 h5 h6 => ?_, fun j b d h1 h2 => ?_, tabs_upd m.tabs e l, fun j k b d xs h1 h2 h3 h4 h5 => ?_, fun j k b d d' h1 h2 h3 h4 h5 h6 => ?_⟩
  · rcases getM j d h3 with ⟨q1, _⟩ | ⟨q1, q2⟩
    · rcases getM k d' h4 with ⟨q3, _⟩ | ⟨q3, q4⟩
      · rw [q1, q3]
      · subst q1; exact m.nd j k b c d' h1 h2 hc q4 hm h6
    · rcases getM k d' h4 with ⟨q3, _⟩ | ⟨q3, q4⟩
      · subst q3; exact m.nd j k b d c h1 h2 q2 hc h5 hm
      · exact m.nd j k b d d' h1 h2 q2 q4 h5 h6
  · rcases getM j d h2 with ⟨q1, q2⟩ | ⟨q1, q2⟩
    · subst q1 q2
      rw [ha] at h1
      obtain rfl := Option.some.inj h1
      exact hc'
    · have q := m.at_ j b d h1 q2
      refine q.kept (.refl _) g (fun hd => ?_) fun xs ex => ?_
      · have hb : b ≠ a := fun z => by
          subst z
          exact q1 (m.nd j i b d c h1 ha q2 hc hd hm)
        exact upd_ne hb
      · by_cases hb : b = a
        · subst hb; subst ex
          exact .inr (m.fz i j b c xs ha h1 hc q2 hm)
        · exact .inl fun o _ ef => by rw [upd_ne hb]; exact ef
  · rcases getM k _ h4 with ⟨q3, q4⟩ | ⟨q3, q4⟩
    · subst q3
      rw [ha] at h2
      obtain rfl := Option.some.inj h2
      rcases getM j d h3 with ⟨q1, q2⟩ | ⟨q1, q2⟩
      · rw [← q4] at q2; subst q2; cases h5
      · exact absurd (m.nd j k a d c h1 ha q2 hc h5 hm) q1
    · rcases getM j d h3 with ⟨q1, q2⟩ | ⟨q1, q2⟩
      · subst q1
        obtain ⟨vs, f1, f2⟩ := m.fz j k b c xs h1 h2 hc q4 hm
        exact ⟨vs, f1, f2.mono (.refl _) g⟩
      · obtain ⟨vs, f1, f2⟩ := m.fz j k b d xs h1 h2 q2 q4 h5
        exact ⟨vs, f1, f2.mono (.refl _) g⟩
  · have ap : ∀ (k : Nat) (d : Cell), ρ[k]? = Option.some a → M[k]? = Option.some d → d.isF = true → False := fun k d h1 h2 hm2 => by
      obtain ⟨ob, u, e2⟩ := (m.at_ k a d h1 h2).froz hm2
      rw [e] at e2
      exact l.fz _ _ (Option.some.inj e2)
    rcases getM j d h3 with ⟨q1, _⟩ | ⟨q1, q2⟩
    · rcases getM k d' h4 with ⟨q3, _⟩ | ⟨q3, q4⟩
      · rw [q1, q3]
      · subst q1
        rw [ha] at h1
        obtain rfl := Option.some.inj h1
        exact (ap k d' h2 q4 h6).elim
    · rcases getM k d' h4 with ⟨q3, _⟩ | ⟨q3, q4⟩
      · subst q3
        rw [ha] at h2
        obtain rfl := Option.some.inj h2
        exact (ap j d h1 q2 h5).elim
      · exact m.fu j k b d d' h1 h2 q2 q4 h5 h6
end
/-! ### exceptions -/
/-- an exception of an own class: its class, its own dict -/
def RX (mg : Str → Option Value) (ρ : List Addr) (H : Hp) (e : Exn) (cls : Value) (d : Option Addr) : Prop :=
  ∃ C, mg e.name = some (.ref C) ∧ cls = .ref C ∧
    match e.dct with
    | none => d = none
    | some l => ∃ dd, d = some dd ∧ ρ[l]? = some dd
/-! ### readings -/
section
variable {α β γ δ : Type}
abbrev Rel (α β : Type) := List Addr → Hp → α → β → Prop
/-- what an outcome promises -/
def RE (G : Gx) (W : WR) (σ : L2.St) (ρ : List Addr) (H : Hp) (rel : Rel α β) (o : EO α) (Q : β → Hp → Prop) : Prop :=
  match o with
  | .ok a M => ∀ b H' ρ', Ext ρ ρ' → Grow H H' → RM G.w ρ' H' M → rel ρ' H' a b → Q b H'
  | .ex e M => ∀ cls d H' ρ', Ext ρ ρ' → Grow H H' → RM G.w ρ' H' M → RX G.mg ρ' H' e cls d → W cls d σ H'
  | .bad => False
theorem RE.mono {G : Gx} {W : WR} {σ : L2.St} {ρ ρ' : List Addr} {H H' : Hp} {rel : Rel α β} {o : EO α} {Q : β → Hp → Prop} (r : RE G W σ ρ H rel o Q) (x : Ext ρ ρ') (g : Grow H H') : RE G W σ ρ' H' rel o Q := by
  cases o with
  | ok a M => exact fun b H2 ρ2 x2 g2 => r b H2 ρ2 (x.trans x2) (g.trans g2)
  | ex e M => exact fun c d H2 ρ2 x2 g2 => r c d H2 ρ2 (x.trans x2) (g.trans g2)
  | bad => exact r
theorem RE.imp {G : Gx} {W : WR} {σ : L2.St} {ρ : List Addr} {H : Hp} {rel : Rel α β} {o : EO α} {Q Q' : β → Hp → Prop} (r : RE G W σ ρ H rel o Q) (h : ∀ b H', Q b H' → Q' b H') : RE G W σ ρ H rel o Q' := by
  cases o with
  | ok a M => exact fun b H2 ρ2 x2 g2 m i => h _ _ (r b H2 ρ2 x2 g2 m i)
  | ex e M => exact r
  | bad => exact r
def tG (G : Gx) (W : WR) (rel : Rel α β) (f : Sl → Store → EO α) (σ : L2.St) (H : Hp) (Q : β → Hp → Prop) : Prop :=
  ∃ τ M ρ, RS W ρ H τ σ ∧ RM G.w ρ H M ∧ RE G W σ ρ H rel (f τ M) Q
theorem tG.imp {G : Gx} {W : WR} {σ : L2.St} {H : Hp} {rel : Rel α β} {f : Sl → Store → EO α} {Q Q' : β → Hp → Prop} (r : tG G W rel f σ H Q) (h : ∀ b H', Q b H' → Q' b H') : tG G W rel f σ H Q' := by
  obtain ⟨τ, M, ρ, a, b, c⟩ := r
  exact ⟨τ, M, ρ, a, b, c.imp h⟩
/-- behind a first part -/
def tK (G : Gx) (W : WR) (rel₁ : Rel α β) (rel₂ : Rel γ δ) (g : Sl → α → Store → EO γ) (σ : L2.St) (Q : δ → Hp → Prop) : β → Hp → Prop := fun b H =>
  ∃ τ M ρ a, RS W ρ H τ σ ∧ RM G.w ρ H M ∧ rel₁ ρ H a b ∧ RE G W σ ρ H rel₂ (g τ a M) Q
theorem seqG {G : Gx} {W : WR} {σ : L2.St} {H : Hp} (rel₁ : Rel α β) {rel₂ : Rel γ δ} {f : Sl → Store → EO α} {g : Sl → α → Store → EO γ} {Q : δ → Hp → Prop}
    (h : tG G W rel₂ (fun τ M => (f τ M).bind (g τ)) σ H Q) : tG G W rel₁ f σ H (tK G W rel₁ rel₂ g σ Q) := by
  obtain ⟨τ, M, ρ, rs, rm, r⟩ := h
  refine ⟨τ, M, ρ, rs, rm, ?_⟩
  simp only at r
  cases e : f τ M with
  | ok a M1 =>
    rw [e] at r
    exact fun b H1 ρ1 x g' m i => ⟨τ, M1, ρ1, a, rs.mono x g', m, i, r.mono x g'⟩
  | ex en M1 => rw [e] at r; exact r
  | bad => rw [e] at r; exact r
/-- .. a second part that doesn't look at the first -/
theorem seqK {G : Gx} {W : WR} {σ : L2.St} {H : Hp} {α' β' : Type} (rel₁ : Rel α β) (hrel : ∀ {ρ ρ' H H' a b}, Ext ρ ρ' → Grow H H' → rel₁ ρ H a b → rel₁ ρ' H' a b) (rel₂ : Rel α' β') {rel₃ : Rel γ δ} {g : Sl → Store → EO α'} {k : Sl → α → α' → Store → EO γ} {Q : δ → Hp → Prop} {b : β}
    (h : tK G W rel₁ rel₃ (fun τ a M => (g τ M).bind (k τ a)) σ Q b H) :
    tG G W rel₂ g σ H (fun b' H' => ∃ τ M ρ a a', RS W ρ H' τ σ ∧ RM G.w ρ H' M ∧ rel₁ ρ H' a b ∧ rel₂ ρ H' a' b' ∧ RE G W σ ρ H' rel₃ (k τ a a' M) Q) := by
  obtain ⟨τ, M, ρ, a, rs, rm, i, r⟩ := h
  refine ⟨τ, M, ρ, rs, rm, ?_⟩
  simp only at r
  cases e : g τ M with
  | ok a' M1 =>
    rw [e] at r
    exact fun b' H1 ρ1 x g' m i' => ⟨τ, M1, ρ1, a, a', rs.mono x g', m, hrel x g' i, i', r.mono x g'⟩
  | ex en M1 => rw [e] at r; exact r
  | bad => rw [e] at r; exact r
end
abbrev relB : Rel Bool Bool := fun _ _ a b => a = b
/-- an expression, an argument list, a test -/
def AE (X : Cx) (W : WR) (e : Expr) (f : EF) : Prop := PE X e (tG (X.gx W.Tb) W Is f)
def AA (X : Cx) (W : WR) (es : List Expr) (f : EFs) : Prop := PA X es (tG (X.gx W.Tb) W IsAll f)
def AT (X : Cx) (W : WR) (e : Expr) (f : EFb) : Prop := PT X e (tG (X.gx W.Tb) W relB f)
theorem _root_.L2.PE.pre {X : Cx} {e : Expr} {t t' : TE} (h : PE X e t) (w : ∀ σ H Q, t' σ H Q → t σ H Q) : PE X e t' := ⟨fun pins s σ H Q I q => h.run pins s σ H Q I (w σ H Q q)⟩
theorem _root_.L2.PA.pre {X : Cx} {e : List Expr} {t t' : TA} (h : PA X e t) (w : ∀ σ H Q, t' σ H Q → t σ H Q) : PA X e t' := ⟨fun pos pins s σ H Q I q => h.run pos pins s σ H Q I (w σ H Q q)⟩
theorem _root_.L2.PT.pre {X : Cx} {e : Expr} {t t' : TT} (h : PT X e t) (w : ∀ σ H Q, t' σ H Q → t σ H Q) : PT X e t' := ⟨fun pins s σ H Q I q => h.run pins s σ H Q I (w σ H Q q)⟩
theorem _root_.L2.PC.pre {X : Cx} {op : CmpOp} {a b : Expr} {t t' : TE} (h : PC X op a b t) (w : ∀ σ H Q, t' σ H Q → t σ H Q) : PC X op a b t' := ⟨fun pins s σ H Q I q => h.run pins s σ H Q I (w σ H Q q)⟩
theorem _root_.L2.PS.pre {X : Cx} {e : Stmt} {t t' : TS} (h : PS X e t) (w : ∀ D σ H, t' D σ H → t D σ H) : PS X e t' := ⟨fun pins s σ H D I q => h.run pins s σ H D I (w D σ H q)⟩
theorem _root_.L2.PSs.pre {X : Cx} {e : List Stmt} {t t' : TS} (h : PSs X e t) (w : ∀ D σ H, t' D σ H → t D σ H) : PSs X e t' := ⟨fun pins s σ H D I q => h.run pins s σ H D I (w D σ H q)⟩
/-- a value that is there: the outcome is ok with the same store -/
theorem RE.okv {α β : Type} {G : Gx} {W : WR} {σ : L2.St} {ρ ρ' : List Addr} {H H' : Hp} {rel : Rel α β} {a : α} {b : β} {M : Store} {Q : β → Hp → Prop} (r : RE G W σ ρ H rel (.ok a M) Q) (x : Ext ρ ρ') (g : Grow H H') (m : RM G.w ρ' H' M) (i : rel ρ' H' a b) : Q b H' :=
  r b H' ρ' x g m i
/-! ### names, constants -/
section
variable {X : Cx} {W : WR} {pos : Pos}
def eVar (i : Nat) : EF := fun τ M => match τ[i]? with
  | some (some a) => .ok a M
  | _ => .bad
def eC (a : A) : EF := fun _ M => .ok a M
theorem ae_v (i : Nat) {x : Str} (hN : X.N[i]? = some x := by rfl) (hv : Vis X.env.scope x := by first | exact Or.inl rfl | exact Or.inr (Or.inl rfl) | exact Or.inr (Or.inr rfl)) (hd : (x == ("__debug__" : Str)) = false := by decide)
    (hcd : (x == ("__classdict__" : Str)) = false := by decide) : AE X W (.Name x pos) (eVar i) := by
  refine (pe_var hN hv hd hcd).pre fun σ H Q h => ?_
  obtain ⟨τ, M, ρ, rs, rm, r⟩ := h
  unfold eVar at r
  split at r
  · rename_i a e
    obtain ⟨v, h1, h2⟩ := rs.get e
    exact ⟨v, h1, r.okv (.refl _) (.refl _) rm h2⟩
  · exact False.elim r
theorem const_ok {a : A} {v : V} (hi : ∀ ρ H, Is ρ H a v) {e : Expr} (h : PE X e (tC v)) : AE X W e (eC a) := by
  refine h.pre fun σ H Q h => ?_
  obtain ⟨τ, M, ρ, rs, rm, r⟩ := h
  exact r.okv (.refl _) (.refl _) rm (hi _ _)
theorem ae_int {i : Int} {j} : AE X W (.Constant (.int i) j pos) (eC (.int i)) := const_ok (fun _ _ => .int i) pe_int
theorem ae_bl {b : Bool} {j} : AE X W (.Constant (.bool b) j pos) (eC (.bl b)) := const_ok (fun _ _ => .bl b) pe_bl
theorem ae_non {j} : AE X W (.Constant .none j pos) (eC .non) := const_ok (fun _ _ => .non) pe_non
theorem ae_str {x : Str} {j} : AE X W (.Constant (.str x) j pos) (eC (.str x)) := const_ok (fun _ _ => .str x) pe_str
/-- a module's constant -/
theorem ae_glob {x : Str} {a : A} {v : V} {u : Value} (hm : X.mg x = some u) (hi : ∀ ρ H, Is ρ H a v) (r : RelV v u) (hg : Gl X x := by rfl) (hd : (x == ("__debug__" : Str)) = false := by decide) : AE X W (.Name x pos) (eC a) := const_ok hi (pe_glob hg hm r hd)
/-! ### argument lists -/
def eNil : EFs := fun _ M => .ok [] M
def eCons (f : EF) (g : EFs) : EFs := fun τ M => (f τ M).bind fun a M1 => (g τ M1).bind fun as M2 => .ok (a :: as) M2
theorem Is.ext {ρ ρ' : List Addr} {H H' : Hp} {a : A} {b : V} (x : Ext ρ ρ') (g : Grow H H') (i : Is ρ H a b) : Is ρ' H' a b := i.mono x g
theorem IsAll.ext {ρ ρ' : List Addr} {H H' : Hp} {a : List A} {b : List V} (x : Ext ρ ρ') (g : Grow H H') (i : IsAll ρ H a b) : IsAll ρ' H' a b := i.mono x g
theorem aa_nil : AA X W [] eNil := by
  refine pa_nil.pre fun σ H Q h => ?_
  obtain ⟨τ, M, ρ, rs, rm, r⟩ := h
  exact r.okv (.refl _) (.refl _) rm .nil
theorem aa_cons {e : Expr} {es : List Expr} {f : EF} {g : EFs} (h1 : AE X W e f) (h2 : AA X W es g) (hs : starEach (e :: es) X.env = (false, eval e X.env) :: starEach es X.env := by rfl) : AA X W (e :: es) (eCons f g) := by
  refine (pa_cons h1 h2 hs).pre fun σ H Q h => ?_
  refine (seqG Is h).imp fun x H1 h1 => ?_
  refine (seqK Is Is.ext IsAll h1).imp fun xs H2 h2 => ?_
  obtain ⟨τ, M, ρ, a, as, rs, rm, i, is, r⟩ := h2
  exact r.okv (.refl _) (.refl _) rm (.cons i is)
/-! ### operations on values -/
/-- a two-place operation of the machine -/
abbrev O2 := A → A → Store → Option (A × Store)
abbrev O1 := A → Store → Option (A × Store)
abbrev On := List A → Store → Option (A × Store)
def toE {α : Type} (o : Option (α × Store)) : EO α := match o with
  | some (a, M) => .ok a M
  | none => .bad
/-- it ends as told, from wherever -/
def RO (w : Amb) (ρ : List Addr) (H : Hp) (o : Option (A × Store)) (Q : VK) : Prop := match o with
  | some (a, M) => ∀ v H' ρ', Ext ρ ρ' → Grow H H' → RM w ρ' H' M → Is ρ' H' a v → Q v H'
  | none => False
theorem RO.of {G : Gx} {σ : L2.St} {ρ : List Addr} {H : Hp} {o : Option (A × Store)} {Q : VK} (r : RE G W σ ρ H Is (toE o) Q) : RO G.w ρ H o Q := by
  cases o with
  | none => exact r
  | some p => exact r
def r2 (w : Amb) (o : O2) : R2 := fun x y H Q => ∃ a b M ρ, Is ρ H a x ∧ Is ρ H b y ∧ RM w ρ H M ∧ RO w ρ H (o a b M) Q
def r1 (w : Amb) (o : O1) : V → Hp → VK → Prop := fun x H Q => ∃ a M ρ, Is ρ H a x ∧ RM w ρ H M ∧ RO w ρ H (o a M) Q
def rn (w : Amb) (o : On) : List V → Hp → VK → Prop := fun xs H Q => ∃ as M ρ, IsAll ρ H as xs ∧ RM w ρ H M ∧ RO w ρ H (o as M) Q
def eOp (o : O2) (f g : EF) : EF := fun τ M => (f τ M).bind fun a M1 => (g τ M1).bind fun b M2 => toE (o a b M2)
def eUn (o : O1) (f : EF) : EF := fun τ M => (f τ M).bind fun a M1 => toE (o a M1)
def eFn (o : On) (f : EFs) : EF := fun τ M => (f τ M).bind fun as M1 => toE (o as M1)
theorem op_tK {f g : EF} {o : O2} {σ : L2.St} {H : Hp} {Q : VK} {G : Gx} (h : tG G W Is (eOp o f g) σ H Q) : tG G W Is f σ H fun x H1 => tG G W Is g σ H1 fun y H2 => r2 G.w o x y H2 Q := by
  refine (seqG Is h).imp fun x H1 h1 => ?_
  refine (seqK Is Is.ext Is h1).imp fun y H2 h2 => ?_
  obtain ⟨τ, M, ρ, a, b, rs, rm, i, j, r⟩ := h2
  exact ⟨a, b, M, ρ, i, j, rm, RO.of r⟩
theorem ae_op {a b : Expr} {op : Operator} {o : O2} {f g : EF} (ho : OpR X (binaryOp op) (r2 (X.am W.Tb) o)) (ha : AE X W a f) (hb : AE X W b g) : AE X W (.BinOp a op b pos) (eOp o f g) :=
  (pe_op ho ha hb).pre fun _ _ _ h => op_tK h
theorem ae_un {a : Expr} {op : UnaryOp} {o : O1} {f : EF} (ho : UnR X (unaryOp op) (r1 (X.am W.Tb) o)) (ha : AE X W a f) : AE X W (.UnaryOp op a pos) (eUn o f) := by
  refine (pe_un ho ha).pre fun σ H Q h => ?_
  refine (seqG Is h).imp fun x H1 h1 => ?_
  obtain ⟨τ, M, ρ, a, rs, rm, i, r⟩ := h1
  exact ⟨a, M, ρ, i, rm, RO.of r⟩
theorem fn_tK {f : EFs} {o : On} {σ : L2.St} {H : Hp} {Q : VK} {G : Gx} (h : tG G W Is (eFn o f) σ H Q) : tG G W IsAll f σ H fun xs H1 => rn G.w o xs H1 Q := by
  refine (seqG IsAll h).imp fun x H1 h1 => ?_
  obtain ⟨τ, M, ρ, a, rs, rm, i, r⟩ := h1
  exact ⟨a, M, ρ, i, rm, RO.of r⟩
/-- f(e, ..), f built in -/
theorem ae_B {id : String} {o : On} {x : Str} {p : Pos} {e : Expr} {es : List Expr} {f : EFs} (hc : CallR X (.builtin id) (rn (X.am W.Tb) o)) (hm : X.mg x = none) (ha : AA X W (e :: es) f) (hg : Gl X x := by rfl) (hv : bootBuiltins x = some (.builtin id) := by decide +kernel) (hn : x ≠ "__name__" := by decide) (hdb : (x == ("__debug__" : Str)) = false := by decide)
    (he : starEach (e :: es) X.env = (false, eval e X.env) :: starEach es X.env := by rfl) (hpl : (backTo pos (starEach es X.env)).any (·.1) = false := by rfl) : AE X W (.Call (.Name x p) (e :: es) [] pos) (eFn o f) :=
  (pe_callB hc hg hm hv ha hn hdb he hpl).pre fun _ _ _ h => fn_tK h
theorem ae_Ty {T : String} {o : On} {x : Str} {p : Pos} {e : Expr} {es : List Expr} {f : EFs} (hc : CallR X (.type T) (rn (X.am W.Tb) o)) (hm : X.mg x = none) (ha : AA X W (e :: es) f) (hg : Gl X x := by rfl) (hv : bootBuiltins x = some (.type T) := by decide +kernel) (hn : x ≠ "__name__" := by decide) (hdb : (x == ("__debug__" : Str)) = false := by decide)
    (he : starEach (e :: es) X.env = (false, eval e X.env) :: starEach es X.env := by rfl) (hpl : (backTo pos (starEach es X.env)).any (·.1) = false := by rfl) : AE X W (.Call (.Name x p) (e :: es) [] pos) (eFn o f) :=
  (pe_callTy hc hg hm hv ha hn hdb he hpl).pre fun _ _ _ h => fn_tK h
end
end AB
/-! AB2: operations -/
namespace AB
open PySem PySem.Spec PyProof.Rows L2
/-- the list that a cell holds -/
def Cell.list? : Cell → Option (List A)
  | .lst xs => some xs
  | .frz xs => some xs
  | _ => none
def listAt (M : Store) (l : Nat) : Option (List A) := match M[l]? with
  | some c => c.list?
  | none => none
theorem RM.list {ρ : List Addr} {H : Hp} {M : Store} (m : RM w ρ H M) {l : Nat} {a : Addr} {xs : List A} (ha : ρ[l]? = some a) (h : listAt M l = some xs) : ∃ vs, SqL w.K H a vs ∧ IsAll ρ H xs vs := by
  unfold listAt at h
  split at h
  · rename_i c e
    have r := m.at_ l a c ha e
    cases c with
    | lst ys => cases h; obtain ⟨vs, q, i⟩ := r; exact ⟨vs, .inl (.inl q), i⟩
    | frz ys =>
      cases h
      obtain ⟨vs, q, i⟩ := r
      rcases q with (⟨o, q⟩ | q) | q
      · exact ⟨vs, .inl (.inr ⟨o, q⟩), i⟩
      · exact ⟨vs, .inl (.inl q), i⟩
      · exact ⟨vs, .inr q, i⟩
    | dK _ => cases h
    | dT _ => cases h
    | dN _ => cases h
    | st _ => cases h
    | obj => cases h
    | xd _ => cases h
    | fk _ => cases h
    | fT _ => cases h
    | ins _ _ => cases h
  · cases h
theorem RM.lstM {ρ : List Addr} {H : Hp} {M : Store} (m : RM w ρ H M) {l : Nat} {a : Addr} {xs : List A} (ha : ρ[l]? = some a) (h : M[l]? = some (.lst xs)) : ∃ vs, H a = some (.lst vs) ∧ IsAll ρ H xs vs := m.at_ l a _ ha h
/-- a value's data -/
def dat (M : Store) : Nat → A → Option PyData
  | _, .non => some .none
  | _, .bl b => some (.bool b)
  | _, .int i => some (.int i)
  | _, .str x => some (.str x)
  | n + 1, .tup xs => (xs.mapM (dat M n)).map .tuple
  | n + 1, .lst l => (listAt M l).bind fun xs => (xs.mapM (dat M n)).map .list
  | _, _ => none
theorem mapM_cons_some {α β : Type} {f : α → Option β} {x : α} {xs : List α} {ys : List β} (h : (x :: xs).mapM f = some ys) : ∃ y ys', f x = some y ∧ xs.mapM f = some ys' ∧ ys = y :: ys' := by
  rw [List.mapM_cons] at h
  cases e : f x with
  | none => rw [e] at h; cases h
  | some y =>
    rw [e] at h
    cases e2 : xs.mapM f with
    | none => rw [e2] at h; cases h
    | some ys' => rw [e2] at h; cases h; exact ⟨y, ys', rfl, rfl, rfl⟩
section
variable {w : Amb} {ρ : List Addr} {H : Hp} {M : Store} {K : PySem.W.Frag}
theorem dat_all {n : Nat} (ih : ∀ {a : A} {v : V} {d : PyData}, Is ρ H a v → dat M n a = some d → Dp K H v d) : ∀ {xs : List A} {vs : List V} {ds : List PyData}, IsAll ρ H xs vs → xs.mapM (dat M n) = some ds → DpAll K H vs ds
  | [], _, ds, .nil, e => by
    rw [List.mapM_nil] at e; cases e; exact .nil
  | x :: xs, _, ds, .cons r rs, e => by
    obtain ⟨y, ys, e1, e2, rfl⟩ := mapM_cons_some e
    exact .cons (ih r e1) (dat_all ih rs e2)
theorem dat_ok (m : RM w ρ H M) : ∀ {n : Nat} {a : A} {v : V} {d : PyData}, Is ρ H a v → dat M n a = some d → Dp w.K H v d := by
  intro n
  induction n with
  | zero =>
    intro a v d r e
    cases r <;> simp only [dat] at e <;> cases e <;> constructor
  | succ n ih =>
    intro a v d r e
    cases r with
    | non => simp only [dat] at e; cases e; constructor
    | bl b => simp only [dat] at e; cases e; constructor
    | int i => simp only [dat] at e; cases e; constructor
    | str x => simp only [dat] at e; cases e; constructor
    | tup h rs =>
      simp only [dat] at e
      cases e2 : List.mapM (dat M n) _ with
      | none => rw [e2] at e; cases e
      | some ds =>
        rw [e2] at e; cases e
        exact .tup (.inl (.inl h)) (dat_all ih rs e2)
    | lst h =>
      simp only [dat] at e
      cases e1 : listAt M _ with
      | none => rw [e1] at e; cases e
      | some xs =>
        rw [e1] at e
        obtain ⟨vs, q, i⟩ := m.list h e1
        cases e2 : List.mapM (dat M n) xs with
        | none => rw [Option.bind_some, e2] at e; cases e
        | some ds =>
          rw [Option.bind_some, e2] at e; cases e
          exact .lst q (dat_all ih i e2)
    | dct h => simp only [dat] at e; cases e
    | ty n => simp only [dat] at e; cases e
    | obj h => simp only [dat] at e; cases e
    | rng h => simp only [dat] at e; cases e
end
/-- data that == may compare -/
def datS (M : Store) (a : A) : Option PyData := match dat M 8 a with
  | some d => if SeqAt.shaped d = true then some d else none
  | none => none
theorem datS_ok {ρ : List Addr} {H : Hp} {M : Store} (m : RM w ρ H M) {a : A} {v : V} {d : PyData} (r : Is ρ H a v) (e : datS M a = some d) : Dp w.K H v d ∧ SeqAt.shaped d = true := by
  unfold datS at e
  split at e
  · rename_i d' e'
    split at e
    · rename_i hs; cases e; exact ⟨dat_ok m r e', hs⟩
    · cases e
  · cases e
def flat? : A → Option V
  | .non => some .non
  | .bl b => some (.bl b)
  | .int i => some (.int i)
  | .str x => some (.str x)
  | _ => none
theorem flat_ok {ρ : List Addr} {H : Hp} {a : A} {v w : V} (r : Is ρ H a v) (e : flat? a = some w) : v = w ∧ flatV v = true := by
  cases r <;> simp only [flat?] at e <;> cases e <;> exact ⟨rfl, rfl⟩
theorem flats_ok {ρ : List Addr} {H : Hp} : ∀ {as : List A} {vs ws : List V}, IsAll ρ H as vs → as.mapM flat? = some ws → vs = ws ∧ vs.all flatV = true
  | [], _, ws, .nil, e => by rw [List.mapM_nil] at e; cases e; exact ⟨rfl, rfl⟩
  | x :: xs, _, ws, .cons r rs, e => by
    obtain ⟨y, ys, e1, e2, rfl⟩ := mapM_cons_some e
    obtain ⟨h1, h2⟩ := flat_ok r e1
    obtain ⟨h3, h4⟩ := flats_ok rs e2
    subst h1 h3
    exact ⟨rfl, by rw [List.all_cons, h2, h4]; rfl⟩
/-! ### results -/
section
variable {ρ : List Addr} {H : Hp} {M : Store}
theorem RO.val {a : A} {v : V} {Q : VK} (r : RO w ρ H (some (a, M)) Q) (m : RM w ρ H M) (i : Is ρ H a v) : Q v H := r v H ρ (.refl _) (.refl _) m i
/-- a new tuple -/
theorem RO.newT {ts : List A} {vs : List V} {Q : VK} {p : Addr} (r : RO w ρ H (some (.tup ts, M)) Q) (m : RM w ρ H M) (i : IsAll ρ H ts vs) (hp : H p = none) : Q (.ref p) (upd H p (.tup vs)) :=
  r _ _ ρ (.refl _) (.new hp) (m.new hp) (.tup upd_same (i.mono (.refl _) (.new hp)))
/-- a new list -/
theorem RO.newL {ts : List A} {vs : List V} {Q : VK} {p : Addr} (r : RO w ρ H (some (.lst M.length, M ++ [.lst ts])) Q) (m : RM w ρ H M) (i : IsAll ρ H ts vs) (hp : H p = none) : Q (.ref p) (upd H p (.lst vs)) :=
  r _ _ (ρ ++ [p]) (.snoc _ _) (.new hp) (m.push hp ⟨vs, upd_same, i.mono (.snoc _ _) (.new hp)⟩) (.lst (by rw [← m.len]; simp))
/-- a list is changed -/
theorem RO.setL {l : Nat} {a : A} {v : V} {b : Addr} {c : Cell} {ts : List A} {vs : List V} {Q : VK} (r : RO w ρ H (some (a, M.set l (.lst ts))) Q) (m : RM w ρ H M) (hb : ρ[l]? = some b) (hc : M[l]? = some c) (i : IsAll ρ H ts vs) (ia : Is ρ H a v) (hm : c.isM = true := by rfl) : Q v (upd H b (.lst vs)) :=
  have g := m.growSet (o := .lst vs) hb hc hm
  r _ _ ρ (.refl _) g (m.set hb hc ⟨vs, upd_same, i.mono (.refl _) g⟩ hm) (ia.mono (.refl _) g)
end
def lenOk {α : Type} (xs : List α) : Bool := decide (xs.length ≤ sizeLine)
def oAdd : O2 := fun a b M => match a, b with
  | .int i, .int j => some (.int (i + j), M)
  | .tup xs, .tup ys => if xs.length + ys.length ≤ sizeLine then some (.tup (xs ++ ys), M) else none
  | .str x, .str y => if x.length + y.length ≤ sizeLine then some (.str (x ++ y), M) else none
  | .lst l, .lst k => match M[l]?, M[k]? with
    | some (.lst xs), some (.lst ys) => if xs.length + ys.length ≤ sizeLine then some (.lst M.length, M ++ [.lst (xs ++ ys)]) else none
    | _, _ => none
  | _, _ => none
section
variable {X : Cx}
theorem op_addA : OpR X (binaryOp .Add) (r2 (X.am Tb) oAdd) := by
  intro pins s σ H x y v u Q I rx ry h
  obtain ⟨a, b, M, ρ, ia, ib, m, r⟩ := h
  unfold oAdd at r
  split at r
  · cases ia; cases ib
    exact op_add pins s σ H _ _ v u Q I rx ry ⟨_, _, rfl, rfl, r.val m (.int _)⟩
  · cases ia with
    | tup ha qa =>
      cases ib with
      | tup hb qb =>
        split at r
        · rename_i hz
          refine op_catA pins s σ H _ _ v u Q I rx ry ⟨_, _, _, _, rfl, rfl, .inl (.inl ha), .inl (.inl hb), by rw [← qa.length, ← qb.length]; exact hz, ?_, ?_, ?_⟩
          · intro e; subst e; cases qa; exact r.val m (.tup hb qb)
          · intro _ e; subst e; cases qb; rw [List.append_nil] at r; exact r.val m (.tup ha qa)
          · intro _ _ p hp; exact r.newT m (qa.append qb) hp
        · exact r.elim
  · cases ia; cases ib
    split at r
    · rename_i hz
      exact op_add_str pins s σ H _ _ v u Q I rx ry ⟨_, _, rfl, rfl, hz, r.val m (.str _)⟩
    · exact r.elim
  · rename_i l k
    cases ia with
    | lst ha =>
      cases ib with
      | lst hb =>
        split at r
        · rename_i xs ys e1 e2
          split at r
          · rename_i hz
            obtain ⟨vs, h1, i1⟩ := m.lstM ha e1
            obtain ⟨ws, h2, i2⟩ := m.lstM hb e2
            exact op_cat pins s σ H _ _ v u Q I rx ry ⟨_, _, _, _, rfl, rfl, h1, h2, by rw [← i1.length, ← i2.length]; exact hz, fun p hp => r.newL m (i1.append i2) hp⟩
          · exact r.elim
        · exact r.elim
  · exact r.elim
def oSub : O2 := fun a b M => match a, b with
  | .int i, .int j => some (.int (i - j), M)
  | _, _ => none
theorem op_subA : OpR X (binaryOp .Sub) (r2 (X.am Tb) oSub) := by
  intro pins s σ H x y v u Q I rx ry h
  obtain ⟨a, b, M, ρ, ia, ib, m, r⟩ := h
  unfold oSub at r
  split at r
  · cases ia; cases ib
    exact op_sub pins s σ H _ _ v u Q I rx ry ⟨_, _, rfl, rfl, r.val m (.int _)⟩
  · exact r.elim
def oMul : O2 := fun a b M => match a, b with
  | .int i, .int j => if (-(2 ^ 64) < i ∧ i < 2 ^ 64) ∨ (-(2 ^ 64) < j ∧ j < 2 ^ 64) then some (.int (i * j), M) else none
  | .lst l, .int k => match M[l]? with
    | some (.lst xs) => if -(2 ^ 63) ≤ k ∧ k < 2 ^ 63 ∧ xs.length * k.toNat ≤ sizeLine then some (.lst M.length, M ++ [.lst (List.replicate k.toNat xs).flatten]) else none
    | _ => none
  | _, _ => none
theorem IsAll.rep {ρ : List Addr} {H : Hp} {ts : List A} {vs : List V} (r : IsAll ρ H ts vs) : ∀ n : Nat, IsAll ρ H (List.replicate n ts).flatten (List.replicate n vs).flatten
  | 0 => .nil
  | n + 1 => by
    rw [List.replicate_succ, List.replicate_succ, List.flatten_cons, List.flatten_cons]
    exact r.append (IsAll.rep r n)
theorem op_mulA : OpR X (binaryOp .Mult) (r2 (X.am Tb) oMul) := by
  intro pins s σ H x y v u Q I rx ry h
  obtain ⟨a, b, M, ρ, ia, ib, m, r⟩ := h
  unfold oMul at r
  split at r
  · cases ia; cases ib
    split at r
    · rename_i hc
      exact op_mul pins s σ H _ _ v u Q I rx ry ⟨_, _, rfl, rfl, hc, r.val m (.int _)⟩
    · exact r.elim
  · rename_i l k
    cases ib
    cases ia with
    | lst ha =>
      split at r
      · rename_i xs e1
        split at r
        · rename_i hc
          obtain ⟨vs, h1, i1⟩ := m.lstM ha e1
          exact op_rep pins s σ H _ _ v u Q I rx ry ⟨_, _, _, rfl, rfl, h1, hc.1, hc.2.1, by rw [← i1.length]; exact hc.2.2, fun p hp => r.newL m (i1.rep _) hp⟩
        · exact r.elim
      · exact r.elim
  · exact r.elim
def oFdiv : O2 := fun a b M => match a, b with
  | .int i, .int j => if 0 < j ∧ j < 1073741824 then some (.int (i / j), M) else none
  | _, _ => none
theorem op_fdivA : OpR X (binaryOp .FloorDiv) (r2 (X.am Tb) oFdiv) := by
  intro pins s σ H x y v u Q I rx ry h
  obtain ⟨a, b, M, ρ, ia, ib, m, r⟩ := h
  unfold oFdiv at r
  split at r
  · cases ia; cases ib
    split at r
    · rename_i hc
      exact op_fdiv pins s σ H _ _ v u Q I rx ry ⟨_, _, rfl, rfl, hc, r.val m (.int _)⟩
    · exact r.elim
  · exact r.elim
def oMod : O2 := fun a b M => match a, b with
  | .int i, .int j => if 0 < j then some (.int (i % j), M) else none
  | _, _ => none
theorem op_modA : OpR X (binaryOp .Mod) (r2 (X.am Tb) oMod) := by
  intro pins s σ H x y v u Q I rx ry h
  obtain ⟨a, b, M, ρ, ia, ib, m, r⟩ := h
  unfold oMod at r
  split at r
  · cases ia; cases ib
    split at r
    · rename_i hc
      exact op_mod pins s σ H _ _ v u Q I rx ry ⟨_, _, rfl, rfl, hc, r.val m (.int _)⟩
    · exact r.elim
  · exact r.elim
def oPow : O2 := fun a b M => match a, b with
  | .int i, .int j => if 0 ≤ j ∧ j ≤ 1000000 ∧ i.natAbs < 2 ^ 64 then some (.int (i ^ j.toNat), M) else none
  | _, _ => none
theorem op_powA : OpR X (binaryOp .Pow) (r2 (X.am Tb) oPow) := by
  intro pins s σ H x y v u Q I rx ry h
  obtain ⟨a, b, M, ρ, ia, ib, m, r⟩ := h
  unfold oPow at r
  split at r
  · cases ia; cases ib
    split at r
    · rename_i hc
      exact op_pow pins s σ H _ _ v u Q I rx ry ⟨_, _, rfl, rfl, hc, r.val m (.int _)⟩
    · exact r.elim
  · exact r.elim
def oNeg : O1 := fun a M => match a with
  | .int i => some (.int (-i), M)
  | _ => none
theorem un_negA : UnR X (unaryOp .USub) (r1 (X.am Tb) oNeg) := by
  intro pins s σ H x v Q I rx h
  obtain ⟨a, M, ρ, ia, m, r⟩ := h
  unfold oNeg at r
  split at r
  · cases ia
    exact un_neg pins s σ H _ v Q I rx ⟨_, rfl, r.val m (.int _)⟩
  · exact r.elim
/-! ### comparisons -/
def oEq : O2 := fun a b M => match datS M a, datS M b with
  | some d, some e => some (.bl (PyData.eqv d e), M)
  | _, _ => none
def oNe : O2 := fun a b M => match datS M a, datS M b with
  | some d, some e => some (.bl (!PyData.eqv d e), M)
  | _, _ => none
theorem op_eqA (hu : X.A.units + 64 < cLine) : OpR X (compareOp .Eq) (r2 (X.am Tb) oEq) := by
  intro pins s σ H x y v u Q I rx ry h
  obtain ⟨a, b, M, ρ, ia, ib, m, r⟩ := h
  unfold oEq at r
  split at r
  · rename_i d e e1 e2
    obtain ⟨h1, s1⟩ := datS_ok m ia e1
    obtain ⟨h2, s2⟩ := datS_ok m ib e2
    exact op_eqD hu pins s σ H x y v u Q I rx ry ⟨d, e, h1, h2, s1, s2, r.val m (.bl _)⟩
  · exact r.elim
theorem op_neA (hu : X.A.units + 64 < cLine) : OpR X (compareOp .NotEq) (r2 (X.am Tb) oNe) := by
  intro pins s σ H x y v u Q I rx ry h
  obtain ⟨a, b, M, ρ, ia, ib, m, r⟩ := h
  unfold oNe at r
  split at r
  · rename_i d e e1 e2
    obtain ⟨h1, s1⟩ := datS_ok m ia e1
    obtain ⟨h2, s2⟩ := datS_ok m ib e2
    exact op_neD hu pins s σ H x y v u Q I rx ry ⟨d, e, h1, h2, s1, s2, r.val m (.bl _)⟩
  · exact r.elim
def oInt (p : Int → Int → Bool) : O2 := fun a b M => match a, b with
  | .int i, .int j => some (.bl (p i j), M)
  | _, _ => none
def oLt : O2 := oInt fun i j => decide (i < j)
def oLe : O2 := oInt fun i j => decide (i ≤ j)
def oGt : O2 := oInt fun i j => decide (j < i)
def oGe : O2 := oInt fun i j => decide (j ≤ i)
theorem op_intA {op : CmpOp} {p : Int → Int → Bool} (ho : OpR X (compareOp op) (rI0 fun i j => .bl (p i j))) : OpR X (compareOp op) (r2 (X.am Tb) (oInt p)) := by
  intro pins s σ H x y v u Q I rx ry h
  obtain ⟨a, b, M, ρ, ia, ib, m, r⟩ := h
  unfold oInt at r
  split at r
  · cases ia; cases ib
    exact ho pins s σ H _ _ v u Q I rx ry ⟨_, _, rfl, rfl, r.val m (.bl _)⟩
  · exact r.elim
theorem op_ltA : OpR X (compareOp .Lt) (r2 (X.am Tb) oLt) := op_intA op_lt
theorem op_leA : OpR X (compareOp .LtE) (r2 (X.am Tb) oLe) := op_intA op_le
theorem op_gtA : OpR X (compareOp .Gt) (r2 (X.am Tb) oGt) := op_intA op_gt
theorem op_geA : OpR X (compareOp .GtE) (r2 (X.am Tb) oGe) := op_intA op_ge
def isNon : A → Bool
  | .non => true
  | _ => false
def oIs : O2 := fun a b M => match b with
  | .non => some (.bl (isNon a), M)
  | _ => none
def oIsNot : O2 := fun a b M => match b with
  | .non => some (.bl (!isNon a), M)
  | _ => none
theorem isNon_ok {ρ : List Addr} {H : Hp} {a : A} {v : V} (r : Is ρ H a v) : decide (v = .non) = isNon a := by
  cases r <;> simp [isNon]
theorem op_isA : OpR X (compareOp .Is) (r2 (X.am Tb) oIs) := by
  intro pins s σ H x y v u Q I rx ry h
  obtain ⟨a, b, M, ρ, ia, ib, m, r⟩ := h
  unfold oIs at r
  split at r
  · cases ib
    exact op_isN pins s σ H _ _ v u Q I rx ry ⟨rfl, by rw [isNon_ok ia]; exact r.val m (.bl _)⟩
  · exact r.elim
theorem op_isNotA : OpR X (compareOp .IsNot) (r2 (X.am Tb) oIsNot) := by
  intro pins s σ H x y v u Q I rx ry h
  obtain ⟨a, b, M, ρ, ia, ib, m, r⟩ := h
  unfold oIsNot at r
  split at r
  · cases ib
    exact op_notN pins s σ H _ _ v u Q I rx ry ⟨rfl, by rw [isNon_ok ia]; exact r.val m (.bl _)⟩
  · exact r.elim
/-! ### keys of dicts -/
def key? : A → Option Key
  | .int i => some (.inl i)
  | .str x => some (.inr x)
  | _ => none
theorem key_ok {ρ : List Addr} {H : Hp} {a : A} {v : V} {k : Key} (r : Is ρ H a v) (e : key? a = some k) : v = kV k := by
  cases r <;> simp only [key?] at e <;> cases e <;> rfl
theorem keys_ok {ρ : List Addr} {H : Hp} : ∀ {as : List A} {vs : List V} {ks : List Key}, IsAll ρ H as vs → as.mapM key? = some ks → vs = ks.map kV
  | [], _, ks, .nil, e => by rw [List.mapM_nil] at e; cases e; rfl
  | x :: xs, _, ks, .cons r rs, e => by
    obtain ⟨y, ys, e1, e2, rfl⟩ := mapM_cons_some e
    rw [key_ok r e1, keys_ok rs e2]; rfl
section
variable {κ : Type} [DecidableEq κ]
def valA (kvs : List (κ × A)) (k : κ) : Option A := (kvs.find? fun kv => decide (kv.1 = k)).map (·.2)
def putA (kvs : List (κ × A)) (k : κ) (v : A) : List (κ × A) :=
  if (kvs.any fun kv => decide (kv.1 = k)) = true then kvs.map (fun kv => if kv.1 = k then (kv.1, v) else kv) else kvs ++ [(k, v)]
theorem valA_ok {ρ : List Addr} {H : Hp} (k : κ) : ∀ {kvs : List (κ × A)} {vs : List V}, IsAll ρ H (kvs.map (·.2)) vs →
    (valA kvs k = none ∧ valV ((kvs.map (·.1)).zip vs) k = none) ∨ ∃ a v, valA kvs k = some a ∧ valV ((kvs.map (·.1)).zip vs) k = some v ∧ Is ρ H a v
  | [], _, .nil => .inl ⟨rfl, rfl⟩
  | (j, a) :: kvs, _, .cons (v := v) (vs := vs) r rs => by
    by_cases e : j = k
    · subst e
      exact .inr ⟨a, v, by simp [valA], by simp [valV], r⟩
    · have ih := valA_ok (H := H) k rs
      have e1 : valA ((j, a) :: kvs) k = valA kvs k := by simp [valA, List.find?_cons, e]
      have e2 : valV ((((j, a) :: kvs).map (·.1)).zip (v :: vs)) k = valV ((kvs.map (·.1)).zip vs) k := by simp [valV, List.find?_cons, e]
      rw [e1, e2]; exact ih
theorem put_ok {ρ : List Addr} {H : Hp} (k : κ) {x : A} {y : V} (rx : Is ρ H x y) {kvs : List (κ × A)} {vs : List V} (r : IsAll ρ H (kvs.map (·.2)) vs) :
    ∃ ws, putK ((kvs.map (·.1)).zip vs) k y = ((putA kvs k x).map (·.1)).zip ws ∧ IsAll ρ H ((putA kvs k x).map (·.2)) ws := by
  have any_eq : ∀ {kvs : List (κ × A)} {vs : List V}, IsAll ρ H (kvs.map (·.2)) vs → (((kvs.map (·.1)).zip vs).any fun kv => decide (kv.1 = k)) = kvs.any fun kv => decide (kv.1 = k) := by
    intro kvs
    induction kvs with
    | nil => intro vs r; cases r; rfl
    | cons p kvs ih =>
      intro vs r
      cases r with
      | cons r rs => simp only [List.map_cons, List.zip_cons_cons, List.any_cons, ih rs]
  unfold putK putA
  rw [any_eq r]
  split
  · clear any_eq
    rename_i hany; clear hany
    induction kvs generalizing vs with
    | nil => cases r; exact ⟨[], rfl, .nil⟩
    | cons p kvs ih =>
      cases r with
      | @cons _ v0 _ vs0 r rs =>
        obtain ⟨ws, e1, e2⟩ := ih rs
        obtain ⟨j, a⟩ := p
        by_cases e : j = k
        · subst e
          refine ⟨y :: ws, ?_, ?_⟩
          · simp only [List.map_cons, List.zip_cons_cons, if_true]
            rw [e1]
          · simp only [List.map_cons, if_true]
            exact .cons rx e2
        · refine ⟨v0 :: ws, ?_, ?_⟩
          · simp only [List.map_cons, List.zip_cons_cons, if_neg e]
            rw [e1]
          · simp only [List.map_cons, if_neg e]
            exact .cons r e2
  · refine ⟨vs ++ [y], ?_, ?_⟩
    · rw [List.map_append, List.zip_append (by simpa using r.length)]; rfl
    · rw [List.map_append]; exact r.append (.cons rx .nil)
end
/-- what a dict holds at a key -/
def dGet (M : Store) (d : Nat) (k : A) : Option (Option A) := match M[d]? with
  | some (.dK kvs) => (key? k).map fun j => valA kvs j
  | some (.dT kvs) => match k with
    | .tup xs => (xs.mapM key?).map fun j => valA kvs j
    | _ => none
  | some (.fk kvs) => (key? k).map fun j => valA kvs j
  | some (.fT kvs) => match k with
    | .tup xs => (xs.mapM key?).map fun j => valA kvs j
    | _ => none
  | _ => none
def dPut (M : Store) (d : Nat) (k x : A) : Option Store := match M[d]? with
  | some (.dK kvs) => if kvs.length < sizeLine then (key? k).map fun j => M.set d (.dK (putA kvs j x)) else none
  | some (.dT kvs) => if kvs.length < sizeLine then match k with
    | .tup xs => (xs.mapM key?).map fun j => M.set d (.dT (putA kvs j x))
    | _ => none else none
  | _ => none
theorem dGet_ok {ρ : List Addr} {H : Hp} {M : Store} (m : RM w ρ H M) {d : Nat} {b : Addr} {k : A} {y : V} {o : Option A} (hb : ρ[d]? = some b) (ik : Is ρ H k y) (e : dGet M d k = some o) :
    (o = none ∧ DGet H b y none) ∨ ∃ a v, o = some a ∧ DGet H b y (some v) ∧ Is ρ H a v := by
  unfold dGet at e
  split at e
  · rename_i kvs ec
    obtain ⟨vs, h, i⟩ := m.at_ d b _ hb ec
    cases ek : key? k with
    | none => rw [ek] at e; cases e
    | some j =>
      rw [ek] at e; cases e
      rw [key_ok ik ek]
      rcases valA_ok j i with ⟨h1, h2⟩ | ⟨a, v, h1, h2, h3⟩
      · exact .inl ⟨h1, by rw [← h2]; exact DGet.k h⟩
      · exact .inr ⟨a, v, h1, by rw [← h2]; exact DGet.k h, h3⟩
  · rename_i kvs ec
    obtain ⟨vs, h, i⟩ := m.at_ d b _ hb ec
    split at e
    · rename_i xs
      cases ik with
      | tup ht it =>
        cases ek : xs.mapM key? with
        | none => rw [ek] at e; cases e
        | some j =>
          rw [ek] at e; cases e
          rw [keys_ok it ek] at ht
          rcases valA_ok j i with ⟨h1, h2⟩ | ⟨a, v, h1, h2, h3⟩
          · exact .inl ⟨h1, by rw [← h2]; exact DGet.t h ht⟩
          · exact .inr ⟨a, v, h1, by rw [← h2]; exact DGet.t h ht, h3⟩
    · cases e
  · rename_i kvs ec
    obtain ⟨od, vs, h, i⟩ := m.at_ d b _ hb ec
    cases ek : key? k with
    | none => rw [ek] at e; cases e
    | some j =>
      rw [ek] at e; cases e
      rw [key_ok ik ek]
      rcases valA_ok j i with ⟨h1, h2⟩ | ⟨a, v, h1, h2, h3⟩
      · exact .inl ⟨h1, .inl ⟨_, _, .inr ⟨od, h⟩, rfl, h2.symm⟩⟩
      · exact .inr ⟨a, v, h1, .inl ⟨_, _, .inr ⟨od, h⟩, rfl, h2.symm⟩, h3⟩
  · rename_i kvs ec
    obtain ⟨od, vs, h, i⟩ := m.at_ d b _ hb ec
    split at e
    · rename_i xs
      cases ik with
      | tup ht it =>
        cases ek : xs.mapM key? with
        | none => rw [ek] at e; cases e
        | some j =>
          rw [ek] at e; cases e
          rw [keys_ok it ek] at ht
          rcases valA_ok j i with ⟨h1, h2⟩ | ⟨a, v, h1, h2, h3⟩
          · exact .inl ⟨h1, .inr ⟨_, _, _, .inr ⟨od, h⟩, rfl, ht, h2.symm⟩⟩
          · exact .inr ⟨a, v, h1, .inr ⟨_, _, _, .inr ⟨od, h⟩, rfl, ht, h2.symm⟩, h3⟩
    · cases e
  · cases e
theorem dPut_ok {ρ : List Addr} {H : Hp} {M M' : Store} (m : RM w ρ H M) {d : Nat} {b : Addr} {k x : A} {y z : V} (hb : ρ[d]? = some b) (ik : Is ρ H k y) (ix : Is ρ H x z) (e : dPut M d k x = some M') :
    ∃ H', DPut H b y z H' ∧ RM w ρ H' M' ∧ Grow H H' := by
  unfold dPut at e
  split at e
  · rename_i kvs ec
    obtain ⟨vs, h, i⟩ := m.at_ d b _ hb ec
    split at e
    · rename_i hz
      cases ek : key? k with
      | none => rw [ek] at e; cases e
      | some j =>
        rw [ek] at e; cases e
        rw [key_ok ik ek]
        obtain ⟨ws, e1, e2⟩ := put_ok j ix i
        have hl : ((kvs.map (·.1)).zip vs).length < sizeLine := by
          have := i.length
          simp only [List.length_zip, List.length_map] at this ⊢; omega
        have dp := DPut.k (k := j) (v := z) h hl
        rw [e1] at dp
        exact ⟨_, dp, m.set hb ec ⟨ws, upd_same, e2.mono (.refl _) (m.growSet hb ec)⟩, m.growSet hb ec⟩
    · cases e
  · rename_i kvs ec
    obtain ⟨vs, h, i⟩ := m.at_ d b _ hb ec
    split at e
    · rename_i hz
      split at e
      · rename_i xs
        cases ik with
        | tup ht it =>
          cases ek : xs.mapM key? with
          | none => rw [ek] at e; cases e
          | some j =>
            rw [ek] at e; cases e
            rw [keys_ok it ek] at ht
            obtain ⟨ws, e1, e2⟩ := put_ok j ix i
            have hl : ((kvs.map (·.1)).zip vs).length < sizeLine := by
              have := i.length
              simp only [List.length_zip, List.length_map] at this ⊢; omega
            have dp := DPut.t (k := j) (v := z) h ht hl
            rw [e1] at dp
            exact ⟨_, dp, m.set hb ec ⟨ws, upd_same, e2.mono (.refl _) (m.growSet hb ec)⟩, m.growSet hb ec⟩
      · cases e
    · cases e
  · cases e
/-- x in y: a dict's keys; flat items of a list or a tuple; data in a list -/
def oIn : O2 := fun a b M => match b with
  | .dct d => (dGet M d a).map fun o => (.bl o.isSome, M)
  | .tup xs => match flat? a, xs.mapM flat? with
    | some x, some ys => some (.bl (inV x ys), M)
    | _, _ => none
  | .lst l => match listAt M l with
    | some xs => match flat? a, xs.mapM flat? with
      | some x, some ys => some (.bl (inV x ys), M)
      | _, _ => match datS M a, datS M (.lst l) with
        | some d, some (.list ds) => some (.bl (ds.any fun z => PyData.eqv z d), M)
        | _, _ => none
    | none => none
  | _ => none
def notO (o : O2) : O2 := fun a b M => match o a b M with
  | some (.bl c, M) => some (.bl (!c), M)
  | _ => none
def oNotIn : O2 := notO oIn
theorem op_inA (hu : X.A.units + 65 < cLine) : OpR X (compareOp .In) (r2 (X.am Tb) oIn) := by
  intro pins s σ H x y v u Q I rx ry h
  obtain ⟨a, b, M, ρ, ia, ib, m, r⟩ := h
  unfold oIn at r
  split at r
  · rename_i d
    cases ib with
    | dct hb =>
      cases e : dGet M d a with
      | none => rw [e] at r; exact r.elim
      | some o =>
        rw [e] at r
        cases ry
        rcases dGet_ok m hb ia e with ⟨rfl, g⟩ | ⟨c, w, rfl, g, _⟩
        · exact d_in (by omega) I g rx fun s' I' => ⟨.bl _, H, I', rfl, r.val m (.bl _)⟩
        · exact d_in (by omega) I g rx fun s' I' => ⟨.bl _, H, I', rfl, r.val m (.bl _)⟩
  · cases ib with
    | tup hb ibs =>
      split at r
      · rename_i x' ys e1 e2
        obtain ⟨rfl, f1⟩ := flat_ok ia e1
        obtain ⟨rfl, f2⟩ := flats_ok ibs e2
        exact op_in_seq pins s σ H _ _ v u Q I rx ry ⟨_, _, rfl, .inr (.inl (.inl hb)), f1, f2, r.val m (.bl _)⟩
      · exact r.elim
  · rename_i l
    cases ib with
    | lst hb =>
      split at r
      · rename_i xs el
        obtain ⟨vs, hq, is⟩ := m.list hb el
        split at r
        · rename_i x' ys e1 e2
          obtain ⟨rfl, f1⟩ := flat_ok ia e1
          obtain ⟨rfl, f2⟩ := flats_ok is e2
          exact op_in_seq pins s σ H _ _ v u Q I rx ry ⟨_, _, rfl, .inl hq, f1, f2, r.val m (.bl _)⟩
        · split at r
          · rename_i d ds e1 e2
            obtain ⟨h1, s1⟩ := datS_ok m ia e1
            obtain ⟨h2, s2⟩ := datS_ok m (.lst hb) e2
            exact op_inD hu pins s σ H _ _ v u Q I rx ry ⟨d, ds, h1, h2, s1, s2, r.val m (.bl _)⟩
          · exact r.elim
      · exact r.elim
  · exact r.elim
theorem op_notInA (hu : X.A.units + 65 < cLine) : OpR X (compareOp .NotIn) (r2 (X.am Tb) oNotIn) := by
  intro pins s σ H x y v u Q I rx ry h
  obtain ⟨a, b, M, ρ, ia, ib, m, r⟩ := h
  unfold oNotIn notO oIn at r
  cases b with
  | dct d =>
    cases ib with
    | dct hb =>
      simp only at r
      cases e : dGet M d a with
      | none => rw [e] at r; exact r.elim
      | some o =>
        rw [e] at r
        cases ry
        rcases dGet_ok m hb ia e with ⟨rfl, g⟩ | ⟨c, w, rfl, g, _⟩
        · exact d_notIn (by omega) I g rx fun s' I' => ⟨.bl _, H, I', rfl, RO.val (ρ := ρ) (M := M) r m (.bl _)⟩
        · exact d_notIn (by omega) I g rx fun s' I' => ⟨.bl _, H, I', rfl, RO.val (ρ := ρ) (M := M) r m (.bl _)⟩
  | tup xs =>
    cases ib with
    | tup hb ibs =>
      simp only at r
      cases e1 : flat? a with
      | none => rw [e1] at r; exact r.elim
      | some x' =>
        cases e2 : xs.mapM flat? with
        | none => rw [e1, e2] at r; exact r.elim
        | some ys =>
          rw [e1, e2] at r
          obtain ⟨rfl, f1⟩ := flat_ok ia e1
          obtain ⟨rfl, f2⟩ := flats_ok ibs e2
          exact op_notIn_seq pins s σ H _ _ v u Q I rx ry ⟨_, _, rfl, .inr (.inl (.inl hb)), f1, f2, RO.val (ρ := ρ) (M := M) r m (.bl _)⟩
  | lst l =>
    cases ib with
    | lst hb =>
      simp only at r
      cases el : listAt M l with
      | none => rw [el] at r; exact r.elim
      | some xs =>
        rw [el] at r
        obtain ⟨vs, hq, is⟩ := m.list hb el
        simp only at r
        have deep : RO (X.am Tb) ρ H (match (match datS M a, datS M (.lst l) with
            | some d, some (.list ds) => some (A.bl (ds.any fun z => PyData.eqv z d), M)
            | _, _ => none) with
            | some (.bl c, M) => some (A.bl (!c), M)
            | _ => none) Q → wpAny (model X.prog X.w) X.A (compareOp .NotIn v u) (EP X pins σ Q) X.xe s := fun r => by
          cases e3 : datS M a with
          | none => rw [e3] at r; exact r.elim
          | some d =>
            cases e4 : datS M (.lst l) with
            | none => rw [e3, e4] at r; exact r.elim
            | some dl =>
              rw [e3, e4] at r
              cases dl with
              | list ds =>
                obtain ⟨h1, s1⟩ := datS_ok m ia e3
                obtain ⟨h2, s2⟩ := datS_ok m (.lst hb) e4
                exact op_notInD hu pins s σ H _ _ v u Q I rx ry ⟨d, ds, h1, h2, s1, s2, RO.val (ρ := ρ) (M := M) r m (.bl _)⟩
              | _ => exact r.elim
        cases e1 : flat? a with
        | none => rw [e1] at r; exact deep r
        | some x' =>
          cases e2 : xs.mapM flat? with
          | none => rw [e1, e2] at r; exact deep r
          | some ys =>
            rw [e1, e2] at r
            obtain ⟨rfl, f1⟩ := flat_ok ia e1
            obtain ⟨rfl, f2⟩ := flats_ok is e2
            exact op_notIn_seq pins s σ H _ _ v u Q I rx ry ⟨_, _, rfl, .inl hq, f1, f2, RO.val (ρ := ρ) (M := M) r m (.bl _)⟩
  | _ => exact r.elim
end
end AB
/-! AB3: tests, statements, loops, comprehensions, calls -/
namespace AB
open PySem PySem.Spec PyProof.Rows L2
/-! ### comparisons, tests, and | or | not -/
section
variable {X : Cx} {W : WR} {pos : Pos} {a b c : Expr} {f g h : EF} {rest : List Expr}
theorem ae_cmp {op : CmpOp} {o : O2} (ho : OpR X (compareOp op) (r2 (X.am W.Tb) o)) (ha : AE X W a f) (hb : AE X W b g) (hm : behindInMarks op b = false := by with_unfolding_all rfl) : AE X W (.Compare a [op] [b] pos) (eOp o f g) :=
  (pe_cmpR ho ha hb hm).pre fun _ _ _ h => op_tK h
/-- a bool's value as a test -/
def eB (f : EF) : EFb := fun τ M => (f τ M).bind fun a M1 => match a with
  | .bl k => .ok k M1
  | _ => .bad
theorem bool_tK {f : EF} {σ : L2.St} {H : Hp} {Q : Bool → Hp → Prop} {G : Gx} (h : tG G W relB (eB f) σ H Q) : tG G W Is f σ H fun x H' => ∃ k, x = .bl k ∧ Q k H' := by
  refine (seqG Is h).imp fun x H1 h1 => ?_
  obtain ⟨τ, M, ρ, a, rs, rm, i, r⟩ := h1
  cases a with
  | bl k => cases i; exact ⟨k, rfl, r.okv (.refl _) (.refl _) rm rfl⟩
  | _ => exact r.elim
theorem at_cmp {op : CmpOp} {o : O2} (ho : OpR X (compareOp op) (r2 (X.am W.Tb) o)) (ha : AE X W a f) (hb : AE X W b g) (hm : behindInMarks op b = false := by with_unfolding_all rfl) : AT X W (.Compare a [op] [b] pos) (eB (eOp o f g)) :=
  (pt_cmpR ho ha hb hm).pre fun σ H Q h => by
    have h' := bool_tK h
    exact op_tK h'
def chainK (o' : O2) (h : EF) (τ : Sl) (b k : A) (M3 : Store) : EO A := match k with
  | .bl true => (h τ M3).bind fun c M4 => toE (o' b c M4)
  | .bl false => .ok (.bl false) M3
  | _ => .bad
def eChain (o o' : O2) (f g h : EF) : EF := fun τ M => (f τ M).bind fun a M1 => (g τ M1).bind fun b M2 => (toE (o a b M2)).bind (chainK o' h τ b)
theorem chain_tK {o o' : O2} {σ : L2.St} {H : Hp} {Q : VK} {G : Gx} (h' : tG G W Is (eChain o o' f g h) σ H Q) :
    tG G W Is f σ H fun x H1 => tG G W Is g σ H1 fun y H2 => r2 G.w o x y H2 fun z H3 => ∃ k, z = .bl k ∧ (if k = true then tG G W Is h σ H3 fun w' H4 => r2 G.w o' y w' H4 Q else Q (.bl false) H3) := by
  refine (seqG Is h').imp fun x H1 h1 => ?_
  refine (seqK Is Is.ext Is h1).imp fun y H2 h2 => ?_
  obtain ⟨τ, M, ρ, a, b, rs, rm, i, j, r⟩ := h2
  refine ⟨a, b, M, ρ, i, j, rm, ?_⟩
  cases e : o a b M with
  | none => rw [e] at r; exact r
  | some p =>
    obtain ⟨k, M3⟩ := p
    rw [e] at r
    refine fun z H3 ρ3 x3 g3 m3 i3 => ?_
    have r : RE G W σ ρ H2 Is (chainK o' h τ b k M3) Q := r
    cases k with
    | bl k =>
      cases i3
      refine ⟨k, rfl, ?_⟩
      cases k with
      | true =>
        rw [if_pos rfl]
        have r3 := r.mono x3 g3
        refine ⟨τ, M3, ρ3, rs.mono x3 g3, m3, ?_⟩
        have r3 : RE G W σ ρ3 H3 Is ((h τ M3).bind fun c M4 => toE (o' b c M4)) Q := r3
        cases e4 : h τ M3 with
        | ok c M4 =>
          rw [e4] at r3
          exact fun w' H4 ρ4 x4 g4 m4 i4 => ⟨b, c, M4, ρ4, (j.mono x3 g3).mono x4 g4, i4, m4, RO.of (RE.mono r3 x4 g4)⟩
        | ex en M4 => rw [e4] at r3; exact r3
        | bad => rw [e4] at r3; exact r3
      | false =>
        rw [if_neg Bool.false_ne_true]
        exact r.okv x3 g3 m3 (.bl false)
    | _ => exact r.elim
theorem ae_chain {op op' : CmpOp} {o o' : O2} (ho : OpR X (compareOp op) (r2 (X.am W.Tb) o)) (ho' : OpR X (compareOp op') (r2 (X.am W.Tb) o')) (ha : AE X W a f) (hb : AE X W b g) (hc : AE X W c h)
    (hm : lastMarks [op, op'] [b, c] = false := by with_unfolding_all rfl) : AE X W (.Compare a [op, op'] [b, c] pos) (eChain o o' f g h) := (pe_chain ho ho' ha hb hc hm).pre fun _ _ _ h => chain_tK h
theorem at_chain {op op' : CmpOp} {o o' : O2} (ho : OpR X (compareOp op) (r2 (X.am W.Tb) o)) (ho' : OpR X (compareOp op') (r2 (X.am W.Tb) o')) (ha : AE X W a f) (hb : AE X W b g) (hc : AE X W c h)
    (hm : lastMarks [op, op'] [b, c] = false := by with_unfolding_all rfl) : AT X W (.Compare a [op, op'] [b, c] pos) (eB (eChain o o' f g h)) := (pt_chain ho ho' ha hb hc hm).pre fun _ _ _ h => chain_tK (bool_tK h)
/-- truth -/
def truA (M : Store) : A → Option Bool
  | .non => some false
  | .bl b => some b
  | .int i => some (i != 0)
  | .str x => if x.length ≤ sizeLine then some ((x.length : Int) != 0) else none
  | .tup xs => some (!xs.isEmpty)
  | .lst l => (listAt M l).map fun xs => !xs.isEmpty
  | .dct d => match M[d]? with
    | some (.dK kvs) => some (!kvs.isEmpty)
    | _ => none
  | .ty _ => none
  | .obj _ => none
  | .rng _ _ => none
theorem isEmpty_all {ρ : List Addr} {H : Hp} {ts : List A} {vs : List V} (r : IsAll ρ H ts vs) : vs.isEmpty = ts.isEmpty := by cases r <;> rfl
theorem truA_ok {ρ : List Addr} {H : Hp} {M : Store} (m : RM w ρ H M) {a : A} {v : V} {k : Bool} (i : Is ρ H a v) (e : truA M a = some k) : TruV w.K v H k := by
  cases i with
  | non => cases e; rfl
  | bl b => cases e; rfl
  | int i => cases e; rfl
  | str x =>
    simp only [truA] at e
    split at e
    · rename_i hz; cases e; exact ⟨hz, rfl⟩
    · cases e
  | tup h r => cases e; exact .inr (.inl ⟨_, .inl (.inl h), by rw [isEmpty_all r]⟩)
  | lst h =>
    simp only [truA] at e
    cases e1 : listAt M _ with
    | none => rw [e1] at e; cases e
    | some xs =>
      rw [e1] at e; cases e
      obtain ⟨vs, q, r⟩ := m.list h e1
      exact .inl ⟨vs, q, by rw [isEmpty_all r]⟩
  | dct h =>
    simp only [truA] at e
    split at e
    · rename_i kvs e1
      cases e
      obtain ⟨vs, q, r⟩ := m.at_ _ _ _ h e1
      refine .inr (.inr ⟨_, q, ?_⟩)
      cases kvs with
      | nil => cases r; rfl
      | cons p kvs => cases r; rfl
    · cases e
  | ty n => simp only [truA] at e; cases e
  | obj h => simp only [truA] at e; cases e
  | rng h => simp only [truA] at e; cases e
def eT (f : EF) : EFb := fun τ M => (f τ M).bind fun a M1 => match truA M1 a with
  | some k => .ok k M1
  | none => .bad
theorem at_val (ha : AE X W a f) (he : ∀ whole, isTrue a X.env whole = (do let v ← whole; standAt a.pos; holding [v] (truthy v)) := by intro _; rfl) : AT X W a (eT f) :=
  (pt_truth ha he).pre fun σ H Q h => by
    refine (seqG Is h).imp fun x H1 h1 => ?_
    obtain ⟨τ, M, ρ, a, rs, rm, i, r⟩ := h1
    dsimp only at r
    cases e : truA M a with
    | none => rw [e] at r; exact r.elim
    | some k => rw [e] at r; exact ⟨k, truA_ok rm i e, r.okv (.refl _) (.refl _) rm rfl⟩
def bAnd (f g : EFb) : EFb := fun τ M => (f τ M).bind fun k M1 => if k = true then g τ M1 else .ok false M1
def bOr (f g : EFb) : EFb := fun τ M => (f τ M).bind fun k M1 => if k = true then .ok true M1 else g τ M1
def bNot (f : EFb) : EFb := fun τ M => (f τ M).bind fun k M1 => .ok (!k) M1
variable {fb gb : EFb}
def AW (X : Cx) (W : WR) (e : Expr) (f : EFb) : Prop := PW X e (tG (X.gx W.Tb) W relB f)
theorem _root_.L2.PW.pre {X : Cx} {e : Expr} {t t' : TT} (h : PW X e t) (w : ∀ σ H Q, t' σ H Q → t σ H Q) : PW X e t' := ⟨fun wh pins s σ H Q I q => h.run wh pins s σ H Q I (w σ H Q q)⟩
theorem AW.at (h : AW X W a fb) : AT X W a fb := PW.pt h
theorem aw_and1 (ha : AT X W a fb) : AW X W (.BoolOp .And [a] pos) fb := pw_and1 ha
theorem aw_or1 (ha : AT X W a fb) : AW X W (.BoolOp .Or [a] pos) fb := pw_or1 ha
theorem and_tK {σ : L2.St} {H : Hp} {Q : Bool → Hp → Prop} {G : Gx} (h : tG G W relB (bAnd fb gb) σ H Q) : tG G W relB fb σ H fun c H1 => if c = true then tG G W relB gb σ H1 Q else Q false H1 := by
  refine (seqG relB h).imp fun x H1 h1 => ?_
  obtain ⟨τ, M, ρ, k, rs, rm, i, r⟩ := h1
  have i : k = x := i
  subst i
  have r : RE G W σ ρ H1 relB (if k = true then gb τ M else .ok false M) Q := r
  cases k with
  | true => exact ⟨τ, M, ρ, rs, rm, r⟩
  | false => exact r.okv (.refl _) (.refl _) rm rfl
theorem or_tK {σ : L2.St} {H : Hp} {Q : Bool → Hp → Prop} {G : Gx} (h : tG G W relB (bOr fb gb) σ H Q) : tG G W relB fb σ H fun c H1 => if c = true then Q true H1 else tG G W relB gb σ H1 Q := by
  refine (seqG relB h).imp fun x H1 h1 => ?_
  obtain ⟨τ, M, ρ, k, rs, rm, i, r⟩ := h1
  have i : k = x := i
  subst i
  have r : RE G W σ ρ H1 relB (if k = true then .ok true M else gb τ M) Q := r
  cases k with
  | true => exact r.okv (.refl _) (.refl _) rm rfl
  | false => exact ⟨τ, M, ρ, rs, rm, r⟩
theorem aw_and (ha : AT X W a fb) (hb : AW X W (.BoolOp .And (b :: rest) pos) gb) : AW X W (.BoolOp .And (a :: b :: rest) pos) (bAnd fb gb) := (pw_and ha hb).pre fun _ _ _ h => and_tK h
theorem aw_or (ha : AT X W a fb) (hb : AW X W (.BoolOp .Or (b :: rest) pos) gb) : AW X W (.BoolOp .Or (a :: b :: rest) pos) (bOr fb gb) := (pw_or ha hb).pre fun _ _ _ h => or_tK h
theorem at_not (ha : AT X W a fb) : AT X W (.UnaryOp .Not a pos) (bNot fb) := (pt_not ha).pre fun σ H Q h => by
  refine (seqG relB h).imp fun x H1 h1 => ?_
  obtain ⟨τ, M, ρ, k, rs, rm, i, r⟩ := h1
  have i : k = x := i
  subst i
  exact r.okv (.refl _) (.refl _) rm rfl
/-- .. as values; bools alone ahead -/
def eAnd (f g : EF) : EF := fun τ M => (f τ M).bind fun a M1 => match a with
  | .bl true => g τ M1
  | .bl false => .ok (.bl false) M1
  | _ => .bad
def eOr (f g : EF) : EF := fun τ M => (f τ M).bind fun a M1 => match a with
  | .bl true => .ok (.bl true) M1
  | .bl false => g τ M1
  | _ => .bad
def eNot (f : EF) : EF := fun τ M => (f τ M).bind fun a M1 => match a with
  | .bl k => .ok (.bl (!k)) M1
  | _ => .bad
theorem ae_one {op} (h : AE X W a f) : AE X W (.BoolOp op [a] pos) f := pe_one h
theorem ae_and (ha : AE X W a f) (hb : AE X W (.BoolOp .And (b :: rest) pos) g) : AE X W (.BoolOp .And (a :: b :: rest) pos) (eAnd f g) := (pe_and ha hb).pre fun σ H Q h => by
  refine (seqG Is h).imp fun x H1 h1 => ?_
  obtain ⟨τ, M, ρ, a, rs, rm, i, r⟩ := h1
  cases a with
  | bl k =>
    cases i
    cases k with
    | true => exact ⟨true, rfl, ⟨τ, M, ρ, rs, rm, r⟩⟩
    | false => exact ⟨false, rfl, r.okv (.refl _) (.refl _) rm (.bl false)⟩
  | _ => exact r.elim
theorem ae_or (ha : AE X W a f) (hb : AE X W (.BoolOp .Or (b :: rest) pos) g) : AE X W (.BoolOp .Or (a :: b :: rest) pos) (eOr f g) := (pe_or ha hb).pre fun σ H Q h => by
  refine (seqG Is h).imp fun x H1 h1 => ?_
  obtain ⟨τ, M, ρ, a, rs, rm, i, r⟩ := h1
  cases a with
  | bl k =>
    cases i
    cases k with
    | true => exact ⟨true, rfl, r.okv (.refl _) (.refl _) rm (.bl true)⟩
    | false => exact ⟨false, rfl, ⟨τ, M, ρ, rs, rm, r⟩⟩
  | _ => exact r.elim
theorem ae_not (ha : AE X W a f) : AE X W (.UnaryOp .Not a pos) (eNot f) := (pe_not ha).pre fun σ H Q h => by
  refine (seqG Is h).imp fun x H1 h1 => ?_
  obtain ⟨τ, M, ρ, a, rs, rm, i, r⟩ := h1
  cases a with
  | bl k => cases i; exact ⟨k, rfl, r.okv (.refl _) (.refl _) rm (.bl _)⟩
  | _ => exact r.elim
def eIf (t : EFb) (f g : EF) : EF := fun τ M => (t τ M).bind fun k M1 => if k = true then f τ M1 else g τ M1
theorem ae_if (hc : AT X W c fb) (ha : AE X W a f) (hb : AE X W b g) : AE X W (.IfExp c a b pos) (eIf fb f g) := (pe_ifExp hc ha hb).pre fun σ H Q h => by
  refine (seqG relB h).imp fun x H1 h1 => ?_
  obtain ⟨τ, M, ρ, k, rs, rm, i, r⟩ := h1
  have i : k = x := i
  subst i
  have r : RE (X.gx W.Tb) W σ ρ H1 Is (if k = true then f τ M else g τ M) Q := r
  cases k with
  | true => exact ⟨τ, M, ρ, rs, rm, r⟩
  | false => exact ⟨τ, M, ρ, rs, rm, r⟩
/-! ### displays -/
def eTup (f : EFs) : EF := fun τ M => (f τ M).bind fun as M1 => if as.length ≤ sizeLine then .ok (.tup as) M1 else .bad
def eLst (f : EFs) : EF := fun τ M => (f τ M).bind fun as M1 => if as.length ≤ sizeLine then .ok (.lst M1.length) (M1 ++ [.lst as]) else .bad
variable {es : List Expr} {fs : EFs}
theorem ae_tup {x1} (h : AA X W es fs) : AE X W (.Tuple es x1 pos) (eTup fs) := (pe_tup h).pre fun σ H Q h => by
  refine (seqG IsAll h).imp fun x H1 h1 => ?_
  obtain ⟨τ, M, ρ, as, rs, rm, i, r⟩ := h1
  have r : RE (X.gx W.Tb) W σ ρ H1 Is (if as.length ≤ sizeLine then .ok (.tup as) M else .bad) Q := r
  split at r
  · rename_i hz
    refine ⟨by rw [← i.length]; exact hz, fun p hp => ?_⟩
    exact r.okv (.refl _) (.new hp) (rm.new hp) (.tup upd_same (i.mono (.refl _) (.new hp)))
  · exact r.elim
theorem ae_lst (h : AA X W es fs) : AE X W (.List es pos) (eLst fs) := (pe_lst h).pre fun σ H Q h => by
  refine (seqG IsAll h).imp fun x H1 h1 => ?_
  obtain ⟨τ, M, ρ, as, rs, rm, i, r⟩ := h1
  have r : RE (X.gx W.Tb) W σ ρ H1 Is (if as.length ≤ sizeLine then .ok (.lst M.length) (M ++ [.lst as]) else .bad) Q := r
  split at r
  · rename_i hz
    refine ⟨by rw [← i.length]; exact hz, fun p hp => ?_⟩
    exact r.okv (.snoc _ p) (.new hp) (rm.push hp ⟨x, upd_same, i.mono (.snoc _ _) (.new hp)⟩) (.lst (by rw [← rm.len]; simp))
  · exact r.elim
def eNewK : EF := fun _ M => .ok (.dct M.length) (M ++ [.dK []])
def eNewT : EF := fun _ M => .ok (.dct M.length) (M ++ [.dT []])
theorem ae_newK : AE X W (.Dict [] [] pos) eNewK := pe_dnewK.pre fun σ H Q h => by
  obtain ⟨τ, M, ρ, rs, rm, r⟩ := h
  exact fun p hp => r.okv (.snoc _ p) (.new hp) (rm.push hp ⟨[], upd_same, .nil⟩) (.dct (by rw [← rm.len]; simp))
theorem ae_newT : AE X W (.Dict [] [] pos) eNewT := pe_dnewT.pre fun σ H Q h => by
  obtain ⟨τ, M, ρ, rs, rm, r⟩ := h
  exact fun p hp => r.okv (.snoc _ p) (.new hp) (rm.push hp ⟨[], upd_same, .nil⟩) (.dct (by rw [← rm.len]; simp))
end
/-! ### items, slices -/
section
variable {X : Cx} {W : WR} {pos : Pos} {a b : Expr} {f g : EF}
def oIx : O2 := fun x i M => match x, i with
  | .tup xs, .int i => (atI xs i).map (·, M)
  | .lst l, .int i => (listAt M l).bind fun xs => (atI xs i).map (·, M)
  | _, _ => none
theorem IsAll.atI {ρ : List Addr} {H : Hp} {ts : List A} {vs : List V} (r : IsAll ρ H ts vs) {i : Int} {a : A} (e : L2.atI ts i = some a) : ∃ v, L2.atI vs i = some v ∧ Is ρ H a v := by
  unfold L2.atI at e ⊢
  rw [← r.length]
  cases e1 : ixN ts.length i with
  | none => rw [e1] at e; cases e
  | some j =>
    rw [e1] at e
    obtain ⟨v, h1, h2⟩ := r.get e
    exact ⟨v, h1, h2⟩
theorem ix_A : IxR X (r2 (X.am W.Tb) oIx) := by
  intro value slice pins s σ H x y v u Q I rx ry h hs
  obtain ⟨a, b, M, ρ, ia, ib, m, r⟩ := h
  unfold oIx at r
  split at r
  · rename_i xs i
    cases ib
    cases ia with
    | tup ha qa =>
      cases e : atI xs i with
      | none => rw [e] at r; exact r.elim
      | some t =>
        rw [e] at r
        obtain ⟨w, h1, h2⟩ := qa.atI e
        exact ix_tup value slice pins s σ H _ _ v u Q I rx ry ⟨_, _, _, _, rfl, rfl, .inl (.inl ha), h1, RO.val (ρ := ρ) (M := M) r m h2⟩ hs
  · rename_i l i
    cases ib
    cases ia with
    | lst ha =>
      cases e1 : listAt M l with
      | none => rw [e1] at r; exact r.elim
      | some xs =>
        rw [e1] at r
        obtain ⟨vs, hq, is⟩ := m.list ha e1
        rw [Option.bind_some] at r
        cases e : atI xs i with
        | none => rw [e] at r; exact r.elim
        | some t =>
          rw [e] at r
          obtain ⟨w, h1, h2⟩ := is.atI e
          exact ix_list value slice pins s σ H _ _ v u Q I rx ry ⟨_, _, _, _, rfl, rfl, hq, h1, RO.val (ρ := ρ) (M := M) r m h2⟩ hs
  · exact r.elim
theorem ae_ix (ha : AE X W a f) (hb : AE X W b g) (hs : PlainIx b := by intro _ _; rfl) : AE X W (.Subscript a b pos) (eOp oIx f g) := (pe_ix ix_A ha hb hs).pre fun _ _ _ h => op_tK h
def oDget : O2 := fun x k M => match x with
  | .dct d => match dGet M d k with
    | some (some a) => some (a, M)
    | _ => none
  | _ => none
theorem ae_dget (hu : X.A.units + 1 < cLine) (ha : AE X W a f) (hb : AE X W b g) (hs : NoSl b := by intro _ _; rfl) : AE X W (.Subscript a b pos) (eOp oDget f g) := (pe_dget hu ha hb hs).pre fun σ H Q h => by
  refine (op_tK h).imp fun x H1 h1 => h1.imp fun y H2 h2 => ?_
  obtain ⟨a, b, M, ρ, ia, ib, m, r⟩ := h2
  unfold oDget at r
  split at r
  · rename_i d
    cases ia with
    | dct hd =>
      split at r
      · rename_i c e
        rcases dGet_ok m hd ib e with ⟨z, _⟩ | ⟨c', v, ec, gg, iv⟩
        · cases z
        · cases ec
          exact ⟨_, _, rfl, gg, r.val m iv⟩
      · exact r.elim
  · exact r.elim
/-- a part of a slice -/
def ePart (f : EF) : Sl → Store → EO (Option Int) := fun τ M => (f τ M).bind fun a M1 => match a with
  | .int i => .ok (some i) M1
  | _ => .bad
def eNoPart : Sl → Store → EO (Option Int) := fun _ M => .ok none M
abbrev relP : Rel (Option Int) (Option Int) := fun _ _ a b => a = b
def AP (X : Cx) (W : WR) (e : Option Expr) (f : Sl → Store → EO (Option Int)) : Prop := PO X e (fun σ H Q => tG (X.gx W.Tb) W relP f σ H Q)
theorem ap_none : AP X W none eNoPart := ⟨fun pins s σ H Q I h => by
  obtain ⟨τ, M, ρ, rs, rm, r⟩ := h
  exact po_none.run pins s σ H Q I (r.okv (.refl _) (.refl _) rm rfl)⟩
theorem ap_some (h : AE X W a f) : AP X W (some a) (ePart f) := ⟨fun pins s σ H Q I h' => (po_some h).run pins s σ H Q I (by
  refine (seqG Is h').imp fun x H1 h1 => ?_
  obtain ⟨τ, M, ρ, a, rs, rm, i, r⟩ := h1
  cases a with
  | int k => cases i; exact ⟨k, rfl, r.okv (.refl _) (.refl _) rm rfl⟩
  | _ => exact r.elim)⟩
theorem IsAll.cut {ρ : List Addr} {H : Hp} {ts : List A} {vs : List V} (r : IsAll ρ H ts vs) (lo hi : Option Int) : IsAll ρ H ((ts.drop (HT.sIx ts.length 0 lo)).take (HT.sIx ts.length ts.length hi - HT.sIx ts.length 0 lo)) (cutV vs lo hi) := by
  unfold cutV
  rw [← r.length]
  exact (r.drop _).take _
def cutA (xs : List A) (lo hi : Option Int) : List A := (xs.drop (HT.sIx xs.length 0 lo)).take (HT.sIx xs.length xs.length hi - HT.sIx xs.length 0 lo)
def oSl (x : A) (lo hi : Option Int) (M : Store) : Option (A × Store) := match x with
  | .tup xs => some (.tup (cutA xs lo hi), M)
  | .lst l => (listAt M l).map fun xs => (.lst M.length, M ++ [.lst (cutA xs lo hi)])
  | .str z => if z.length ≤ sizeLine then some (.str (cutS z lo hi), M) else none
  | _ => none
def eSl (f : EF) (p q : Sl → Store → EO (Option Int)) : EF := fun τ M => (f τ M).bind fun a M1 => (p τ M1).bind fun lo M2 => (q τ M2).bind fun hi M3 => toE (oSl a lo hi M3)
def rSl (w : Amb) (x : V) (lo hi : Option Int) (H : Hp) (Q : VK) : Prop := ∃ a M ρ, Is ρ H a x ∧ RM w ρ H M ∧ RO w ρ H (oSl a lo hi M) Q
theorem cutA_all {xs : List A} {lo hi : Option Int} (h : HT.sIx xs.length 0 lo = 0 ∧ HT.sIx xs.length xs.length hi = xs.length) : cutA xs lo hi = xs := by
  unfold cutA
  rw [h.1, h.2]
  simp
theorem sl_A : SlR X (rSl (X.am W.Tb)) := by
  intro pins s σ H x v vl vu lo hi sl Q I rx hs pl pu h
  obtain ⟨a, M, ρ, ia, m, r⟩ := h
  unfold oSl at r
  cases a with
  | tup xs =>
    cases ia with
    | tup ha qa =>
      refine sl_tupA pins s σ H _ v vl vu lo hi sl Q I rx hs pl pu ⟨_, _, rfl, .inl (.inl ha), fun hw => ?_, fun hw p hp => ?_⟩
      · rw [← qa.length] at hw
        have r : RO (X.am W.Tb) ρ H (some (.tup (cutA xs lo hi), M)) Q := r
        rw [cutA_all hw] at r
        exact r.val m (.tup ha qa)
      · exact RO.newT (M := M) r m (qa.cut lo hi) hp
  | lst l =>
    cases ia with
    | lst ha =>
      simp only at r
      cases e1 : listAt M l with
      | none => rw [e1] at r; exact r.elim
      | some xs =>
        rw [e1] at r
        obtain ⟨vs, hq, is⟩ := m.list ha e1
        exact sl_list pins s σ H _ v vl vu lo hi sl Q I rx hs pl pu ⟨_, _, rfl, hq, fun p hp => RO.newL (M := M) r m (is.cut lo hi) hp⟩
  | str z =>
    cases ia
    simp only at r
    split at r
    · rename_i hz
      exact sl_str pins s σ H _ v vl vu lo hi sl Q I rx hs pl pu ⟨z, rfl, hz, r.val m (.str _)⟩
    · exact r.elim
  | _ => exact r.elim
theorem ae_sl {p2 : Pos} {lo hi : Option Expr} {p q : Sl → Store → EO (Option Int)} (ha : AE X W a f) (hl : AP X W lo p) (hh : AP X W hi q) : AE X W (.Subscript a (.Slice lo hi none p2) pos) (eSl f p q) := (pe_slice sl_A ha hl hh).pre fun σ H Q h => by
  refine (seqG Is h).imp fun x H1 h1 => ?_
  refine (seqK Is Is.ext relP h1).imp fun y H2 h2 => ?_
  obtain ⟨τ, M, ρ, a, lo', rs, rm, i, j, r⟩ := h2
  subst j
  refine ⟨τ, M, ρ, rs, rm, ?_⟩
  cases e : q τ M with
  | ok hi' M3 =>
    rw [e] at r
    exact fun u H3 ρ3 x3 g3 m3 i3 => by
      have i3 : hi' = u := i3
      subst i3
      exact ⟨a, M3, ρ3, i.mono x3 g3, m3, RO.of (RE.mono (o := toE (oSl a lo' hi' M3)) r x3 g3)⟩
  | ex en M3 => rw [e] at r; exact r
  | bad => rw [e] at r; exact r
end
end AB
/-! AB4: statements, loops, comprehensions, calls -/
namespace AB
open PySem PySem.Spec PyProof.Rows L2
inductive SO where
  | nx (τ : Sl) (M : Store) | rt (a : A) (M : Store) | bk (τ : Sl) (M : Store) | ct (τ : Sl) (M : Store) | ex (e : Exn) (τ : Sl) (M : Store) | bad
abbrev SF := Sl → Store → SO
def EO.bindS {α : Type} (x : EO α) (τ : Sl) (k : α → Store → SO) : SO := match x with
  | .ok a M => k a M
  | .ex e M => .ex e τ M
  | .bad => .bad
def RSO (G : Gx) (W : WR) (D : Ends) (ρ : List Addr) (H : Hp) : SO → Prop
  | .nx τ M => ∀ σ' H' ρ', Ext ρ ρ' → Grow H H' → RM G.w ρ' H' M → RS W ρ' H' τ σ' → D.nx σ' H'
  | .rt a M => ∀ v H' ρ', Ext ρ ρ' → Grow H H' → RM G.w ρ' H' M → Is ρ' H' a v → D.rt v H'
  | .bk τ M => ∀ σ' H' ρ', Ext ρ ρ' → Grow H H' → RM G.w ρ' H' M → RS W ρ' H' τ σ' → D.bk σ' H'
  | .ct τ M => ∀ σ' H' ρ', Ext ρ ρ' → Grow H H' → RM G.w ρ' H' M → RS W ρ' H' τ σ' → D.ct σ' H'
  | .ex e τ M => ∀ cls d σ' H' ρ', Ext ρ ρ' → Grow H H' → RM G.w ρ' H' M → RS W ρ' H' τ σ' → RX G.mg ρ' H' e cls d → W cls d σ' H'
  | .bad => False
section
variable {G : Gx} {W : WR} {D D' : Ends} {ρ ρ' : List Addr} {H H' : Hp} {o : SO}
theorem RSO.mono (r : RSO G W D ρ H o) (x : Ext ρ ρ') (g : Grow H H') : RSO G W D ρ' H' o := by
  cases o with
  | nx τ M => exact fun s h p x2 g2 => r s h p (x.trans x2) (g.trans g2)
  | rt a M => exact fun s h p x2 g2 => r s h p (x.trans x2) (g.trans g2)
  | bk τ M => exact fun s h p x2 g2 => r s h p (x.trans x2) (g.trans g2)
  | ct τ M => exact fun s h p x2 g2 => r s h p (x.trans x2) (g.trans g2)
  | ex e τ M => exact fun c d s h p x2 g2 => r c d s h p (x.trans x2) (g.trans g2)
  | bad => exact r
end
def tS (G : Gx) (W : WR) (f : SF) : TS := fun D σ H => ∃ τ M ρ, RS W ρ H τ σ ∧ RM G.w ρ H M ∧ RSO G W D ρ H (f τ M)
def AS (X : Cx) (W : WR) (st : Stmt) (f : SF) : Prop := PS X st (tS (X.gx W.Tb) W f)
def ASs (X : Cx) (W : WR) (st : List Stmt) (f : SF) : Prop := PSs X st (tS (X.gx W.Tb) W f)
/-- from an expression's reading -/
theorem bindS_tK {α β : Type} {G : Gx} {W : WR} {D : Ends} {σ : L2.St} {H : Hp} (rel : Rel α β) {f : Sl → Store → EO α} {k : Sl → α → Store → SO} (h : tS G W (fun τ M => (f τ M).bindS τ (k τ)) D σ H) :
    tG G W rel f σ H (fun b H1 => ∃ τ M ρ a, RS W ρ H1 τ σ ∧ RM G.w ρ H1 M ∧ rel ρ H1 a b ∧ RSO G W D ρ H1 (k τ a M)) := by
  obtain ⟨τ, M, ρ, rs, rm, r⟩ := h
  refine ⟨τ, M, ρ, rs, rm, ?_⟩
  dsimp only at r
  cases e : f τ M with
  | ok a M1 => rw [e] at r; exact fun b H1 ρ1 x g m i => ⟨τ, M1, ρ1, a, rs.mono x g, m, i, RSO.mono r x g⟩
  | ex en M1 => rw [e] at r; exact fun c d H1 ρ1 x g m i => r c d σ H1 ρ1 x g m (rs.mono x g) i
  | bad => rw [e] at r; exact r
section
variable {X : Cx} {W : WR} {pos : Pos} {st : Stmt} {rest : List Stmt} {e : Expr} {f : EF} {s t : SF}
def sNil : SF := fun τ M => .nx τ M
def sSeq (s t : SF) : SF := fun τ M => match s τ M with
  | .nx τ1 M1 => t τ1 M1
  | o => o
theorem ass_nil : ASs X W [] sNil := pss_nil.pre fun D σ H h => by
  obtain ⟨τ, M, ρ, rs, rm, r⟩ := h
  exact r _ _ ρ (.refl _) (.refl _) rm rs
theorem ass_cons (h1 : AS X W st s) (h2 : ASs X W rest t) : ASs X W (st :: rest) (sSeq s t) := (pss_cons h1 h2).pre fun D σ H h => by
  obtain ⟨τ, M, ρ, rs, rm, r⟩ := h
  refine ⟨τ, M, ρ, rs, rm, ?_⟩
  unfold sSeq at r
  cases e : s τ M with
  | nx τ1 M1 => rw [e] at r; exact fun σ1 H1 ρ1 x g m i => ⟨τ1, M1, ρ1, i, m, RSO.mono r x g⟩
  | rt a M1 => rw [e] at r; exact r
  | bk a M1 => rw [e] at r; exact r
  | ct a M1 => rw [e] at r; exact r
  | ex e a M1 => rw [e] at r; exact r
  | bad => rw [e] at r; exact r
theorem ass_one (h1 : AS X W st s) : ASs X W [st] s := pss_one h1
theorem as_pass : AS X W (.Pass pos) sNil := ps_pass.pre fun D σ H h => by
  obtain ⟨τ, M, ρ, rs, rm, r⟩ := h
  exact r _ _ ρ (.refl _) (.refl _) rm rs
theorem as_brk : AS X W (.Break pos) (fun τ M => .bk τ M) := ps_break.pre fun D σ H h => by
  obtain ⟨τ, M, ρ, rs, rm, r⟩ := h
  exact r _ _ ρ (.refl _) (.refl _) rm rs
theorem as_cont : AS X W (.Continue pos) (fun τ M => .ct τ M) := ps_continue.pre fun D σ H h => by
  obtain ⟨τ, M, ρ, rs, rm, r⟩ := h
  exact r _ _ ρ (.refl _) (.refl _) rm rs
def sExpr (f : EF) : SF := fun τ M => (f τ M).bindS τ fun _ M1 => .nx τ M1
theorem as_expr (he : AE X W e f) (hs : swapsWith e none pos.line X.env = pure false := by rfl) : AS X W (.Expr e pos) (sExpr f) := (ps_expr he hs).pre fun D σ H h => (bindS_tK Is h).imp fun b H1 h1 => by
  obtain ⟨τ, M, ρ, a, rs, rm, i, r⟩ := h1
  exact r _ _ ρ (.refl _) (.refl _) rm rs
def sRet (f : EF) : SF := fun τ M => (f τ M).bindS τ fun a M1 => .rt a M1
theorem as_ret (he : AE X W e f) : AS X W (.Return (some e) pos) (sRet f) := (ps_ret he).pre fun D σ H h => (bindS_tK Is h).imp fun b H1 h1 => by
  obtain ⟨τ, M, ρ, a, rs, rm, i, r⟩ := h1
  exact r _ _ ρ (.refl _) (.refl _) rm i
def sRetN : SF := fun _ M => .rt .non M
theorem as_retN : AS X W (.Return none pos) sRetN := ps_retN.pre fun D σ H h => by
  obtain ⟨τ, M, ρ, rs, rm, r⟩ := h
  exact r _ _ ρ (.refl _) (.refl _) rm .non
def sIf (c : EFb) (s t : SF) : SF := fun τ M => (c τ M).bindS τ fun k M1 => if k = true then s τ M1 else t τ M1
theorem as_if {c : Expr} {fc : EFb} {a b : List Stmt} (hc : AT X W c fc) (ha : ASs X W a s) (hb : ASs X W b t) : AS X W (.If c a b pos) (sIf fc s t) := (ps_if hc ha hb).pre fun D σ H h => (bindS_tK relB h).imp fun b H1 h1 => by
  obtain ⟨τ, M, ρ, k, rs, rm, i, r⟩ := h1
  have i : k = b := i
  subst i
  have r : RSO (X.gx W.Tb) W D ρ H1 (if k = true then s τ M else t τ M) := r
  cases k with
  | true => exact ⟨τ, M, ρ, rs, rm, r⟩
  | false => exact ⟨τ, M, ρ, rs, rm, r⟩
/-- code that the proof never comes to -/
def sBad : SF := fun _ _ => .bad
theorem as_never : AS X W st sBad := ps_never.pre fun D σ H h => by
  obtain ⟨τ, M, ρ, rs, rm, r⟩ := h
  exact r
theorem ass_never {sts : List Stmt} : ASs X W sts sBad := pss_never.pre fun D σ H h => by
  obtain ⟨τ, M, ρ, rs, rm, r⟩ := h
  exact r
/-! ### targets -/
/-- a target of names: one, or a tuple of targets -/
inductive Tgt where
  | nm (i : Nat) | tp (ts : List Tgt)
def setN (a : A) (i : Nat) (τ : Sl) : Sl := τ.set i (some a)
mutual
def Tgt.set : Tgt → A → Sl → Option Sl
  | .nm i, a, τ => some (τ.set i (some a))
  | .tp ts, .tup as, τ => Tgt.sets ts as τ
  | .tp _, _, _ => none
def Tgt.sets : List Tgt → List A → Sl → Option Sl
  | [], [], τ => some τ
  | t :: ts, a :: as, τ => (Tgt.set t a τ).bind fun τ1 => Tgt.sets ts as τ1
  | [], _ :: _, _ => none
  | _ :: _, [], _ => none
def Tgt.own : Tgt → List Nat
  | .nm i => [i]
  | .tp ts => Tgt.owns ts
def Tgt.owns : List Tgt → List Nat
  | [] => []
  | t :: ts => Tgt.own t ++ Tgt.owns ts
end
/-- the slots other than these are the same -/
def SameBut (vs : List Nat) (σ σ' : L2.St) : Prop := σ'.length = σ.length ∧ ∀ i, i ∉ vs → σ'[i]? = σ[i]?
theorem wipe_get (i : Nat) : ∀ (ws : List Nat) (s : L2.St), (L2.wipe s ws)[i]? = if i ∈ ws then (if i < s.length then some none else none) else s[i]?
  | [], s => by simp [L2.wipe]
  | w :: ws, s => by
    unfold L2.wipe
    by_cases e : w = i
    · subst e
      by_cases hl : w < s.length
      · rw [List.getElem?_set_self (by rw [wipe_length]; exact hl)]; simp [hl]
      · rw [List.getElem?_eq_none (by rw [List.length_set, wipe_length]; omega)]; simp [hl]
    · rw [List.getElem?_set_ne e, wipe_get i ws s]
      have : (i ∈ w :: ws) = (i ∈ ws) := by simp [Ne.symm e]
      simp only [this]
theorem wipe_wipe (s : L2.St) (ws : List Nat) : L2.wipe (L2.wipe s ws) ws = L2.wipe s ws := by
  apply List.ext_getElem?
  intro i
  rw [wipe_get, wipe_get, wipe_length]
  by_cases hi : i ∈ ws <;> simp [hi]
theorem SameBut.wipe {vs : List Nat} {σ σ' : L2.St} (h : SameBut vs σ σ') {ws : List Nat} (hs : ∀ i ∈ vs, i ∈ ws) : L2.wipe σ' ws = L2.wipe σ ws := by
  apply List.ext_getElem?
  intro i
  rw [wipe_get, wipe_get, h.1]
  by_cases hi : i ∈ ws
  · simp [hi]
  · simp [hi]; exact h.2 i fun z => hi (hs i z)
/-- what a target of names asks -/
def tTgt (t : Tgt) : TG := fun v σ H Q => ∃ a τ ρ τ', Is ρ H a v ∧ RS0 ρ H τ σ ∧ t.set a τ = some τ' ∧ ∀ σ', RS0 ρ H τ' σ' → SameBut t.own σ σ' → Q σ' H
def tTgts (ts : List Tgt) : TGs := fun vs σ H Q => ∃ as τ ρ τ', IsAll ρ H as vs ∧ RS0 ρ H τ σ ∧ Tgt.sets ts as τ = some τ' ∧ ∀ σ', RS0 ρ H τ' σ' → SameBut (Tgt.owns ts) σ σ' → Q σ' H
def AG (X : Cx) (e : Expr) (t : Tgt) : Prop := PG X e (tTgt t)
def AGs (X : Cx) (es : List Expr) (ts : List Tgt) : Prop := PGs X es (tTgts ts)
theorem _root_.L2.PG.pre {X : Cx} {e : Expr} {t t' : TG} (h : PG X e t) (w : ∀ v σ H Q, t' v σ H Q → t v σ H Q) : PG X e t' := ⟨fun pins s σ H v u Q I r q => h.run pins s σ H v u Q I r (w v σ H Q q)⟩
theorem _root_.L2.PGs.pre {X : Cx} {e : List Expr} {t t' : TGs} (h : PGs X e t) (w : ∀ v σ H Q, t' v σ H Q → t v σ H Q) : PGs X e t' := ⟨fun pins s σ H v u Q I r q => h.run pins s σ H v u Q I r (w v σ H Q q)⟩
theorem ag_nm (i : Nat) {x : Str} (hN : X.N.Nodup) (hi : X.N[i]? = some x := by rfl) (hx : Loc X.env.scope x := by first | exact Or.inl rfl | exact Or.inr rfl) (hf : X.fn x = true ∨ X.env.scope.names.lookup x = some .local := by first | exact .inl rfl | exact .inr rfl | assumption) : AG X (.Name x pos) (.nm i) :=
  (pg_name hN hi hx hf).pre fun v σ H Q h => by
    obtain ⟨a, τ, ρ, τ', ia, rs, e, q⟩ := h
    simp only [Tgt.set] at e
    cases e
    refine q _ (rs.set ia i) ⟨by simp, fun j hj => ?_⟩
    rw [List.getElem?_set_ne (by intro z; exact hj (by simp [Tgt.own, z]))]
theorem ags_nil : AGs X [] [] := pgs_nil.pre fun vs σ H Q h => by
  obtain ⟨as, τ, ρ, τ', ia, rs, e, q⟩ := h
  cases ia with
  | nil => cases e; exact ⟨rfl, q _ rs ⟨rfl, fun _ _ => rfl⟩⟩
  | cons _ _ => simp only [Tgt.sets] at e; cases e
theorem ags_cons {e : Expr} {es : List Expr} {t : Tgt} {ts : List Tgt} (h1 : AG X e t) (h2 : AGs X es ts) (hs : (assignEach (e :: es) X.env).map (·.2) = assign e X.env :: (assignEach es X.env).map (·.2) := by rfl) : AGs X (e :: es) (t :: ts) :=
  (pgs_cons h1 h2 hs).pre fun vs σ H Q h => by
    obtain ⟨as, τ, ρ, τ', ia, rs, e, q⟩ := h
    cases ia with
    | nil => simp only [Tgt.sets] at e; cases e
    | @cons a v as vs i is =>
      simp only [Tgt.sets] at e
      cases e1 : t.set a τ with
      | none => rw [e1] at e; cases e
      | some τ1 =>
        rw [e1] at e
        refine ⟨v, vs, rfl, a, τ, ρ, τ1, i, rs, e1, fun σ1 rs1 s1 => ⟨as, τ1, ρ, τ', is, rs1, e, fun σ2 rs2 s2 => q σ2 rs2 ⟨s2.1.trans s1.1, fun j hj => ?_⟩⟩⟩
        simp only [Tgt.owns, List.mem_append, not_or] at hj
        exact (s2.2 j hj.2).trans (s1.2 j hj.1)
theorem IsAll.sets_len : ∀ {ts : List Tgt} {as : List A} {τ τ' : Sl}, Tgt.sets ts as τ = some τ' → as.length = ts.length
  | [], [], _, _, _ => rfl
  | t :: ts, a :: as, τ, τ', e => by
    simp only [Tgt.sets] at e
    cases e1 : t.set a τ with
    | none => rw [e1] at e; cases e
    | some τ1 => rw [e1] at e; simp [IsAll.sets_len (τ := τ1) e]
  | [], _ :: _, _, _, e => by simp only [Tgt.sets] at e; cases e
  | _ :: _, [], _, _, e => by simp only [Tgt.sets] at e; cases e
theorem ag_tp {es : List Expr} {k : Nat} {ts : List Tgt} (hc : X.calm = true) (h : AGs X es ts) (hn : (assignEach es X.env).length = ts.length := by rfl) (hst : (assignEach es X.env).findIdx? (·.1) = none := by rfl) : AG X (.Tuple es k pos) (.tp ts) :=
  (pg_tup (n := ts.length) hc h hn hst).pre fun v σ H Q h => by
    obtain ⟨a, τ, ρ, τ', ia, rs, e, q⟩ := h
    cases a with
    | tup as =>
      cases ia with
      | tup hp is =>
        simp only [Tgt.set] at e
        exact ⟨_, _, rfl, .inl (.inl hp), by rw [← is.length]; exact IsAll.sets_len e, as, τ, ρ, τ', is, rs, e, q⟩
    | _ => simp only [Tgt.set] at e; cases e
/-! ### assignments -/
def sAsg (t : Tgt) (f : EF) : SF := fun τ M => (f τ M).bindS τ fun a M1 => match t.set a τ with
  | some τ1 => .nx τ1 M1
  | none => .bad
theorem asg_tK {t : Tgt} {D : Ends} {σ : L2.St} {H : Hp} {G : Gx} (h : tS G W (sAsg t f) D σ H) : tG G W Is f σ H fun x H1 => tTgt t x σ H1 D.nx := (bindS_tK Is h).imp fun b H1 h1 => by
  obtain ⟨τ, M, ρ, a, rs, rm, i, r⟩ := h1
  cases e : t.set a τ with
  | none => rw [e] at r; exact r.elim
  | some τ1 => rw [e] at r; exact ⟨a, τ, ρ, τ1, i, rs.s, e, fun σ' rs' _ => r _ _ ρ (.refl _) (.refl _) rm (rs.of rs')⟩
theorem as_asg {tg : Expr} {t : Tgt} (he : AE X W e f) (hg : AG X tg t) (hs : swapsWithSole [tg] e pos.line X.env = pure false := by rfl) (hw : swappedStores [tg] e X.env = pure none := by rfl)
    (h1 : (assignEach [tg] X.env).map (·.2) = [assign tg X.env] := by rfl) : AS X W (.Assign [tg] e pos) (sAsg t f) := (ps_asg he hg hs hw h1).pre fun D σ H h => asg_tK h
theorem as_set (i : Nat) {x : Str} {pos' : Pos} (hN : X.N.Nodup) (he : AE X W e f) (hi : X.N[i]? = some x := by rfl) (hx : Loc X.env.scope x := by first | exact Or.inl rfl | exact Or.inr rfl) (hs : swapsWith e (some (.Name x pos')) pos.line X.env = pure false := by rfl)
    (hf : X.fn x = true ∨ X.env.scope.names.lookup x = some .local := by first | exact .inl rfl | exact .inr rfl | assumption) : AS X W (.Assign [.Name x pos'] e pos) (sAsg (.nm i) f) := (ps_set hN hi hx he hs hf).pre fun D σ H h => (bindS_tK Is h).imp fun b H1 h1 => by
  obtain ⟨τ, M, ρ, a, rs, rm, i, r⟩ := h1
  exact r _ _ ρ (.refl _) (.refl _) rm (rs.set i _)
/-- a, b = x, y -/
def sPar (i j : Nat) (f : EFs) : SF := fun τ M => (f τ M).bindS τ fun as M1 => match as with
  | [a, b] => .nx ((τ.set i (some a)).set j (some b)) M1
  | _ => .bad
theorem as_par (i j : Nat) {x y : Str} {a b : Expr} {fs : EFs} {px py pt : Pos} {kt k2 pt2} (hc : X.calm = true) (hN : X.N.Nodup) (ha : AA X W [a, b] fs) (hi : X.N[i]? = some x := by rfl) (hj : X.N[j]? = some y := by rfl) (hij : i ≠ j := by decide)
    (hx : X.env.scope.names.lookup x = some .local := by rfl) (hy : X.env.scope.names.lookup y = some .local := by rfl)
    (hw : swappedStores [.Tuple [.Name x px, .Name y py] kt pt] (.Tuple [a, b] k2 pt2) X.env = pure (some [x, y]) := by rfl)
    (hs : swapsWithSole [.Tuple [.Name x px, .Name y py] kt pt] (.Tuple [a, b] k2 pt2) pos.line X.env = pure false := by rfl) :
    AS X W (.Assign [.Tuple [.Name x px, .Name y py] kt pt] (.Tuple [a, b] k2 pt2) pos) (sPar i j fs) := (ps_par hc hN hi hj hij hx hy ha hw hs).pre fun D σ H h => (bindS_tK IsAll h).imp fun b H1 h1 => by
  obtain ⟨τ, M, ρ, as, rs, rm, i, r⟩ := h1
  cases i with
  | nil => exact r.elim
  | cons i1 i =>
    cases i with
    | nil => exact r.elim
    | cons i2 i =>
      cases i with
      | nil => exact ⟨_, _, rfl, r _ _ ρ (.refl _) (.refl _) rm ((rs.set i1 _).set i2 _)⟩
      | cons _ _ => exact r.elim
/-- d[k] = v -/
def sDput (fd fk fv : EF) : SF := fun τ M => (fv τ M).bindS τ fun v M1 => (fd τ M1).bindS τ fun d M2 => (fk τ M2).bindS τ fun k M3 => match d with
  | .dct l => match dPut M3 l k v with
    | some M4 => .nx τ M4
    | none => .bad
  | _ => .bad
/-- xs[i] = v -/
def oSetL (M : Store) (x i v : A) : Option Store := match x, i with
  | .lst l, .int k => match M[l]? with
    | some (.lst xs) => (ixN xs.length k).map fun j => M.set l (.lst (xs.set j v))
    | _ => none
  | _, _ => none
def sSetL (fo fi fv : EF) : SF := fun τ M => (fv τ M).bindS τ fun v M1 => (fo τ M1).bindS τ fun x M2 => (fi τ M2).bindS τ fun i M3 => match oSetL M3 x i v with
  | some M4 => .nx τ M4
  | none => .bad
theorem bindS_tKs {α β α' β' : Type} {G : Gx} {D : Ends} {σ : L2.St} {H : Hp} (rel₁ : Rel α β) (hrel : ∀ {ρ ρ' H H' a b}, Ext ρ ρ' → Grow H H' → rel₁ ρ H a b → rel₁ ρ' H' a b) (rel : Rel α' β') {f : Sl → Store → EO α'} {k : Sl → α → α' → Store → SO} {b : β}
    (h : ∃ τ M ρ a, RS W ρ H τ σ ∧ RM G.w ρ H M ∧ rel₁ ρ H a b ∧ RSO G W D ρ H ((f τ M).bindS τ (k τ a))) :
    tG G W rel f σ H (fun b' H1 => ∃ τ M ρ a a', RS W ρ H1 τ σ ∧ RM G.w ρ H1 M ∧ rel₁ ρ H1 a b ∧ rel ρ H1 a' b' ∧ RSO G W D ρ H1 (k τ a a' M)) := by
  obtain ⟨τ, M, ρ, a, rs, rm, i1, r⟩ := h
  refine ⟨τ, M, ρ, rs, rm, ?_⟩
  cases e : f τ M with
  | ok a' M1 => rw [e] at r; exact fun b H1 ρ1 x g m i => ⟨τ, M1, ρ1, a, a', rs.mono x g, m, hrel x g i1, i, RSO.mono r x g⟩
  | ex en M1 => rw [e] at r; exact fun c d H1 ρ1 x g m i => r c d σ H1 ρ1 x g m (rs.mono x g) i
  | bad => rw [e] at r; exact r
theorem as_dput {o i v : Expr} {fd fk fv : EF} {pos' : Pos} (hu : X.A.units + 1 < cLine) (ho : AE X W o fd) (hi : AE X W i fk) (hv : AE X W v fv) (hs : swapsWith v (some (.Subscript o i pos')) pos.line X.env = pure false := by rfl) :
    AS X W (.Assign [.Subscript o i pos'] v pos) (sDput fd fk fv) := (ps_dput hu ho hi hv hs).pre fun D σ H h => (bindS_tK Is h).imp fun b H1 h1 => (bindS_tKs Is Is.ext Is h1).imp fun c H2 h2 => by
  obtain ⟨τ, M, ρ, a, a', rs, rm, ia, ia', r⟩ := h2
  refine ⟨τ, M, ρ, rs, rm, ?_⟩
  cases e : fk τ M with
  | ok k M3 =>
    rw [e] at r
    intro y H3 ρ3 x3 g3 m3 i3
    have r := RSO.mono r x3 g3
    cases a' with
    | dct l =>
      cases ia'.mono x3 g3 with
      | dct hb =>
        have r : RSO (X.gx W.Tb) W D ρ3 H3 (match dPut M3 l k a with
          | some M4 => .nx τ M4
          | none => .bad) := r
        cases e2 : dPut M3 l k a with
        | none => rw [e2] at r; exact r.elim
        | some M4 =>
          rw [e2] at r
          obtain ⟨H4, dp, m4, g4⟩ := dPut_ok m3 hb i3 (ia.mono x3 g3) e2
          exact ⟨_, H4, rfl, dp, r _ _ ρ3 (.refl _) g4 m4 ((rs.mono x3 g3).mono (.refl _) g4)⟩
    | _ => exact r.elim
  | ex en M3 => rw [e] at r; exact fun c d H3 ρ3 x g m i => r c d σ H3 ρ3 x g m (rs.mono x g) i
  | bad => rw [e] at r; exact r
theorem as_setL {o i v : Expr} {fo fi fv : EF} {pos' : Pos} (ho : AE X W o fo) (hi : AE X W i fi) (hv : AE X W v fv) (hs : swapsWithSole [.Subscript o i pos'] v pos.line X.env = pure false := by rfl) (hw : swappedStores [.Subscript o i pos'] v X.env = pure none := by rfl)
    (h1 : (assignEach [.Subscript o i pos'] X.env).map (·.2) = [assign (.Subscript o i pos') X.env] := by rfl)
    (ha : ∀ v, assign (.Subscript o i pos') X.env v = (do
      let ov ← holding [v] (eval o X.env)
      let iv ← holding [v, ov] (eval i X.env)
      standAt pos'
      holding [v, ov, iv] (setItem ov iv v)
      release [v, ov, iv] []) := by intro _; rfl) :
    AS X W (.Assign [.Subscript o i pos'] v pos) (sSetL fo fi fv) := (ps_asg hv (pg_sub ho hi set_list ha) hs hw h1).pre fun D σ H h => (bindS_tK Is h).imp fun b H1 h1 => (bindS_tKs Is Is.ext Is h1).imp fun c H2 h2 => by
  obtain ⟨τ, M, ρ, a, a', rs, rm, ia, ia', r⟩ := h2
  refine ⟨τ, M, ρ, rs, rm, ?_⟩
  cases e : fi τ M with
  | ok k M3 =>
    rw [e] at r
    intro y H3 ρ3 x3 g3 m3 i3
    have r : RSO (X.gx W.Tb) W D ρ3 H3 (match oSetL M3 a' k a with
      | some M4 => .nx τ M4
      | none => .bad) := RSO.mono r x3 g3
    unfold oSetL at r
    cases a' with
    | lst l =>
      cases k with
      | int j =>
        cases i3
        cases ia'.mono x3 g3 with
        | lst hb =>
          dsimp only at r
          cases e2 : M3[l]? with
          | none => rw [e2] at r; exact r.elim
          | some cc =>
            rw [e2] at r
            cases cc with
            | lst xs =>
              dsimp only at r
              obtain ⟨vs, hh, is⟩ := m3.lstM hb e2
              cases e3 : ixN xs.length j with
              | none => rw [e3] at r; exact r.elim
              | some jj =>
                rw [e3] at r
                have g4 := m3.growSet (o := .lst (vs.set jj b)) hb e2
                have i4 := (ia.mono x3 g3).mono (.refl ρ3) g4
                refine ⟨_, vs, j, jj, rfl, rfl, hh, by rw [← is.length]; exact e3, ?_⟩
                exact r _ _ ρ3 (.refl _) g4 (m3.set hb e2 ⟨_, upd_same, IsAll.set i4 jj (is.mono (.refl _) g4)⟩) ((rs.mono x3 g3).mono (.refl _) g4)
            | _ => exact r.elim
      | _ => exact r.elim
    | _ => exact r.elim
  | ex en M3 => rw [e] at r; exact fun c d H3 ρ3 x g m i => r c d σ H3 ρ3 x g m (rs.mono x g) i
  | bad => rw [e] at r; exact r
end
end AB
/-! AB5: loops, comprehensions, calls, defs -/
namespace AB
open PySem PySem.Spec PyProof.Rows L2
inductive Src where
  | snap (xs : List A) | dyn (l : Nat) | rng (lo : Int) (n : Nat) | enl (l : Nat)
def Src.at (s : Src) (M : Store) (i : Nat) : Option (Option A) := match s with
  | .snap xs => some xs[i]?
  | .dyn l => (listAt M l).map (·[i]?)
  | .rng lo n => some (if i < n then some (.int (lo + i)) else none)
  | .enl l => (listAt M l).map fun xs => xs[i]?.map fun x => .tup [.int (i : Nat), x]
def lenAt (M : Store) (l : Nat) : Nat := match listAt M l with
  | some xs => xs.length + 1
  | none => 0
def Src.size (s : Src) (M : Store) : Nat := match s with
  | .snap xs => xs.length + 1
  | .dyn l => lenAt M l
  | .rng _ n => n + 1
  | .enl l => lenAt M l
def SrcJ (w : Amb) (ρ : List Addr) (H : Hp) (src : Src) (J : It) : Prop := ∀ (ρ2 : List Addr) (H2 : Hp) (M2 : Store) (i : Nat), Ext ρ ρ2 → Grow H H2 → RM w ρ2 H2 M2 →
  match src.at M2 i with
  | some (some x) => J.go i H2 ∧ ∀ v H3, J.yld i H2 v H3 → Grow H2 H3 ∧ RM w ρ2 H3 M2 ∧ Is ρ2 H3 x v
  | some none => J.stop i H2
  | none => True
abbrev relJ (w : Amb) : Rel Src It := fun ρ H s J => SrcJ w ρ H s J
abbrev EI := Sl → Store → EO Src
def AI (X : Cx) (W : WR) (tg iter : Expr) (f : EI) : Prop := PI X tg iter (tG (X.gx W.Tb) W (relJ (X.am W.Tb)) f)
theorem _root_.L2.PI.pre {X : Cx} {tg e : Expr} {t t' : TI} (h : PI X tg e t) (w : ∀ σ H R, t' σ H R → t σ H R) : PI X tg e t' := ⟨fun pins s σ H R I q => h.run pins s σ H R I (w σ H R q)⟩
abbrev On' := List A → Store → EO A
/-! ### while -/
def whileA (c : EFb) (b : SF) : Nat → Sl → Store → SO
  | 0, _, _ => .bad
  | n + 1, τ, M => (c τ M).bindS τ fun k M1 => if k = true then
      match b τ M1 with
      | .nx τ2 M2 => whileA c b n τ2 M2
      | .ct τ2 M2 => whileA c b n τ2 M2
      | .bk τ2 M2 => .nx τ2 M2
      | o => o
    else .nx τ M1
section
variable {X : Cx} {W : WR} {pos : Pos} {e : Expr} {f : EF} {s t : SF}
theorem as_while (n : Sl → Store → Nat) {c : Expr} {body : List Stmt} {fc : EFb} {fb : SF} (hp : PassesOwn (model X.prog X.w) X.A X.env X.xe) (hc : AT X W c fc) (hb : ASs X W body fb) :
    AS X W (.While c body [] pos) (fun τ M => whileA fc fb (n τ M) τ M) := (ps_while hp hc hb).pre fun D σ H h => by
  obtain ⟨τ, M, ρ, rs, rm, r⟩ := h
  refine ⟨fun m σ H => ∃ τ M ρ, RS W ρ H τ σ ∧ RM (X.am W.Tb) ρ H M ∧ RSO (X.gx W.Tb) W D ρ H (whileA fc fb m τ M), ⟨n τ M, τ, M, ρ, rs, rm, r⟩, ?_⟩
  clear r rs rm
  rintro m σ H ⟨τ, M, ρ, rs, rm, r⟩
  cases m with
  | zero => exact r.elim
  | succ m =>
    unfold whileA at r
    refine ⟨τ, M, ρ, rs, rm, ?_⟩
    cases ec : fc τ M with
    | ok k M1 =>
      rw [ec] at r
      intro k' H1 ρ1 x1 g1 m1 ik
      have ik : k = k' := ik
      subst ik
      have r := RSO.mono r x1 g1
      have rs1 := rs.mono x1 g1
      cases k with
      | true =>
        rw [if_pos rfl]
        refine ⟨fun σ' H' => ∃ τ M ρ, RS W ρ H' τ σ' ∧ RM (X.am W.Tb) ρ H' M ∧ RSO (X.gx W.Tb) W D ρ H' (whileA fc fb m τ M), fun σ' H' q => ⟨m, Nat.lt_succ_self m, q⟩, τ, M1, ρ1, rs1, m1, ?_⟩
        have r : RSO (X.gx W.Tb) W D ρ1 H1 (match fb τ M1 with
          | .nx τ2 M2 => whileA fc fb m τ2 M2
          | .ct τ2 M2 => whileA fc fb m τ2 M2
          | .bk τ2 M2 => .nx τ2 M2
          | o => o) := r
        cases eb : fb τ M1 with
        | nx τ2 M2 => rw [eb] at r; exact fun σ2 H2 ρ2 x g m i => ⟨τ2, M2, ρ2, i, m, RSO.mono r x g⟩
        | ct τ2 M2 => rw [eb] at r; exact fun σ2 H2 ρ2 x g m i => ⟨τ2, M2, ρ2, i, m, RSO.mono r x g⟩
        | bk τ2 M2 => rw [eb] at r; exact r
        | rt a M2 => rw [eb] at r; exact r
        | ex en τ2 M2 => rw [eb] at r; exact r
        | bad => rw [eb] at r; exact r
      | false =>
        rw [if_neg Bool.false_ne_true]
        exact r _ _ ρ1 (.refl _) (.refl _) m1 rs1
    | ex en M1 => rw [ec] at r; exact fun c d H1 ρ1 x g m i => r c d σ H1 ρ1 x g m (rs.mono x g) i
    | bad => rw [ec] at r; exact r
/-! ### for -/
def forA (src : Src) (t : Tgt) (b : SF) : Nat → Nat → Sl → Store → SO
  | 0, _, _, _ => .bad
  | n + 1, i, τ, M => match src.at M i with
    | none => .bad
    | some none => .nx τ M
    | some (some x) => match t.set x τ with
      | none => .bad
      | some τ1 => match b τ1 M with
        | .nx τ2 M2 => forA src t b n (i + 1) τ2 M2
        | .ct τ2 M2 => forA src t b n (i + 1) τ2 M2
        | .bk τ2 M2 => .nx τ2 M2
        | o => o
def sFor (f : EI) (t : Tgt) (b : SF) : SF := fun τ M => (f τ M).bindS τ fun src M1 => forA src t b (src.size M1) 0 τ M1
theorem as_for {tg iter : Expr} {body : List Stmt} {fi : EI} {t : Tgt} {fb : SF} (hp : PassesOwn (model X.prog X.w) X.A X.env X.xe) (hc : X.calm = true) (hi : AI X W tg iter fi) (hg : AG X tg t) (hb : ASs X W body fb)
    (hs : ∀ x, foldedSetIterable iter X.env x = pure x := by intro _; rfl) : AS X W (.For tg iter body [] pos) (sFor fi t fb) := (ps_for hp hc hi hg hb hs).pre fun D σ H h => (bindS_tK (relJ (X.am W.Tb)) h).imp fun J H1 h1 => by
  obtain ⟨τ, M, ρ, src, rs, rm, ij, r⟩ := h1
  refine ⟨fun i m σ H => ∃ τ M ρ', Ext ρ ρ' ∧ Grow H1 H ∧ RS W ρ' H τ σ ∧ RM (X.am W.Tb) ρ' H M ∧ RSO (X.gx W.Tb) W D ρ' H (forA src t fb m i τ M), ⟨src.size M, τ, M, ρ, .refl _, .refl _, rs, rm, r⟩, ?_⟩
  clear r rs rm
  rintro i m σ H ⟨τ, M, ρ', x', g', rs, rm, r⟩
  cases m with
  | zero => exact r.elim
  | succ m =>
    unfold forA at r
    have jj := ij ρ' H M i x' g' rm
    cases ea : src.at M i with
    | none => rw [ea] at r; exact r.elim
    | some o =>
      cases o with
      | none =>
        rw [ea] at r jj
        exact .inl ⟨jj, r _ _ ρ' (.refl _) (.refl _) rm rs⟩
      | some a =>
        rw [ea] at r jj
        obtain ⟨go, yy⟩ := jj
        refine .inr ⟨go, fun σ' H' => ∃ τ M ρ', Ext ρ ρ' ∧ Grow H1 H' ∧ RS W ρ' H' τ σ' ∧ RM (X.am W.Tb) ρ' H' M ∧ RSO (X.gx W.Tb) W D ρ' H' (forA src t fb m (i + 1) τ M), fun σ' H' q => ⟨m, Nat.lt_succ_self m, q⟩, fun v H2 y => ?_⟩
        obtain ⟨g2, m2, ia⟩ := yy v H2 y
        have r : RSO (X.gx W.Tb) W D ρ' H (match t.set a τ with
          | none => .bad
          | some τ1 => match fb τ1 M with
            | .nx τ2 M2 => forA src t fb m (i + 1) τ2 M2
            | .ct τ2 M2 => forA src t fb m (i + 1) τ2 M2
            | .bk τ2 M2 => .nx τ2 M2
            | o => o) := r
        cases et : t.set a τ with
        | none => rw [et] at r; exact r.elim
        | some τ1 =>
          rw [et] at r
          refine ⟨a, τ, ρ', τ1, ia, (rs.mono (.refl _) g2).s, et, fun σ1 rs1 _ => ⟨τ1, M, ρ', (rs.mono (.refl _) g2).of rs1, m2, ?_⟩⟩
          have r := RSO.mono r (.refl _) g2
          have r : RSO (X.gx W.Tb) W D ρ' H2 (match fb τ1 M with
            | .nx τ2 M2 => forA src t fb m (i + 1) τ2 M2
            | .ct τ2 M2 => forA src t fb m (i + 1) τ2 M2
            | .bk τ2 M2 => .nx τ2 M2
            | o => o) := r
          cases eb : fb τ1 M with
          | nx τ2 M2 => rw [eb] at r; exact fun σ2 H3 ρ3 x g m i => ⟨τ2, M2, ρ3, x'.trans x, (g'.trans g2).trans g, i, m, RSO.mono r x g⟩
          | ct τ2 M2 => rw [eb] at r; exact fun σ2 H3 ρ3 x g m i => ⟨τ2, M2, ρ3, x'.trans x, (g'.trans g2).trans g, i, m, RSO.mono r x g⟩
          | bk τ2 M2 => rw [eb] at r; exact r
          | rt a M2 => rw [eb] at r; exact r
          | ex en τ2 M2 => rw [eb] at r; exact r
          | bad => rw [eb] at r; exact r
/-! ### what is walked -/
theorem _root_.L2.PI.or {tg e : Expr} {t t' : TI} (h : PI X tg e t) (h' : PI X tg e t') : PI X tg e (fun σ H R => t σ H R ∨ t' σ H R) := ⟨fun pins s σ H R I q => q.elim (fun q => h.run pins s σ H R I q) fun q => h'.run pins s σ H R I q⟩
def srcOf (a : A) (M : Store) : EO Src := match a with
  | .tup xs => .ok (.snap xs) M
  | .lst l => match listAt M l with
    | some _ => .ok (.dyn l) M
    | none => .bad
  | _ => .bad
def iSeq (f : EF) : EI := fun τ M => (f τ M).bind srcOf
theorem srcJ_list {w : Amb} {ρ : List Addr} {H : Hp} {l : Nat} {a : Addr} (ha : ρ[l]? = some a) : SrcJ w ρ H (.dyn l) (Itl w.K a) := by
  intro ρ2 H2 M2 i x g m
  cases e : Src.at (.dyn l) M2 i with
  | none => trivial
  | some o =>
    simp only [Src.at] at e
    cases el : listAt M2 l with
    | none => rw [el] at e; cases e
    | some xs =>
      rw [el] at e
      obtain ⟨vs, q, is⟩ := m.list (x.get ha) el
      cases o with
      | none =>
        have e : xs[i]? = none := Option.some.inj e
        exact ⟨vs, q, by rw [← is.length]; exact List.getElem?_eq_none_iff.mp e⟩
      | some t =>
        have e : xs[i]? = some t := Option.some.inj e
        obtain ⟨v, hv, iv⟩ := is.get e
        refine ⟨⟨vs, v, q, hv⟩, fun w H3 ⟨eH, hw⟩ => ?_⟩
        subst eH
        have := hw vs q
        rw [hv] at this
        obtain rfl := Option.some.inj this
        exact ⟨.refl _, m, iv⟩
theorem srcJ_tup {K : PySem.W.Frag} {ρ : List Addr} {H : Hp} {xs : List A} {vs : List V} {a : Addr} (ha : H a = some (.tup vs)) (is : IsAll ρ H xs vs) : SrcJ w ρ H (.snap xs) (Itt K a) := by
  intro ρ2 H2 M2 i x g m
  have h2 : SqT K H2 a vs := .inl (.inl (g _ _ (.tup _) ha))
  cases e : xs[i]? with
  | none =>
    simp only [Src.at, e]
    exact ⟨vs, h2, by rw [← is.length]; exact List.getElem?_eq_none_iff.mp e⟩
  | some t =>
    simp only [Src.at, e]
    obtain ⟨v, hv, iv⟩ := is.get e
    refine ⟨⟨vs, v, h2, hv⟩, fun w H3 ⟨eH, hw⟩ => ?_⟩
    subst eH
    have := hw vs h2
    rw [hv] at this
    obtain rfl := Option.some.inj this
    exact ⟨.refl _, m, iv.mono x g⟩
theorem ai_seq {tg l : Expr} (h : AE X W l f) : AI X W tg l (iSeq f) := ((pi_list h).or (pi_tup h)).pre fun σ H R h => by
  obtain ⟨τ, M, ρ, rs, rm, r⟩ := h
  unfold iSeq at r
  cases e : f τ M with
  | ok a M1 =>
    rw [e] at r
    cases a with
    | lst l =>
      refine .inl ⟨τ, M, ρ, rs, rm, ?_⟩
      rw [e]
      intro v H1 ρ1 x g m i
      cases i with
      | lst ha =>
        have r : RE (X.gx W.Tb) W σ ρ H (relJ (X.am W.Tb)) (match listAt M1 l with
          | some _ => .ok (.dyn l) M1
          | none => .bad) R := r
        cases el : listAt M1 l with
        | none => rw [el] at r; exact r.elim
        | some xs =>
          rw [el] at r
          obtain ⟨vs, q, is⟩ := m.list ha el
          exact ⟨_, rfl, ⟨vs, q⟩, RE.okv r x g m (srcJ_list ha)⟩
    | tup xs =>
      refine .inr ⟨τ, M, ρ, rs, rm, ?_⟩
      rw [e]
      intro v H1 ρ1 x g m i
      cases i with
      | tup ha is =>
        exact ⟨_, rfl, ⟨_, .inl (.inl ha)⟩, RE.okv (a := Src.snap xs) (M := M1) r x g m (srcJ_tup ha is)⟩
    | _ => exact r.elim
  | ex en M1 =>
    rw [e] at r
    exact .inl ⟨τ, M, ρ, rs, rm, by rw [e]; exact r⟩
  | bad => rw [e] at r; exact r.elim
def rngOf1 (as : List A) (M : Store) : EO Src := match as with
  | [.int j] => if -(2 ^ 62) ≤ j ∧ j < 2 ^ 62 then .ok (.rng 0 j.toNat) M else .bad
  | _ => .bad
def rngOf2 (as : List A) (M : Store) : EO Src := match as with
  | [.int i, .int j] => if -(2 ^ 62) ≤ i ∧ i < 2 ^ 62 ∧ -(2 ^ 62) ≤ j ∧ j < 2 ^ 62 then .ok (.rng i (j - i).toNat) M else .bad
  | _ => .bad
def iRng1 (f : EFs) : EI := fun τ M => (f τ M).bind rngOf1
def iRng2 (f : EFs) : EI := fun τ M => (f τ M).bind rngOf2
theorem srcJ_rng {ρ : List Addr} {H : Hp} {lo : Int} {n : Nat} : SrcJ w ρ H (.rng lo n) (Itr lo n) := by
  intro ρ2 H2 M2 i x g m
  by_cases h : i < n
  · simp only [Src.at, if_pos h]
    exact ⟨h, fun v H3 ⟨e1, e2⟩ => by subst e1 e2; exact ⟨.refl _, m, .int _⟩⟩
  · simp only [Src.at, if_neg h]
    exact Nat.le_of_not_lt h
theorem ai_rng1 {tg a : Expr} {fs : EFs} {p : Pos} (hm : X.mg "range" = none) (ha : AA X W [a] fs) (hg : Gl X "range" := by rfl) (hs : starEach [a] X.env = [(false, eval a X.env)] := by rfl) : AI X W tg (.Call (.Name "range" p) [a] [] pos) (iRng1 fs) :=
  (pi_range1 hg hm ha hs).pre fun σ H R h => by
    refine (seqG IsAll h).imp fun vs H1 h1 => ?_
    obtain ⟨τ, M, ρ, as, rs, rm, i, r⟩ := h1
    dsimp only [rngOf1] at r
    split at r
    · split at r
      · rename_i hz
        cases i with
        | cons i1 i =>
          cases i; cases i1
          exact ⟨_, rfl, hz.1, hz.2, r.okv (.refl _) (.refl _) rm srcJ_rng⟩
      · exact r.elim
    · exact r.elim
theorem ai_rng2 {tg a b : Expr} {fs : EFs} {p : Pos} (hm : X.mg "range" = none) (ha : AA X W [a, b] fs) (hg : Gl X "range" := by rfl) (hs : starEach [a, b] X.env = [(false, eval a X.env), (false, eval b X.env)] := by rfl) (hs2 : starEach [b] X.env = [(false, eval b X.env)] := by rfl) : AI X W tg (.Call (.Name "range" p) [a, b] [] pos) (iRng2 fs) :=
  (pi_range2 hg hm ha hs hs2).pre fun σ H R h => by
    refine (seqG IsAll h).imp fun vs H1 h1 => ?_
    obtain ⟨τ, M, ρ, as, rs, rm, i, r⟩ := h1
    dsimp only [rngOf2] at r
    split at r
    · split at r
      · rename_i hz
        cases i with
        | cons i1 i =>
          cases i with
          | cons i2 i =>
            cases i; cases i1; cases i2
            exact ⟨_, _, rfl, hz, r.okv (.refl _) (.refl _) rm srcJ_rng⟩
      · exact r.elim
    · exact r.elim
/-! ### comprehensions -/
def wipeA (τ : Sl) : List Nat → Sl
  | [] => τ
  | v :: vs => (wipeA τ vs).set v none
theorem RS.wipe {ρ : List Addr} {H : Hp} {τ : Sl} {σ : L2.St} (r : RS W ρ H τ σ) : ∀ vs : List Nat, RS W ρ H (wipeA τ vs) (L2.wipe σ vs)
  | [] => r
  | v :: vs => by
    unfold wipeA L2.wipe
    exact (RS.wipe r vs).unset v none
def lcA (src : Src) (t : Tgt) (ft : EFb) (fe : EF) (l : Nat) (τ : Sl) : Nat → Nat → Store → EO A
  | 0, _, _ => .bad
  | n + 1, i, M => match src.at M i with
    | none => .bad
    | some none => .ok (.lst l) M
    | some (some x) => match t.set x τ with
      | none => .bad
      | some τ1 => match ft τ1 M with
        | .ok true M1 => match fe τ1 M1 with
          | .ok y M2 => match M2[l]? with
            | some (.lst acc) => if acc.length < sizeLine then lcA src t ft fe l τ n (i + 1) (M2.set l (.lst (acc ++ [y]))) else .bad
            | _ => .bad
          | _ => .bad
        | .ok false M1 => lcA src t ft fe l τ n (i + 1) M1
        | _ => .bad
def eLc (fi : EI) (t : Tgt) (ft : EFb) (fe : EF) (own : List Nat) : EF := fun τ M => (fi τ M).bind fun src M1 => lcA src t ft fe M1.length (wipeA τ own) (src.size M1) 0 (M1 ++ [.lst []])
def ATs (X : Cx) (W : WR) (ifs : List Expr) (f : EFb) : Prop := PTs X ifs (tG (X.gx W.Tb) W relB f)
def bYes : EFb := fun _ M => .ok true M
theorem ats_nil : ATs X W [] bYes := ⟨fun pins s σ H Q I h => by
  obtain ⟨τ, M, ρ, rs, rm, r⟩ := h
  exact pts_nil.run pins s σ H Q I (r.okv (.refl _) (.refl _) rm rfl)⟩
theorem ats_one {c : Expr} {fb : EFb} (h : AT X W c fb) : ATs X W [c] fb := pts_one h
theorem lc_tK {G : Gx} {fi : EI} {t : Tgt} {ft : EFb} {fe : EF} {own : List Nat} {σ : L2.St} {H : Hp} {Q : VK} (ho : ∀ i ∈ t.own, i ∈ own) (h : tG G W Is (eLc fi t ft fe own) σ H Q) :
    tLc (tG G W (relJ G.w) fi) (tTgt t) (tG G W.nx relB ft) (tG G W.nx Is fe) own σ H Q := by
  refine (seqG (relJ G.w) h).imp fun J H1 h1 => ?_
  obtain ⟨τ, M, ρ, src, rs, rm, ij, r⟩ := h1
  intro D hD
  have r : RE G W σ ρ H1 Is (lcA src t ft fe M.length (wipeA τ own) (src.size M) 0 (M ++ [.lst []])) Q := r
  have g0 : Grow H1 (upd H1 D (.lst [])) := .new hD
  have m0 : RM G.w (ρ ++ [D]) (upd H1 D (.lst [])) (M ++ [.lst []]) := rm.push hD ⟨[], upd_same, .nil⟩
  have hl0 : (ρ ++ [D])[M.length]? = some D := by rw [← rm.len]; simp
  generalize hl : M.length = l at r hl0
  generalize hM : (M ++ [Cell.lst []]) = M0 at r m0
  refine ⟨fun i m H => ∃ M ρ', Ext (ρ ++ [D]) ρ' ∧ Grow H1 H ∧ RM G.w ρ' H M ∧ RE G W σ ρ' H Is (lcA src t ft fe l (wipeA τ own) m i M) Q,
    ⟨_, M0, ρ ++ [D], .refl _, g0, m0, RE.mono r (.snoc _ _) g0⟩, ?_⟩
  clear r m0 hM
  rintro i m H ⟨M, ρ', x', g', rm', r⟩
  have xx : Ext ρ ρ' := (Ext.snoc ρ D).trans x'
  cases m with
  | zero => exact r.elim
  | succ m =>
    unfold lcA at r
    have jj := ij ρ' H M i xx g' rm'
    cases ea : src.at M i with
    | none => rw [ea] at r; exact r.elim
    | some o =>
      cases o with
      | none =>
        rw [ea] at r jj
        exact .inl ⟨jj, r.okv (.refl _) (.refl _) rm' (.lst (x'.get hl0))⟩
      | some a =>
        rw [ea] at r jj
        obtain ⟨go, yy⟩ := jj
        refine .inr ⟨go, fun H => ∃ M ρ', Ext (ρ ++ [D]) ρ' ∧ Grow H1 H ∧ RM G.w ρ' H M ∧ RE G W σ ρ' H Is (lcA src t ft fe l (wipeA τ own) m (i + 1) M) Q, fun H' q => ⟨m, Nat.lt_succ_self m, q⟩, fun v H2 y => ?_⟩
        obtain ⟨g2, m2, ia⟩ := yy v H2 y
        dsimp only at r
        cases et : t.set a (wipeA τ own) with
        | none => rw [et] at r; exact r.elim
        | some τ1 =>
          rw [et] at r
          dsimp only at r
          have g12 := g'.trans g2
          refine ⟨a, wipeA τ own, ρ', τ1, ia, ((rs.mono xx g12).wipe own).s, et, fun σ1 rs1 sb => ⟨?_, ?_⟩⟩
          · rw [sb.wipe ho]
            exact wipe_wipe σ own
          · have r := RE.mono r (.refl _) g2
            have rs1 : RS W.nx ρ' H2 τ1 σ1 := ⟨(rs.mono xx g12).ext, (rs.mono xx g12).grow, rs1⟩
            refine ⟨τ1, M, ρ', rs1, m2, ?_⟩
            cases e1 : ft τ1 M with
            | ok k M1 =>
              rw [e1] at r
              intro k' H3 ρ3 x3 g3 m3 ik
              have ik : k = k' := ik
              subst ik
              have r := RE.mono r x3 g3
              cases k with
              | true =>
                rw [if_pos rfl]
                dsimp only at r
                refine ⟨τ1, M1, ρ3, rs1.mono x3 g3, m3, ?_⟩
                cases e2 : fe τ1 M1 with
                | ok y M2 =>
                  rw [e2] at r
                  intro w H4 ρ4 x4 g4 m4 iy
                  have r := RE.mono r x4 g4
                  dsimp only at r
                  have hb : ρ4[l]? = some D := x4.get (x3.get (x'.get hl0))
                  cases e3 : M2[l]? with
                  | none => rw [e3] at r; exact r.elim
                  | some cc =>
                    rw [e3] at r
                    cases cc with
                    | lst acc =>
                      dsimp only at r
                      obtain ⟨vs, hh, is⟩ := m4.lstM hb e3
                      split at r
                      · rename_i hz
                        have g5 := m4.growSet (o := .lst (vs ++ [w])) hb e3
                        refine ⟨vs, hh, by rw [← is.length]; exact hz, _, ρ4, x'.trans (x3.trans x4), ((g12.trans g3).trans g4).trans g5, m4.set (c' := .lst (acc ++ [y])) hb e3 ⟨_, upd_same, (is.append (.cons iy .nil)).mono (.refl _) g5⟩, RE.mono r (.refl _) g5⟩
                      · exact r.elim
                    | _ => exact r.elim
                | ex en M2 => rw [e2] at r; exact r.elim
                | bad => rw [e2] at r; exact r.elim
              | false =>
                rw [if_neg Bool.false_ne_true]
                exact ⟨M1, ρ3, x'.trans x3, g12.trans g3, m3, r⟩
            | ex en M1 => rw [e1] at r; exact r.elim
            | bad => rw [e1] at r; exact r.elim
theorem ae_lc (own : List (Str × Nat)) {elt tg iter : Expr} {ifs : List Expr} {scope : Scope} {fi : EI} {t : Tgt} {ft : EFb} {fe : EF} (hc : X.calm = true) (hN : X.N.Nodup) (ok : BlkOk X.N X.env.scope scope own) (ho : ∀ i ∈ t.own, i ∈ own.map (·.2)) (hi : AI X W tg iter fi)
    (hg : ∀ (s : Shared) (H : Hp) (C : Addr) (cl : List (Str × Addr)) (fp : List Addr), AG (X.blk s H scope (compEnvC scope cl C X.env) fp) tg t) (ht : ∀ (s : Shared) (H : Hp) (C : Addr) (cl : List (Str × Addr)) (fp : List Addr), ATs (X.blk s H scope (compEnvC scope cl C X.env) fp) W.nx ifs ft)
    (he : ∀ (s : Shared) (H : Hp) (C : Addr) (cl : List (Str × Addr)) (fp : List Addr), AE (X.blk s H scope (compEnvC scope cl C X.env) fp) W.nx elt fe) (hs : ∀ x, foldedSetIterable iter X.env x = pure x := by intro _; rfl) :
    AE X W (.ListComp elt [⟨tg, iter, ifs, 0⟩] scope pos) (eLc fi t ft fe (own.map (·.2))) := (pe_lc (tt := tG (X.gx W.Tb) W.nx relB ft) (te := tG (X.gx W.Tb) W.nx Is fe) hc hN hi ok hg ht he hs).pre fun _ _ _ h => lc_tK ho h
theorem as_setLc (i : Nat) (own : List (Str × Nat)) {y : Str} {py spos : Pos} {elt tg iter : Expr} {ifs : List Expr} {scope : Scope} {fi : EI} {t : Tgt} {ft : EFb} {fe : EF} (hc : X.calm = true) (hN : X.N.Nodup) (hsw : swapsWith (.ListComp elt [⟨tg, iter, ifs, 0⟩] scope pos) (some (.Name y py)) spos.line X.env = pure true) (ok : BlkOk X.N X.env.scope scope own) (ho : ∀ i ∈ t.own, i ∈ own.map (·.2)) (hi : AI X W tg iter fi)
    (hg : ∀ (s : Shared) (H : Hp) (C : Addr) (cl : List (Str × Addr)) (fp : List Addr), AG (X.blk s H scope (compEnvC scope cl C X.env) fp) tg t) (ht : ∀ (s : Shared) (H : Hp) (C : Addr) (cl : List (Str × Addr)) (fp : List Addr), ATs (X.blk s H scope (compEnvC scope cl C X.env) fp) W.nx ifs ft)
    (he : ∀ (s : Shared) (H : Hp) (C : Addr) (cl : List (Str × Addr)) (fp : List Addr), AE (X.blk s H scope (compEnvC scope cl C X.env) fp) W.nx elt fe) (hy : X.N[i]? = some y := by rfl) (hyl : X.env.scope.names.lookup y = some .local := by rfl) (hs : ∀ x, foldedSetIterable iter X.env x = pure x := by intro _; rfl) :
    AS X W (.Assign [.Name y py] (.ListComp elt [⟨tg, iter, ifs, 0⟩] scope pos) spos) (sAsg (.nm i) (eLc fi t ft fe (own.map (·.2)))) := (ps_setLc (tt := tG (X.gx W.Tb) W.nx relB ft) (te := tG (X.gx W.Tb) W.nx Is fe) hc hN hy hyl hsw hi ok hg ht he hs).pre fun D σ H h => by
  have h1 := asg_tK h
  refine lc_tK ho (h1.imp fun x H1 q => ?_)
  obtain ⟨a, τ, ρ, τ', ia, rs, e, q⟩ := q
  simp only [Tgt.set] at e
  cases e
  refine q _ (rs.set ia i) ⟨by simp, fun j hj => ?_⟩
  rw [List.getElem?_set_ne (by intro z; exact hj (by simp [Tgt.own, z]))]
/-! ### calls of defs -/
/-- what a def promises that does F -/
def spA (G : Gx) (n : Nat) (F : On') : Sp := fun vs H Q E => ∃ as M ρ, IsAll ρ H as vs ∧ RM G.w ρ H M ∧ as.length = n ∧ RE G ⟨fun cls d _ H' => E cls d H', G.w.Tb, [], fun _ => none⟩ [] ρ H Is (F as M) Q
def eCall (n : Nat) (F : On') (fs : EFs) : EF := fun τ M => (fs τ M).bind fun as M1 => if as.length = n then F as M1 else .bad
theorem ae_call {k n : Nat} {fa : Addr} {fd : FuncData} {ps : List Str} {F : On'} {x : Str} {p : Pos} {e : Expr} {es : List Expr} {fs : EFs} (G : FnOk X.prog X.w X.K X.mg X.base (L2.CX X.prog X.w) k fa fd ps (spA (X.gx W.Tb) n F)) (hr : Room k X.A) (hm : X.mg x = some (.ref fa)) (hk : PySem.W.keepIn X.K (.ref fa) = true) (hb : Binds X.K fd ps []) (tk : Takes X W.w)
    (ha : AA X W (e :: es) fs) (hg : Gl X x := by rfl) (hdb : (x == ("__debug__" : Str)) = false := by decide) (he : starEach (e :: es) X.env = (false, eval e X.env) :: starEach es X.env := by rfl) (hpl : (backTo pos (starEach es X.env)).any (·.1) = false := by rfl) :
    AE X W (.Call (.Name x p) (e :: es) [] pos) (eCall n F fs) := (pe_callS (E := WE W) G hr hg hm hk hb (fun σ => passAt tk σ) ha hdb he hpl).pre fun σ H Q h => by
  refine (seqG IsAll h).imp fun vs H1 h1 => ?_
  obtain ⟨τ, M, ρ, as, rs, rm, i, r⟩ := h1
  have r : RE (X.gx W.Tb) W σ ρ H1 Is (if as.length = n then F as M else .bad) Q := r
  split at r
  · rename_i hn
    refine ⟨as, M, ρ, i, rm, hn, ?_⟩
    cases e : F as M with
    | ok a M1 => rw [e] at r; exact r
    | ex en M1 => rw [e] at r; exact r
    | bad => rw [e] at r; exact r
  · exact r.elim
/-- what a body's end is to the caller -/
def retOf (o : SO) : EO A := match o with
  | .nx _ M => .ok .non M
  | .rt a M => .ok a M
  | .ex e _ M => .ex e M
  | _ => .bad
def startA (n : Nat) (as : List A) : Sl := as.map some ++ List.replicate (n - as.length) none
def defA (n : Nat) (s : SF) : On' := fun as M => retOf (s (startA n as) M)
theorem start_ok {ρ : List Addr} {H : Hp} {as : List A} {vs : List V} (r : IsAll ρ H as vs) (N : List Str) : RS0 ρ H (startA N.length as) (L2.start N vs) := by
  unfold startA L2.start
  rw [r.length]
  have rep : ∀ n, RS0 ρ H (List.replicate n none) (List.replicate n none) := by
    intro n
    induction n with
    | zero => exact .nil
    | succ n ih => rw [List.replicate_succ, List.replicate_succ]; exact .no ih
  generalize N.length - vs.length = n
  induction as generalizing vs with
  | nil => cases r; exact rep n
  | cons a as ih =>
    cases r with
    | cons i is => exact .yes i (ih is)
section
variable {P : Program} {w : World} {K : PySem.W.Frag} {mg : Str → Option Value} {base : Heap}
/-- a def's body, its errors let out -/
theorem fn_A {x qual : Str} {st : Stmt} {fa : Addr} {fd : FuncData} {N ps : List Str} {k : Nat} {s : SF} (F : Fun K x qual st fa fd) (S : FnScope N ps (defScope st))
    (hbody : ∀ (cdv : Value) (A : Around) (outer : List Env) (s₀ : Shared) (H : Hp) (E : XK), Room k (A.deeper (envOfC qual (defScope st) s₀.heap.objs.size fa cdv)) →
      ASs (cxOf (L2.CX P w) P w K mg base N qual (defScope st) fa cdv A outer s₀ H E) ⟨fun cls d _ H => E cls d H, Tb, [], fun _ => none⟩ (defBody st) s) :
    FnOk P w K mg base (L2.CX P w) (k + 1) fa fd ps (spA ⟨mg, ⟨w, K, mg, Tb⟩⟩ ps.length (defA N.length s)) := by
  refine F.okX S (fun vs H Q E h => ?_) (fun cdv A outer s₀ H vs Q E hr h => ⟨_, hbody cdv A outer s₀ H E hr, ?_⟩)
  · obtain ⟨as, M, ρ, i, rm, hn, _⟩ := h
    rw [← i.length]; exact hn
  · obtain ⟨as, M, ρ, i, rm, hn, r⟩ := h
    refine ⟨startA N.length as, M, ρ, ⟨⟨ρ, rfl⟩, fun _ _ _ z => (nomatch z), start_ok i N⟩, rm, ?_⟩
    unfold defA at r
    cases e : s (startA N.length as) M with
    | nx τ M1 => rw [e] at r; exact fun σ' H' ρ' x g m _ => r .non H' ρ' x g m .non
    | rt a M1 => rw [e] at r; exact r
    | ex en τ M1 => rw [e] at r; exact fun c d σ' H' ρ' x g m _ ix => r c d H' ρ' x g m ix
    | bk τ M1 => rw [e] at r; exact r.elim
    | ct τ M1 => rw [e] at r; exact r.elim
    | bad => rw [e] at r; exact r.elim
/-- nothing is promised of what ends badly -/
theorem fn_bad {fa : Addr} {fd : FuncData} {ps : List Str} {n k : Nat} : FnOk P w K mg base (L2.CX P w) k fa fd ps (spA ⟨mg, ⟨w, K, mg, Tb⟩⟩ n fun _ _ => .bad) :=
  ⟨fun vs H Q E h => by obtain ⟨_, _, _, _, _, _, r⟩ := h; exact r.elim, fun A outer s H args us vs Q E _ _ _ _ h => by obtain ⟨_, _, _, _, _, _, r⟩ := h; exact r.elim⟩
end
end
end AB
/-! AB6: built-ins -/
namespace AB
open PySem PySem.Spec PyProof.Rows L2
section
variable {X : Cx} {W : WR} {pos : Pos} {a b e : Expr} {es : List Expr} {f g : EF} {fs : EFs}
/-! ### isinstance -/
def tyOf? (M : Store) : A → Option String
  | .non => some "NoneType"
  | .bl _ => some "bool"
  | .int _ => some "int"
  | .str _ => some "str"
  | .tup _ => some "tuple"
  | .lst l => (listAt M l).map fun _ => "list"
  | .dct d => match M[d]? with
    | some (.dK _) => some "dict"
    | some (.dT _) => some "dict"
    | _ => none
  | .ty _ => none
  | .obj _ => none
  | .rng _ _ => none
theorem tyOf_ok {ρ : List Addr} {H : Hp} {M : Store} (m : RM w ρ H M) {a : A} {v : V} {n : String} (i : Is ρ H a v) (e : tyOf? M a = some n) : TyX w.K H v (.type n) := by
  cases i with
  | non => cases e; exact .base .non
  | bl b => cases e; exact .base (.bl b)
  | int b => cases e; exact .base (.int b)
  | str b => cases e; exact .base (.str b)
  | tup h _ => cases e; exact .base (.tup h)
  | lst h =>
    simp only [tyOf?] at e
    cases el : listAt M _ with
    | none => rw [el] at e; cases e
    | some xs =>
      rw [el] at e; cases e
      unfold listAt at el
      split at el
      · rename_i c ec
        have r := m.at_ _ _ c h ec
        cases c with
        | lst ys => obtain ⟨vs, q, _⟩ := r; exact .base (.lst q)
        | frz ys =>
          obtain ⟨vs, q, _⟩ := r
          rcases q with (⟨o, q⟩ | q) | ⟨o, its, n, q1, q2, _⟩
          · exact .base (.frz q)
          · exact .base (.lst q)
          · exact .kList q1 q2
        | _ => cases el
      · cases el
  | dct h =>
    simp only [tyOf?] at e
    split at e
    · rename_i kvs ec; cases e; obtain ⟨vs, q, _⟩ := m.at_ _ _ _ h ec; exact .base (.dK q)
    · rename_i kvs ec; cases e; obtain ⟨vs, q, _⟩ := m.at_ _ _ _ h ec; exact .base (.dT q)
    · cases e
  | ty n => cases e
  | obj h => cases e
  | rng h => cases e
/-- the answer by the types' names (kitB's own, tabled) -/
def isiT (t c : String) : Option Bool :=
  if t = c then some true else
  if ["NoneType", "bool", "int", "str", "tuple", "list", "dict"].contains t = true ∧ ["bool", "int", "str", "tuple", "list", "dict"].contains c = true then some (t == "bool" && c == "int") else none
theorem isiT_ok {t c : String} {b : Bool} (h : isiT t c = some b) : kitB t c = some b := by
  unfold isiT at h
  split at h
  · rename_i e; subst e; cases h
    unfold kitB
    rw [if_pos (beq_self_eq_true _)]
  · split at h
    · rename_i ne hh
      obtain ⟨h1, h2⟩ := hh
      simp only [List.contains_eq_mem, List.mem_cons, List.not_mem_nil, or_false, decide_eq_true_eq] at h1 h2
      cases h
      rcases h1 with rfl | rfl | rfl | rfl | rfl | rfl | rfl <;> rcases h2 with rfl | rfl | rfl | rfl | rfl | rfl <;> first | exact absurd rfl ne | decide +kernel
    · cases h
def isiAny (t : String) : List A → Option Bool
  | [] => some false
  | .ty c :: cs => match isiT t c, isiAny t cs with
    | some a, some b => some (a || b)
    | _, _ => none
  | _ :: _ => none
def oIsi : On := fun as M => match as with
  | [x, .ty c] => match tyOf? M x with
    | some t => (isiT t c).map fun b => (.bl b, M)
    | none => none
  | [x, .tup cs] => match tyOf? M x with
    | some t => (isiAny t cs).map fun b => (.bl b, M)
    | none => none
  | _ => none
theorem isiAny_ok {ρ : List Addr} {H : Hp} {K : PySem.W.Frag} {t : String} : ∀ {cs : List A} {vs : List V} {b : Bool}, IsAll ρ H cs vs → isiAny t cs = some b → ∃ us, Paired ClsV vs us ∧ PySem.W.kitAny K (.type t) us = some b
  | [], _, b, .nil, e => by cases e; exact ⟨[], .nil, kitAny_nil⟩
  | c :: cs, _, b, .cons r rs, e => by
    cases r with
    | ty n =>
      simp only [isiAny] at e
      split at e
      · rename_i a b2 e1 e2; cases e
        obtain ⟨us, p, q⟩ := isiAny_ok rs e2
        exact ⟨_, .cons (.ty n) p, kitAny_cons (kit_ty (isiT_ok e1)) (fun z => by subst z; simpa using q) fun z => by subst z; rfl⟩
      · cases e
    | _ => simp only [isiAny] at e; cases e
theorem cr_isi : CallR X (.builtin "isinstance") (rn (X.am W.Tb) oIsi) := by
  intro pins s σ H xs us Q I r h
  obtain ⟨as, M, ρ, is, m, ro⟩ := h
  unfold oIsi at ro
  split at ro
  · rename_i x c
    cases is with
    | cons i1 is =>
      cases is with
      | cons i2 is =>
        cases is; cases i2
        split at ro
        · rename_i t et
          cases e1 : isiT t c with
          | none => rw [e1] at ro; exact ro.elim
          | some b =>
            rw [e1] at ro
            exact call_isi pins s σ H _ us Q I r ⟨_, _, _, _, b, rfl, .ty c, tyOf_ok m i1 et, kit_ty (isiT_ok e1), RO.val (ρ := ρ) (M := M) ro m (.bl _)⟩
        · exact ro.elim
  · rename_i x cs
    cases is with
    | cons i1 is =>
      cases is with
      | cons i2 is =>
        cases is
        cases i2 with
        | tup ht it =>
          split at ro
          · rename_i t et
            cases e1 : isiAny t cs with
            | none => rw [e1] at ro; exact ro.elim
            | some b =>
              rw [e1] at ro
              obtain ⟨ws, p, q⟩ := isiAny_ok (K := X.K) it e1
              exact call_isiT pins s σ H _ us Q I r ⟨_, _, _, _, ws, b, rfl, ht, p, tyOf_ok m i1 et, q, RO.val (ρ := ρ) (M := M) ro m (.bl _)⟩
          · exact ro.elim
  · exact ro.elim
/-- a built-in class as a value -/
theorem ae_type {x : Str} {n : String} (hm : X.mg x = none) (hg : Gl X x := by rfl) (hv : bootBuiltins x = some (.type n) := by decide +kernel) (hn : x ≠ "__name__" := by decide) (hd : (x == ("__debug__" : Str)) = false := by decide) : AE X W (.Name x pos) (eC (.ty n)) :=
  const_ok (fun _ _ => .ty n) (pe_bltn hg hm hv rfl hn hd)
/-! ### len -/
def oLen : On := fun as M => match as with
  | [.tup xs] => some (.int (xs.length : Nat), M)
  | [.lst l] => (listAt M l).map fun xs => (.int (xs.length : Nat), M)
  | [.str x] => if x.length ≤ sizeLine then some (.int (x.length : Nat), M) else none
  | [.dct d] => match M[d]? with
    | some (.dK kvs) => some (.int (kvs.length : Nat), M)
    | some (.dT kvs) => some (.int (kvs.length : Nat), M)
    | _ => none
  | _ => none
theorem cr_len : CallR X (.builtin "len") (rn (X.am W.Tb) oLen) := by
  intro pins s σ H xs us Q I r h
  obtain ⟨as, M, ρ, is, m, ro⟩ := h
  unfold oLen at ro
  split at ro
  · cases is with
    | cons i1 is =>
      cases is
      cases i1 with
      | tup ht it => exact call_len pins s σ H _ us Q I r ⟨_, _, rfl, .inr ⟨_, .inl (.inl ht), it.length⟩, ro.val m (.int _)⟩
  · rename_i l
    cases is with
    | cons i1 is =>
      cases is
      cases i1 with
      | lst hl =>
        cases el : listAt M l with
        | none => rw [el] at ro; exact ro.elim
        | some ys =>
          rw [el] at ro
          obtain ⟨vs, hq, iv⟩ := m.list hl el
          exact call_len pins s σ H _ us Q I r ⟨_, _, rfl, .inl ⟨_, hq, iv.length⟩, RO.val (ρ := ρ) (M := M) ro m (.int _)⟩
  · cases is with
    | cons i1 is =>
      cases is
      cases i1
      split at ro
      · rename_i hz
        exact call_len pins s σ H _ us Q I r ⟨_, _, rfl, ⟨hz, rfl⟩, ro.val m (.int _)⟩
      · exact ro.elim
  · rename_i d
    cases is with
    | cons i1 is =>
      cases is
      cases i1 with
      | dct hd =>
        split at ro
        · rename_i kvs ec
          obtain ⟨vs, q, iv⟩ := m.at_ _ _ _ hd ec
          refine call_lenD pins s σ H _ us Q I r ⟨_, _, rfl, q, ?_⟩
          have : ((kvs.map (·.1)).zip vs).length = kvs.length := by have := iv.length; simp only [List.length_zip, List.length_map] at this ⊢; omega
          rw [this]
          exact ro.val m (.int _)
        · rename_i kvs ec
          obtain ⟨vs, q, iv⟩ := m.at_ _ _ _ hd ec
          refine call_len_dT pins s σ H _ us Q I r ⟨_, _, rfl, q, ?_⟩
          have : ((kvs.map (·.1)).zip vs).length = kvs.length := by have := iv.length; simp only [List.length_zip, List.length_map] at this ⊢; omega
          rw [this]
          exact ro.val m (.int _)
        · exact ro.elim
  · exact ro.elim
/-! ### int, min, max, abs, tuple, list, all, any -/
def oInt1 : On := fun as M => match as with
  | [.int i] => some (.int i, M)
  | [.bl k] => some (.int (if k then 1 else 0), M)
  | _ => none
theorem cr_int : CallR X (.type "int") (rn (X.am W.Tb) oInt1) := by
  intro pins s σ H xs us Q I r h
  obtain ⟨as, M, ρ, is, m, ro⟩ := h
  unfold oInt1 at ro
  split at ro
  · cases is with
    | cons i1 is => cases is; cases i1; exact call_int1 pins s σ H _ us Q I r (.inl ⟨_, rfl, ro.val m (.int _)⟩)
  · cases is with
    | cons i1 is => cases is; cases i1; exact call_int1 pins s σ H _ us Q I r (.inr ⟨_, rfl, ro.val m (.int _)⟩)
  · exact ro.elim
def oMin2 : On := fun as M => match as with
  | [.int i, .int j] => some (.int (if j < i then j else i), M)
  | _ => none
theorem cr_min2 (hc : X.calm = true) : CallR X (.builtin "min") (rn (X.am W.Tb) oMin2) := by
  intro pins s σ H xs us Q I r h
  obtain ⟨as, M, ρ, is, m, ro⟩ := h
  unfold oMin2 at ro
  split at ro
  · cases is with
    | cons i1 is => cases is with
      | cons i2 is => cases is; cases i1; cases i2; exact call_min2 hc pins s σ H _ us Q I r ⟨_, _, rfl, ro.val m (.int _)⟩
  · exact ro.elim
def oMax2 : On := fun as M => match as with
  | [.int i, .int j] => some (.int (if j > i then j else i), M)
  | _ => none
theorem cr_max2 (hc : X.calm = true) : CallR X (.builtin "max") (rn (X.am W.Tb) oMax2) := by
  intro pins s σ H xs us Q I r h
  obtain ⟨as, M, ρ, is, m, ro⟩ := h
  unfold oMax2 at ro
  split at ro
  · cases is with
    | cons i1 is => cases is with
      | cons i2 is => cases is; cases i1; cases i2; exact call_max2 hc pins s σ H _ us Q I r ⟨_, _, rfl, ro.val m (.int _)⟩
  · exact ro.elim
def oTuple : On := fun as M => match as with
  | [.tup xs] => some (.tup xs, M)
  | [.lst l] => (listAt M l).map fun xs => (.tup xs, M)
  | _ => none
theorem cr_tuple : CallR X (.type "tuple") (rn (X.am W.Tb) oTuple) := by
  intro pins s σ H xs us Q I r h
  obtain ⟨as, M, ρ, is, m, ro⟩ := h
  unfold oTuple at ro
  split at ro
  · cases is with
    | cons i1 is =>
      cases is
      cases i1 with
      | tup ht it => exact call_tuple_of pins s σ H _ us Q I r ⟨_, _, rfl, .inr ⟨.inl (.inl ht), ro.val m (.tup ht it)⟩⟩
  · rename_i l
    cases is with
    | cons i1 is =>
      cases is
      cases i1 with
      | lst hl =>
        cases el : listAt M l with
        | none => rw [el] at ro; exact ro.elim
        | some ys =>
          rw [el] at ro
          obtain ⟨vs, hq, iv⟩ := m.list hl el
          exact call_tuple_of pins s σ H _ us Q I r ⟨_, _, rfl, .inl ⟨hq, fun p hp => RO.newT (M := M) ro m iv hp⟩⟩
  · exact ro.elim
/-- the keys of a dict of tuples -/
def keyA : Key → A
  | .inl i => .int i
  | .inr x => .str x
def oList : On := fun as M => match as with
  | [.tup xs] => some (.lst M.length, M ++ [.lst xs])
  | [.lst l] => (listAt M l).map fun xs => (.lst M.length, M ++ [.lst xs])
  | [.dct d] => match M[d]? with
    | some (.dK kvs) => some (.lst M.length, M ++ [.lst (kvs.map fun kv => keyA kv.1)])
    | some (.dT kvs) => some (.lst M.length, M ++ [.lst (kvs.map fun kv => .tup (kv.1.map keyA))])
    | _ => none
  | _ => none
theorem keyA_is {ρ : List Addr} {H : Hp} (k : Key) : Is ρ H (keyA k) (kV k) := by
  cases k with
  | inl i => exact .int i
  | inr x => exact .str x
theorem keysA_is {ρ : List Addr} {H : Hp} : ∀ ks : List Key, IsAll ρ H (ks.map keyA) (ks.map kV)
  | [] => .nil
  | k :: ks => .cons (keyA_is k) (keysA_is ks)
theorem map_zip_fst {κ β : Type} {ks : List κ} {vs : List β} (h : ks.length = vs.length) : (ks.zip vs).map (·.1) = ks := by
  induction ks generalizing vs with
  | nil => rfl
  | cons k ks ih =>
    cases vs with
    | nil => cases h
    | cons v vs => simp only [List.zip_cons_cons, List.map_cons]; rw [ih (by simpa using h)]
theorem isKeys_all {ρ : List Addr} {H : Hp} : ∀ {ks : List (List Key)} {vs : List V} {bs : List Addr}, ks.length = vs.length → IsKeys H (ks.zip vs) bs → IsAll ρ H (ks.map fun k => .tup (k.map keyA)) (bs.map V.ref)
  | [], _, bs, _, h => by
    cases h
    exact .nil
  | k :: ks, [], _, hl, _ => by cases hl
  | k :: ks, v :: vs, _, hl, h => by
    cases h with
    | cons h1 h2 => exact .cons (.tup h1 (keysA_is k)) (isKeys_all (by simpa using hl) h2)
theorem cr_list (hc : X.calm = true) : CallR X (.type "list") (rn (X.am W.Tb) oList) := by
  intro pins s σ H xs us Q I r h
  obtain ⟨as, M, ρ, is, m, ro⟩ := h
  unfold oList at ro
  split at ro
  · cases is with
    | cons i1 is =>
      cases is
      cases i1 with
      | tup ht it => exact call_list_of pins s σ H _ us Q I r ⟨_, _, rfl, .inr (.inl (.inl ht)), fun p hp => ro.newL m it hp⟩
  · rename_i l
    cases is with
    | cons i1 is =>
      cases is
      cases i1 with
      | lst hl =>
        cases el : listAt M l with
        | none => rw [el] at ro; exact ro.elim
        | some ys =>
          rw [el] at ro
          obtain ⟨vs, hq, iv⟩ := m.list hl el
          exact call_list_of pins s σ H _ us Q I r ⟨_, _, rfl, .inl hq, fun p hp => RO.newL (M := M) ro m iv hp⟩
  · rename_i d
    cases is with
    | cons i1 is =>
      cases is
      cases i1 with
      | dct hd =>
        split at ro
        · rename_i kvs ec
          obtain ⟨vs, q, iv⟩ := m.at_ _ _ _ hd ec
          have hl : (kvs.map (·.1)).length = vs.length := by have := iv.length; simpa using this
          refine call_list_dK hc pins s σ H _ us Q I r ⟨_, _, rfl, q, fun p hp => ?_⟩
          have e : ((kvs.map (·.1)).zip vs).map (fun kv => kV kv.1) = (kvs.map (·.1)).map kV := by
            rw [show (fun kv : Key × V => kV kv.1) = kV ∘ (·.1) from rfl, ← List.map_map, map_zip_fst hl]
          rw [e]
          have e2 : (kvs.map fun kv => keyA kv.1) = (kvs.map (·.1)).map keyA := by rw [List.map_map]; rfl
          rw [e2] at ro
          exact ro.newL m (keysA_is _) hp
        · rename_i kvs ec
          obtain ⟨vs, q, iv⟩ := m.at_ _ _ _ hd ec
          have hl : (kvs.map (·.1)).length = vs.length := by have := iv.length; simpa using this
          refine call_list_dT hc pins s σ H _ us Q I r ⟨_, _, rfl, .inl q, fun p bs hp hk => ?_⟩
          have e2 : (kvs.map fun kv => A.tup (kv.1.map keyA)) = (kvs.map (·.1)).map fun k => .tup (k.map keyA) := by rw [List.map_map]; rfl
          rw [e2] at ro
          exact ro.newL m (isKeys_all hl hk) hp
        · exact ro.elim
  · exact ro.elim
def bls? : List A → Option (List Bool)
  | [] => some []
  | .bl b :: r => (bls? r).map (b :: ·)
  | _ :: _ => none
theorem bls_ok {ρ : List Addr} {H : Hp} : ∀ {as : List A} {vs : List V} {bs : List Bool}, IsAll ρ H as vs → bls? as = some bs → vs = bs.map V.bl
  | [], _, bs, .nil, e => by cases e; rfl
  | a :: as, _, bs, .cons r rs, e => by
    cases r with
    | bl b =>
      simp only [bls?] at e
      cases e1 : bls? as with
      | none => rw [e1] at e; cases e
      | some bs' => rw [e1] at e; cases e; rw [bls_ok rs e1]; rfl
    | _ => simp only [bls?] at e; cases e
def oAll : On := fun as M => match as with
  | [.lst l] => ((listAt M l).bind bls?).map fun bs => (.bl (bs.all id), M)
  | _ => none
def oAny : On := fun as M => match as with
  | [.lst l] => ((listAt M l).bind bls?).map fun bs => (.bl (bs.any id), M)
  | _ => none
theorem cr_allA (hc : X.calm = true) : CallR X (.builtin "all") (rn (X.am W.Tb) oAll) := by
  intro pins s σ H xs us Q I r h
  obtain ⟨as, M, ρ, is, m, ro⟩ := h
  unfold oAll at ro
  split at ro
  · rename_i l
    cases is with
    | cons i1 is =>
      cases is
      cases i1 with
      | lst hl =>
        cases el : listAt M l with
        | none => rw [el] at ro; exact ro.elim
        | some ys =>
          obtain ⟨vs, hq, iv⟩ := m.list hl el
          cases eb : bls? ys with
          | none => rw [el, Option.bind_some, eb] at ro; exact ro.elim
          | some bs =>
            rw [el, Option.bind_some, eb] at ro
            rw [bls_ok iv eb] at hq
            exact cr_all hc pins s σ H _ us Q I r ⟨_, _, rfl, hq, RO.val (ρ := ρ) (M := M) ro m (.bl _)⟩
  · exact ro.elim
theorem cr_anyA (hc : X.calm = true) : CallR X (.builtin "any") (rn (X.am W.Tb) oAny) := by
  intro pins s σ H xs us Q I r h
  obtain ⟨as, M, ρ, is, m, ro⟩ := h
  unfold oAny at ro
  split at ro
  · rename_i l
    cases is with
    | cons i1 is =>
      cases is
      cases i1 with
      | lst hl =>
        cases el : listAt M l with
        | none => rw [el] at ro; exact ro.elim
        | some ys =>
          obtain ⟨vs, hq, iv⟩ := m.list hl el
          cases eb : bls? ys with
          | none => rw [el, Option.bind_some, eb] at ro; exact ro.elim
          | some bs =>
            rw [el, Option.bind_some, eb] at ro
            rw [bls_ok iv eb] at hq
            exact cr_any hc pins s σ H _ us Q I r ⟨_, _, rfl, hq, RO.val (ρ := ρ) (M := M) ro m (.bl _)⟩
  · exact ro.elim
end
end AB
/-! AB7: methods of lists, ranges as values -/
namespace AB
open PySem PySem.Spec PyProof.Rows L2
section
variable {X : Cx} {W : WR} {pos : Pos} {a b e : Expr} {es : List Expr} {f g : EF} {fs : EFs}
/-! ### list methods -/
abbrev OM := A → List A → Store → Option (A × Store)
def rm (w : Amb) (o : OM) : V → List V → Hp → VK → Prop := fun x xs H Q => ∃ a as M ρ, Is ρ H a x ∧ IsAll ρ H as xs ∧ RM w ρ H M ∧ RO w ρ H (o a as M) Q
def isL (M : Store) : A → Bool
  | .lst l => (listAt M l).isSome
  | _ => false
def eMeth (o : OM) (f : EF) (fs : EFs) : EF := fun τ M => (f τ M).bind fun a M1 => if isL M1 a = true then (fs τ M1).bind fun as M2 => toE (o a as M2) else .bad
def eMeth0 (o : OM) (f : EF) : EF := fun τ M => (f τ M).bind fun a M1 => if isL M1 a = true then toE (o a [] M1) else .bad
theorem isL_ok {ρ : List Addr} {H : Hp} {M : Store} (m : RM w ρ H M) {a : A} {v : V} (i : Is ρ H a v) (h : isL M a = true) : tyV w.K "list" v H := by
  cases i with
  | lst hl =>
    simp only [isL] at h
    cases el : listAt M _ with
    | none => rw [el] at h; cases h
    | some xs =>
      obtain ⟨vs, q, _⟩ := m.list hl el
      exact .inl ⟨rfl, vs, q⟩
  | _ => simp only [isL] at h; cases h
theorem ae_meth {o : OM} {name : Str} {id : String} {apos cpos : Pos} (slot : Slot "list" name id) (hty : typeOf (.builtin id) = pure (.type "method_descriptor")) (hm : MtR X id (rm (X.am W.Tb) o)) (ho : AE X W a f) (ha : AA X W (e :: es) fs)
    (hbase : attributeBase a name X.env (eval a X.env) = eval a X.env := by rfl)
    (hfew : ((backTo cpos (starEach (e :: es) X.env)).all (fun x => !x.1) && (backToKw cpos (keywordEach [] X.env)).all (fun x => x.1.isSome)
      && decide ((e :: es).length + ([] : List Keyword).length + (if ([] : List Keyword).isEmpty then 0 else 1) < 30)) = true := by rfl)
    (hline : (apos.endLine == cpos.line) = true := by rfl) (hs : starEach (e :: es) X.env = (false, eval e X.env) :: starEach es X.env := by rfl) (hplain : (backTo cpos (starEach es X.env)).any (·.1) = false := by rfl) :
    AE X W (.Call (.Attribute a name apos) (e :: es) [] cpos) (eMeth o f fs) := (pe_bm PySem.F.plainAttrs_list slot hty hm ho ha hbase hfew hline hs hplain).pre fun σ H Q h => by
  refine (seqG Is h).imp fun x H1 h1 => ?_
  obtain ⟨τ, M, ρ, c, rs, rm', i, r⟩ := h1
  have r : RE (X.gx W.Tb) W σ ρ H1 Is (if isL M c = true then (fs τ M).bind fun as M2 => toE (o c as M2) else .bad) Q := r
  split at r
  · rename_i hl
    refine ⟨isL_ok rm' i hl, τ, M, ρ, rs, rm', ?_⟩
    cases e2 : fs τ M with
    | ok as M2 =>
      rw [e2] at r
      intro vs H2 ρ2 x g m is
      have r := RE.mono r x g
      exact ⟨c, as, M2, ρ2, i.mono x g, is, m, RO.of r⟩
    | ex en M2 => rw [e2] at r; exact r
    | bad => rw [e2] at r; exact r
  · exact r.elim
theorem ae_meth0 {o : OM} {name : Str} {id : String} {apos cpos : Pos} (slot : Slot "list" name id) (hty : typeOf (.builtin id) = pure (.type "method_descriptor")) (hm : MtR X id (rm (X.am W.Tb) o)) (ho : AE X W a f)
    (hbase : attributeBase a name X.env (eval a X.env) = eval a X.env := by rfl) (hline : (apos.endLine == cpos.line) = true := by rfl) : AE X W (.Call (.Attribute a name apos) [] [] cpos) (eMeth0 o f) := (pe_bm0 PySem.F.plainAttrs_list slot hty hm ho hbase hline).pre fun σ H Q h => by
  refine (seqG Is h).imp fun x H1 h1 => ?_
  obtain ⟨τ, M, ρ, c, rs, rm', i, r⟩ := h1
  have r : RE (X.gx W.Tb) W σ ρ H1 Is (if isL M c = true then toE (o c [] M) else .bad) Q := r
  split at r
  · rename_i hl
    exact ⟨isL_ok rm' i hl, c, [], M, ρ, i, .nil, rm', RO.of r⟩
  · exact r.elim
def oAppend : OM := fun x as M => match x, as with
  | .lst l, [y] => match M[l]? with
    | some (.lst xs) => if xs.length < sizeLine then some (.non, M.set l (.lst (xs ++ [y]))) else none
    | _ => none
  | _, _ => none
theorem mt_appendA : MtR X "list.append" (rm (X.am W.Tb) oAppend) := by
  intro pins s σ H x xs v us Q I rx rxs h
  obtain ⟨a, as, M, ρ, ia, is, m, ro⟩ := h
  unfold oAppend at ro
  split at ro
  · rename_i l y
    cases is with
    | cons i1 is =>
      cases is
      cases ia with
      | lst hl =>
        split at ro
        · rename_i ys ec
          split at ro
          · rename_i hz
            obtain ⟨vs, hh, iv⟩ := m.lstM hl ec
            exact mt_append pins s σ H _ _ v us Q I rx rxs ⟨_, _, _, rfl, rfl, hh, by rw [← iv.length]; exact hz, ro.setL m hl ec (iv.append (.cons i1 .nil)) .non⟩
          · exact ro.elim
        · exact ro.elim
  · exact ro.elim
theorem IsAll.dropLast {ρ : List Addr} {H : Hp} {ts : List A} {vs : List V} (r : IsAll ρ H ts vs) : IsAll ρ H ts.dropLast vs.dropLast := by
  rw [List.dropLast_eq_take, List.dropLast_eq_take, r.length]
  exact r.take _
def oPop : OM := fun x as M => match x, as with
  | .lst l, [] => match M[l]? with
    | some (.lst xs) => match xs[xs.length - 1]? with
      | some y => some (y, M.set l (.lst xs.dropLast))
      | none => none
    | _ => none
  | .lst l, [.int i] => match M[l]? with
    | some (.lst xs) => if -(2 ^ 63) ≤ i ∧ i < 2 ^ 63 then match seqIndex? i xs.length with
        | some k => match xs[k]? with
          | some y => some (y, M.set l (.lst (xs.eraseIdx k)))
          | none => none
        | none => none
      else none
    | _ => none
  | _, _ => none
theorem mt_popA : MtR X "list.pop" (rm (X.am W.Tb) oPop) := by
  intro pins s σ H x xs v us Q I rx rxs h
  obtain ⟨a, as, M, ρ, ia, is, m, ro⟩ := h
  unfold oPop at ro
  split at ro
  · cases is
    cases ia with
    | lst hl =>
      split at ro
      · rename_i ys ec
        split at ro
        · rename_i y ey
          obtain ⟨vs, hh, iv⟩ := m.lstM hl ec
          obtain ⟨w, hw, iw⟩ := iv.get ey
          exact mt_pop pins s σ H _ _ v us Q I rx rxs ⟨_, _, w, rfl, rfl, hh, by rw [← iv.length]; exact hw, ro.setL m hl ec iv.dropLast iw⟩
        · exact ro.elim
      · exact ro.elim
  · rename_i l i
    cases is with
    | cons i1 is =>
      cases is; cases i1
      cases ia with
      | lst hl =>
        split at ro
        · rename_i ys ec
          split at ro
          · rename_i hb
            split at ro
            · rename_i k ek
              split at ro
              · rename_i y ey
                obtain ⟨vs, hh, iv⟩ := m.lstM hl ec
                obtain ⟨w, hw, iw⟩ := iv.get ey
                exact mt_popAt pins s σ H _ _ v us Q I rx rxs ⟨_, _, _, k, w, rfl, rfl, hh, hb.1, hb.2, by rw [← iv.length]; exact ek, hw, ro.setL m hl ec (iv.eraseIdx k) iw⟩
              · exact ro.elim
            · exact ro.elim
          · exact ro.elim
        · exact ro.elim
  · exact ro.elim
/-- the first place of an equal flat item -/
def ixFlat (y : V) : List V → Nat → Option Nat
  | [], _ => none
  | x :: xs, j => if eqV x y = true then some j else ixFlat y xs (j + 1)
theorem ixFlat_ok {y : V} : ∀ {xs : List V} {j n : Nat}, ixFlat y xs j = some n → ∃ k z, n = j + k ∧ xs[k]? = some z ∧ eqV z y = true ∧ ∀ (m : Nat) (z' : V), m < k → xs[m]? = some z' → eqV z' y = false
  | [], _, _, e => by cases e
  | x :: xs, j, n, e => by
    unfold ixFlat at e
    split at e
    · rename_i h; cases e
      exact ⟨0, x, rfl, rfl, h, fun m z' hm => absurd hm (Nat.not_lt_zero m)⟩
    · rename_i h
      obtain ⟨k, z, e1, e2, e3, e4⟩ := ixFlat_ok e
      refine ⟨k + 1, z, by omega, by simpa using e2, e3, fun m z' hm hz => ?_⟩
      cases m with
      | zero => simp at hz; subst hz; simpa using h
      | succ m => exact e4 m z' (by omega) (by simpa using hz)
def oIndex : OM := fun x as M => match x, as with
  | .lst l, [y] => match listAt M l with
    | some xs => match flat? y, xs.mapM flat? with
      | some w, some ws => (ixFlat w ws 0).map fun j => (.int (j : Nat), M)
      | _, _ => none
    | none => none
  | _, _ => none
theorem mt_indexA : MtR X "list.index" (rm (X.am W.Tb) oIndex) := by
  intro pins s σ H x xs v us Q I rx rxs h
  obtain ⟨a, as, M, ρ, ia, is, m, ro⟩ := h
  unfold oIndex at ro
  split at ro
  · rename_i l y
    cases is with
    | cons i1 is =>
      cases is
      cases ia with
      | lst hl =>
        split at ro
        · rename_i ys el
          split at ro
          · rename_i w ws e1 e2
            obtain ⟨vs, hq, iv⟩ := m.list hl el
            obtain ⟨rfl, f1⟩ := flat_ok i1 e1
            obtain ⟨rfl, f2⟩ := flats_ok iv e2
            cases e3 : ixFlat _ vs 0 with
            | none => rw [e3] at ro; exact ro.elim
            | some j =>
              rw [e3] at ro
              obtain ⟨k, z, h1, h2, h3, h4⟩ := ixFlat_ok e3
              have : j = k := by omega
              subst this
              exact mt_index pins s σ H _ _ v us Q I rx rxs ⟨_, _, _, j, z, rfl, rfl, hq, f1, f2, h2, h3, h4, RO.val (ρ := ρ) (M := M) ro m (.int _)⟩
          · exact ro.elim
        · exact ro.elim
  · exact ro.elim
def oExtend : OM := fun x as M => match x, as with
  | .lst l, [.lst k] => match M[l]?, M[k]? with
    | some (.lst xs), some (.lst ys) => if xs.length + ys.length ≤ sizeLine then some (.non, M.set l (.lst (xs ++ ys))) else none
    | _, _ => none
  | _, _ => none
theorem mt_extendA : MtR X "list.extend" (rm (X.am W.Tb) oExtend) := by
  intro pins s σ H x xs v us Q I rx rxs h
  obtain ⟨a, as, M, ρ, ia, is, m, ro⟩ := h
  unfold oExtend at ro
  split at ro
  · rename_i l k
    cases is with
    | cons i1 is =>
      cases is
      cases ia with
      | lst hl =>
        cases i1 with
        | lst hk =>
          split at ro
          · rename_i ys zs e1 e2
            split at ro
            · rename_i hz
              obtain ⟨vs, hh, iv⟩ := m.lstM hl e1
              obtain ⟨ws, hh2, iw⟩ := m.lstM hk e2
              exact mt_extend pins s σ H _ _ v us Q I rx rxs ⟨_, _, _, _, rfl, rfl, hh, hh2, by rw [← iv.length, ← iw.length]; exact hz, ro.setL m hl e1 (iv.append iw) .non⟩
            · exact ro.elim
          · exact ro.elim
  · exact ro.elim
theorem ae_append {apos cpos : Pos} (ho : AE X W a f) (ha : AA X W [e] fs) (hbase : attributeBase a "append" X.env (eval a X.env) = eval a X.env := by rfl)
    (hfew : ((backTo cpos (starEach [e] X.env)).all (fun x => !x.1) && (backToKw cpos (keywordEach [] X.env)).all (fun x => x.1.isSome)
      && decide ([e].length + ([] : List Keyword).length + (if ([] : List Keyword).isEmpty then 0 else 1) < 30)) = true := by rfl)
    (hline : (apos.endLine == cpos.line) = true := by rfl) (hs : starEach [e] X.env = (false, eval e X.env) :: starEach [] X.env := by rfl) (hplain : (backTo cpos (starEach [] X.env)).any (·.1) = false := by rfl) :
    AE X W (.Call (.Attribute a "append" apos) [e] [] cpos) (eMeth oAppend f fs) := ae_meth PySem.F.slot_list_append PySem.F.type_list_append mt_appendA ho ha hbase hfew hline hs hplain
theorem ae_pop1 {apos cpos : Pos} (ho : AE X W a f) (ha : AA X W [e] fs) (hbase : attributeBase a "pop" X.env (eval a X.env) = eval a X.env := by rfl)
    (hfew : ((backTo cpos (starEach [e] X.env)).all (fun x => !x.1) && (backToKw cpos (keywordEach [] X.env)).all (fun x => x.1.isSome)
      && decide ([e].length + ([] : List Keyword).length + (if ([] : List Keyword).isEmpty then 0 else 1) < 30)) = true := by rfl)
    (hline : (apos.endLine == cpos.line) = true := by rfl) (hs : starEach [e] X.env = (false, eval e X.env) :: starEach [] X.env := by rfl) (hplain : (backTo cpos (starEach [] X.env)).any (·.1) = false := by rfl) :
    AE X W (.Call (.Attribute a "pop" apos) [e] [] cpos) (eMeth oPop f fs) := ae_meth PySem.F.slot_list_pop PySem.F.type_list_pop mt_popA ho ha hbase hfew hline hs hplain
theorem ae_pop0 {apos cpos : Pos} (ho : AE X W a f) (hbase : attributeBase a "pop" X.env (eval a X.env) = eval a X.env := by rfl) (hline : (apos.endLine == cpos.line) = true := by rfl) :
    AE X W (.Call (.Attribute a "pop" apos) [] [] cpos) (eMeth0 oPop f) := ae_meth0 PySem.F.slot_list_pop PySem.F.type_list_pop mt_popA ho hbase hline
theorem ae_index {apos cpos : Pos} (ho : AE X W a f) (ha : AA X W [e] fs) (hbase : attributeBase a "index" X.env (eval a X.env) = eval a X.env := by rfl)
    (hfew : ((backTo cpos (starEach [e] X.env)).all (fun x => !x.1) && (backToKw cpos (keywordEach [] X.env)).all (fun x => x.1.isSome)
      && decide ([e].length + ([] : List Keyword).length + (if ([] : List Keyword).isEmpty then 0 else 1) < 30)) = true := by rfl)
    (hline : (apos.endLine == cpos.line) = true := by rfl) (hs : starEach [e] X.env = (false, eval e X.env) :: starEach [] X.env := by rfl) (hplain : (backTo cpos (starEach [] X.env)).any (·.1) = false := by rfl) :
    AE X W (.Call (.Attribute a "index" apos) [e] [] cpos) (eMeth oIndex f fs) := ae_meth PySem.F.slot_list_index PySem.F.type_list_index mt_indexA ho ha hbase hfew hline hs hplain
theorem ae_extend {apos cpos : Pos} (ho : AE X W a f) (ha : AA X W [e] fs) (hbase : attributeBase a "extend" X.env (eval a X.env) = eval a X.env := by rfl)
    (hfew : ((backTo cpos (starEach [e] X.env)).all (fun x => !x.1) && (backToKw cpos (keywordEach [] X.env)).all (fun x => x.1.isSome)
      && decide ([e].length + ([] : List Keyword).length + (if ([] : List Keyword).isEmpty then 0 else 1) < 30)) = true := by rfl)
    (hline : (apos.endLine == cpos.line) = true := by rfl) (hs : starEach [e] X.env = (false, eval e X.env) :: starEach [] X.env := by rfl) (hplain : (backTo cpos (starEach [] X.env)).any (·.1) = false := by rfl) :
    AE X W (.Call (.Attribute a "extend" apos) [e] [] cpos) (eMeth oExtend f fs) := ae_meth PySem.F.slot_list_extend PySem.F.type_list_extend mt_extendA ho ha hbase hfew hline hs hplain
/-! ### list(range(..)), tuple(range(..)) -/
def rgA (a b : Int) : List A := (List.range (b - a).toNat).map fun i => A.int (a + (i : Nat))
theorem rgA_is {ρ : List Addr} {H : Hp} (a b : Int) : IsAll ρ H (rgA a b) (rgV a b) := by
  unfold rgA rgV
  generalize List.range (b - a).toNat = l
  induction l with
  | nil => exact .nil
  | cons i l ih => exact .cons (.int _) ih
def rgOk (a b : Int) : Bool := decide (-(2 ^ 62) ≤ a ∧ a < 2 ^ 62 ∧ -(2 ^ 62) ≤ b ∧ b < 2 ^ 62 ∧ (b - a).toNat ≤ 2 ^ 24)
abbrev ER := Sl → Store → EO (Int × Int)
def g1 (f : EF) : ER := fun τ M => (f τ M).bind fun a M1 => match a with
  | .int n => .ok (0, n) M1
  | _ => .bad
abbrev relR : Rel (Int × Int) (Int × Int) := fun _ _ a b => a = b
def AR (X : Cx) (W : WR) (e : Expr) (f : ER) : Prop := PRg X e (fun σ H R => tG (X.gx W.Tb) W relR f σ H fun p H1 => R p.1 p.2 H1)
theorem ar_1 {p pos : Pos} (hm : X.mg "range" = none) (ha : AE X W a f) (hg : Gl X "range" := by rfl) (na : starEach [a] X.env = (false, eval a X.env) :: starEach [] X.env := by rfl) : AR X W (.Call (.Name "range" p) [a] [] pos) (g1 f) := by
  intro pins s σ H Q I h
  refine prg_1 hg hm ha na pins s σ H Q I ((seqG Is h).imp fun x H1 h1 => ?_)
  obtain ⟨τ, M, ρ, c, rs, rm', i, r⟩ := h1
  cases c with
  | int n => cases i; exact ⟨n, rfl, RE.okv (a := (0, n)) (M := M) (rel := relR) (b := (0, n)) r (.refl _) (.refl _) rm' rfl⟩
  | _ => exact r.elim
def eLrg (f : ER) : EF := fun τ M => (f τ M).bind fun p M1 => if rgOk p.1 p.2 = true then .ok (.lst M1.length) (M1 ++ [.lst (rgA p.1 p.2)]) else .bad
def eTrg (f : ER) : EF := fun τ M => (f τ M).bind fun p M1 => if rgOk p.1 p.2 = true then .ok (.tup (rgA p.1 p.2)) M1 else .bad
theorem ae_lrg {p pos : Pos} {fr : ER} (hc : X.calm = true) (hm : X.mg "list" = none) (he : AR X W e fr) (hg : Gl X "list" := by rfl) (na : starEach [e] X.env = (false, eval e X.env) :: starEach [] X.env := by rfl) : AE X W (.Call (.Name "list" p) [e] [] pos) (eLrg fr) := (pe_listRg hc hg hm he na).pre fun σ H Q h => by
  refine (seqG relR h).imp fun x H1 h1 => ?_
  obtain ⟨τ, M, ρ, c, rs, rm', i, r⟩ := h1
  have i : c = x := i
  subst i
  have r : RE (X.gx W.Tb) W σ ρ H1 Is (if rgOk c.1 c.2 = true then .ok (.lst M.length) (M ++ [.lst (rgA c.1 c.2)]) else .bad) Q := r
  split at r
  · rename_i hz
    refine ⟨by unfold rgOk at hz; unfold RgOk; exact of_decide_eq_true hz, fun q hq => ?_⟩
    exact r.okv (.snoc _ q) (.new hq) (rm'.push hq ⟨_, upd_same, rgA_is _ _⟩) (.lst (by rw [← rm'.len]; simp))
  · exact r.elim
theorem ae_trg {p pos : Pos} {fr : ER} (hc : X.calm = true) (hm : X.mg "tuple" = none) (he : AR X W e fr) (hg : Gl X "tuple" := by rfl) (na : starEach [e] X.env = (false, eval e X.env) :: starEach [] X.env := by rfl) : AE X W (.Call (.Name "tuple" p) [e] [] pos) (eTrg fr) := (pe_tupRg hc hg hm he na).pre fun σ H Q h => by
  refine (seqG relR h).imp fun x H1 h1 => ?_
  obtain ⟨τ, M, ρ, c, rs, rm', i, r⟩ := h1
  have i : c = x := i
  subst i
  have r : RE (X.gx W.Tb) W σ ρ H1 Is (if rgOk c.1 c.2 = true then .ok (.tup (rgA c.1 c.2)) M else .bad) Q := r
  split at r
  · rename_i hz
    refine ⟨by unfold rgOk at hz; unfold RgOk; exact of_decide_eq_true hz, fun q hq => ?_⟩
    exact r.okv (.refl _) (.new hq) (rm'.new hq) (.tup upd_same (rgA_is _ _))
  · exact r.elim
end
end AB
/-! AB8: enumerate of a tuple -/
namespace ET
open PySem PySem.Spec PyProof.Rows L2
open AutoSeq1 (wpAny_loadPart')
theorem meets_enumerate_newT (l : Addr) (items : Array Value) (n : Nat) (dct : Option Addr) (sl : Array (Option Value)) :
    Meets (Builtin.«enumerate.__new__» ⟨[.type "enumerate", .ref l], []⟩) (fun _ R s => s.heap.get? l = some { cls := .type "tuple", dict := dct, data := .seq items n, slots := sl } ∧
      R (.ok (.ret (.ref (s.heap.push { cls := .type "tuple_iterator", data := .fields #[.ref l, .int 0 0] }).objs.size)))
        { s with heap := (s.heap.push { cls := .type "tuple_iterator", data := .fields #[.ref l, .int 0 0] }).push { cls := .type "enumerate", data := .fields #[.none, .bool false, .ref s.heap.objs.size, rawInt 0, .none, .none] } }) :=
  .of_wp fun prog w A R s h => by
    obtain ⟨hp, g, d, tk, os⟩ := s; obtain ⟨hl, h⟩ := h
    have hsub := sub_enumerate
    have hL : Heap.IsTuple (Shared.heap ⟨hp, g, d, tk, os⟩) l items := ⟨_, hl, rfl, n, rfl⟩
    wp_walk using wpAny_loadPart' hl
    refine wpAny_stack_any fun st => wpAny_pure ?_
    split
    · rename_i c _ _ _ _ _
      cases (c == Value.type "enumerate")
      · wp_walk using wpAny_loadPart' hl, wpAny_pyIter_tuple hL
        exact ⟨_, rfl, h⟩
      · wp_walk using wpAny_loadPart' hl, wpAny_pyIter_tuple hL
        exact ⟨_, rfl, h⟩
    · wp_walk using wpAny_loadPart' hl, wpAny_pyIter_tuple hL
      exact ⟨_, rfl, h⟩
section
variable {prog : Program} {w : World} {A : Around} {E : Value → Shared → Prop} {s : Shared}
theorem call_enumerate_tup {l : Addr} {items : Array Value} {Q : Value → Shared → Prop} (hL : s.heap.IsTuple l items)
    (h : ∀ h', IsEnum h' (s.heap.objs.size + 1) s.heap.objs.size 0 .none → h'.IsTupleIter s.heap.objs.size l 0 → h'.objs.size = s.heap.objs.size + 2 →
      (∀ b o, s.heap.get? b = some o → h'.get? b = some o) → Q (.ref (s.heap.objs.size + 1)) { s with heap := h' }) :
    wpAny (model prog w) A (call (.type "enumerate") [.ref l]) Q E s := by
  obtain ⟨⟨c, dct, dt, sl⟩, hl, hc, n, hd⟩ := hL
  replace hc : c = .type "tuple" := hc
  replace hd : dt = .seq items n := hd
  subst hc hd
  refine callType_new F.called_enumerate (by decide) (F.typeCall_enumerate_1 _) (F.newCall_enumerate_1 _) (fun obj => F.args_object_init_2 obj _) F.entry_enumerate_new
    (meets_enumerate_newT l items n dct sl) ⟨hl, ?_⟩
  have hz : (s.heap.push { cls := .type "tuple_iterator", data := .fields #[.ref l, .int 0 0] }).objs.size = s.heap.objs.size + 1 := Heap.size_push ..
  show _ ∧ _
  rw [hz]
  have he : IsEnum ((s.heap.push { cls := .type "tuple_iterator", data := .fields #[.ref l, .int 0 0] }).push
      { cls := .type "enumerate", data := .fields #[.none, .bool false, .ref s.heap.objs.size, rawInt 0, .none, .none] }) (s.heap.objs.size + 1) s.heap.objs.size 0 .none := by
    have := Heap.get?_push_size (s.heap.push { cls := .type "tuple_iterator", data := .fields #[.ref l, .int 0 0] })
      (o := { cls := .type "enumerate", data := .fields #[.none, .bool false, .ref s.heap.objs.size, rawInt 0, .none, .none] }) rfl
    rw [hz] at this; exact this
  refine ⟨⟨_, he, rfl⟩, h _ he ⟨_, Heap.get?_push_of_some _ (Heap.get?_push_size _ rfl), rfl, rfl⟩ (by rw [Heap.size_push, hz]) fun b o x => Heap.get?_push_of_some _ (Heap.get?_push_of_some _ x)⟩
end
theorem enum_end_tup {prog : Program} {w : World} {A : Around} {E : Value → Shared → Prop} {s : Shared} {e it l : Addr} {i : Nat} {items : Array Value} {old : Value} {Q : Option Value → Shared → Prop} (hh : A.handled = none)
    (he : IsEnum s.heap e it i old) (hit : s.heap.IsTupleIter it l i) (hl : s.heap.IsTuple l items) (hx : items[i]? = none)
    (hQ : ∀ h', Heap.ExtBut it s.heap h' → Q none { s with heap := h' }) : wpAny (model prog w) A (pyNext (.ref e)) Q E s := by
  have hT : s.TypeIs (.ref e) "enumerate" := ⟨_, he, rfl⟩
  unfold pyNext
  refine wpAny_bind (wpAny_attempt (wpAny_callSpecial?_slot (name := Str.ofString "__next__") hT F.slot_enumerate_next
    (wpAny_call_entry F.slot_enumerate_next hT F.entry_enumerate_next ?_ (F.args_enumerate_next_1 _))))
  show wpAny _ _ (field (.ref e) 2 >>= _) _ _ _
  refine wpAny_bind (wpAny_field he rfl (x := .ref it) rfl ?_)
  refine wpAny_bind (wpAny_nextOf_tuple_end (by first | exact hh | (show A.in1.handled = none; exact hh)) hit hl hx fun h' x he' hx' => ?_)
  obtain ⟨o, ho, hc⟩ := hx'
  refine wpAny_bind (wpAny_isInstance (T := "StopIteration") (b := true) ⟨o, ho, hc⟩ isSubtype_stop ?_)
  exact wpAny_pure (hQ _ he')
/-- each item of the tuple at a in a new pair -/
def ItE (K : PySem.W.Frag) (a : Addr) : It :=
  ⟨fun i H => ∃ (xs : List V) (x : V), SqT K H a xs ∧ xs[i]? = some x, fun i H v H' => ∃ T x, v = .ref T ∧ H T = none ∧ H' = upd H T (.tup [.int (i : Nat), x]) ∧ ∀ xs, SqT K H a xs → xs[i]? = some x, fun i H => ∃ xs : List V, SqT K H a xs ∧ xs.length ≤ i⟩
theorem turn_enumT {P : Program} {w : World} {K : PySem.W.Frag} {elts : List Expr} {kk : Nat} {tpos : Pos} (a e it : Addr) :
    Turn P w K (.Tuple elts kk tpos) (ItE K a) [e, it] e (fun i h => (∃ old, IsEnum h e it ((i : Nat) : Int) old) ∧ h.IsTupleIter it a i ∧ e ≠ it) where
  mem := by simp
  obj := fun i h st b hb => by
    obtain ⟨⟨old, he⟩, ⟨o, ho, hc, hd⟩, _⟩ := st
    have e' : b = e ∨ b = it := by simpa using hb
    rcases e' with z | z
    · rw [z]; exact ⟨_, he, fun v q => nomatch q⟩
    · rw [z]; exact ⟨o, ho, fun v q => by rw [hd] at q; cases q⟩
  keep := fun i h h' st k => let ⟨⟨old, he⟩, hi, hne⟩ := st; ⟨⟨old, k e (by simp) _ he⟩, hi.at fun o q => k it (by simp) o q, hne⟩
  item := by
    intro X hP hw hK hc i pins s σ H E I hf st hg
    subst hP hw hK
    obtain ⟨⟨old, he⟩, hit, hne⟩ := st
    obtain ⟨xs, x, hq, hx⟩ := hg
    obtain ⟨its, rv, p, hz⟩ := I.tuple hq
    obtain ⟨u, hu, ru⟩ := rv.get hx
    have hel : e < s.heap.objs.size := Heap.lt_size he
    have hil : it < s.heap.objs.size := by obtain ⟨_, q, _⟩ := hit; exact Heap.lt_size q
    obtain ⟨ob, hob, hcb, nb, hdb⟩ := id (show s.heap.IsTuple a its.toArray from p)
    have hae : a ≠ e := fun z => by
      subst z
      rw [he] at hob; cases hob; exact absurd (Value.type.inj hcb) (by decide)
    have hai : a ≠ it := fun z => by
      subst z
      obtain ⟨o2, q1, q2, _⟩ := hit
      rw [q1] at hob; cases hob; rw [q2] at hcb; exact absurd (Value.type.inj hcb) (by decide)
    have D := Draws.tuple (prog := X.prog) (w := X.w) (A := X.A.in1) (I.ok.hd hc) it a hai its.toArray
    have hlt : i < its.toArray.size := by
      have := (List.getElem?_eq_some_iff.mp hu).1
      simpa using this
    refine wpAny_pyNext_enum_itemD (i := i) D he ⟨hit, show s.heap.IsTuple a its.toArray from p⟩ hlt hne (by simp [hne, Ne.symm hae]) fun u' h' tk hu' ho hit' hT hsz hk => ?_
    have hu' : its.toArray[i]? = some u' := hu'
    have eu : u' = u := by
      have q : its.toArray[i]? = some u := by simpa using hu
      rw [q] at hu'; exact (Option.some.inj hu').symm
    subst eu
    refine ⟨_, rfl, wpAny_letOwnedTupleGo_enum (s := { s with heap := h', toks := tk + 1 }) ho fun h'' he' sb => ?_⟩
    have hT2 : h''.get? s.heap.objs.size = some { cls := .type "tuple", data := .seq #[.int i tk, u'] } := (sb.2 _ (Nat.ne_of_gt hel)).trans hT
    have new : ObjOk X.prog X.w (upd H s.heap.objs.size (.tup [.int (i : Nat), x])) h'' s.heap.objs.size (.tup [.int (i : Nat), x]) :=
      ⟨by show 2 ≤ sizeLine; decide, [.int i tk, u'], .cons ⟨_, rfl⟩ (.cons ru .nil), ⟨_, hT2, rfl, _, rfl⟩⟩
    have I1 : Inv X pins σ (upd H s.heap.objs.size (.tup [.int (i : Nat), x])) { s with heap := h'', toks := tk + 1 } :=
      I.turnedNew (ch := [e, it]) (fun b ob hb q => (sb.2 b (fun z => hb (by simp [z]))).trans (hk b ob (fun z => hb (by simp [z])) (fun z => hb (by simp [z])) q)) hf (Nat.le_refl _) new
    refine ⟨.ref s.heap.objs.size, _, I1, rfl, ⟨_, x, rfl, I.hok.fresh (Nat.le_refl _), rfl, fun ys hy => by rw [I.tuple_inj hy hq]; exact hx⟩, ⟨⟨u', ?_⟩, hit'.1.at fun o q => (sb.2 it (Ne.symm hne)).trans q, hne⟩, fun b hb => ?_⟩
    · have e1 : ((i + 1 : Nat) : Int) = (i : Int) + 1 := by omega
      rw [e1]; exact he'
    · have hb' : b < s.heap.objs.size := by
        have e' : b = e ∨ b = it := by simpa using hb
        rcases e' with z | z
        · rw [z]; exact hel
        · rw [z]; exact hil
      rw [upd_ne (Nat.ne_of_lt hb')]
      exact (hf b hb).1
  done := by
    intro X hP hw hK hc i pins s σ H E I hf st hg
    subst hP hw hK
    obtain ⟨⟨old, he⟩, hit, hne⟩ := st
    obtain ⟨xs, hq, hx⟩ := hg
    obtain ⟨its, rv, p, hz⟩ := I.tuple hq
    obtain ⟨f0, f1, f2, f3, f4, f5⟩ := hf it (by simp)
    obtain ⟨ob, hob, hcb, nb, hdb⟩ := id (show s.heap.IsTuple a its.toArray from p)
    have hai : a ≠ it := fun z => by
      subst z
      obtain ⟨o2, q1, q2, _⟩ := hit
      rw [q1] at hob; cases hob; rw [q2] at hcb; exact absurd (Value.type.inj hcb) (by decide)
    have D := Draws.tuple (prog := X.prog) (w := X.w) (A := X.A.in1) (I.ok.hd hc) it a hai its.toArray
    have hl := rv.length
    -- the iterator's own place lies at the end or beyond: both read as its end
    exact enum_end_tup (I.ok.hd hc) he hit (show s.heap.IsTuple a its.toArray from p) (by simp; omega) fun h' eb => ⟨rfl, I.turned (t' := s.toks) (fun b o hb q => eb b o hb q) f0 f1 f3 f4 f5⟩
  self := fun A i s Q E st h => let ⟨⟨_, he⟩, _⟩ := st; wpAny_pyIter_enum he h
end ET
namespace ET
open PySem PySem.Spec PyProof.Rows L2
def iEnumT (K : PySem.W.Frag) (ta : TA) : TI := fun σ H R => ta σ H fun vs H1 => ∃ a xs, vs = [.ref a] ∧ SqT K H1 a xs ∧ R (ItE K a) H1
theorem pi_enumT {X : Cx} {e : Expr} {ta : TA} {p pos tpos : Pos} {elts : List Expr} {kk : Nat} (hg : Gl X "enumerate") (hm : X.mg "enumerate" = none) (ha : PA X [e] ta) (hs : starEach [e] X.env = [(false, eval e X.env)] := by rfl) :
    PI X (.Tuple elts kk tpos) (.Call (.Name "enumerate" p) [e] [] pos) (iEnumT X.K ta) := by
  refine ⟨fun pins s σ H R I h => ?_⟩
  refine Call_ (ld_blt I hg hm boot_enumerate (PyProof.Rows.callWith_type1 (thn (ha.run pos pins s σ H _ I h) fun us s1 ⟨vs, H1, I1, r1, q1⟩ => ?_) hs rfl))
  obtain ⟨a, xs, ex, hq, q⟩ := q1
  subst ex
  cases r1 with
  | cons r rr =>
    cases rr
    cases r
    obtain ⟨its, rv, p', hz⟩ := I1.tuple hq
    refine call_enumerate_tup (show s1.heap.IsTuple a its.toArray from p') fun h' he hit hsz hk => wpAny_pyIter_enum he ?_
    have I2 : Inv X pins σ H1 { s1 with heap := h' } := I1.kept (t' := s1.toks) hk
    refine ⟨s1.heap.objs.size + 1, [s1.heap.objs.size + 1, s1.heap.objs.size], _, _, H1, rfl, I2, turn_enumT a (s1.heap.objs.size + 1) s1.heap.objs.size, ⟨⟨.none, he⟩, hit, Nat.succ_ne_self _⟩, fun b hb => ?_, q⟩
    have e' : b = s1.heap.objs.size + 1 ∨ b = s1.heap.objs.size := by simpa using hb
    have hle : s1.heap.objs.size ≤ b := by
      rcases e' with z | z
      · rw [z]; exact Nat.le_add_right _ _
      · rw [z]; exact Nat.le_refl _
    exact I1.fpOk hle (I1.hok.fresh hle)
end ET
namespace AB
open PySem PySem.Spec PyProof.Rows L2
def pairsFrom : Nat → List A → List A
  | _, [] => []
  | n, x :: xs => .tup [.int (n : Nat), x] :: pairsFrom (n + 1) xs
theorem pairsFrom_get : ∀ (xs : List A) (n i : Nat), (pairsFrom n xs)[i]? = xs[i]?.map fun x => .tup [.int ((n + i : Nat) : Int), x]
  | [], _, _ => by simp [pairsFrom]
  | x :: xs, n, 0 => by simp [pairsFrom]
  | x :: xs, n, i + 1 => by
    simp only [pairsFrom, List.getElem?_cons_succ]
    rw [pairsFrom_get xs (n + 1) i]
    have : n + 1 + i = n + (i + 1) := by omega
    rw [this]
def enumOf (as : List A) (M : Store) : EO Src := match as with
  | [.tup xs] => .ok (.snap (pairsFrom 0 xs)) M
  | [.lst l] => match listAt M l with
    | some _ => .ok (.enl l) M
    | none => .bad
  | _ => .bad
def iEnumA (f : EFs) : EI := fun τ M => (f τ M).bind enumOf
section
variable {X : Cx} {W : WR} {pos : Pos}
theorem srcJ_enl {w : Amb} {ρ : List Addr} {H : Hp} {l : Nat} {a : Addr} (ha : ρ[l]? = some a) : SrcJ w ρ H (.enl l) (Ite w.K a) := by
  intro ρ2 H2 M2 i x g m
  cases el : listAt M2 l with
  | none => simp only [Src.at, el]; trivial
  | some xs =>
    obtain ⟨vs, q, is⟩ := m.list (x.get ha) el
    cases e : xs[i]? with
    | none =>
      simp only [Src.at, el, Option.map_some, e, Option.map_none]
      exact ⟨vs, q, by rw [← is.length]; exact List.getElem?_eq_none_iff.mp e⟩
    | some t =>
      simp only [Src.at, el, Option.map_some, e]
      obtain ⟨v, hv, iv⟩ := is.get e
      refine ⟨⟨vs, v, q, hv⟩, fun w H3 ⟨T, y, e1, hT, e2, hy⟩ => ?_⟩
      have := hy vs q
      rw [hv] at this
      obtain rfl := Option.some.inj this
      subst e1 e2
      exact ⟨.new hT, m.new hT, .tup upd_same (.cons (.int _) (.cons (iv.mono (.refl _) (.new hT)) .nil))⟩
theorem srcJ_ent {K : PySem.W.Frag} {ρ : List Addr} {H : Hp} {xs : List A} {vs : List V} {a : Addr} (ha : H a = some (.tup vs)) (is : IsAll ρ H xs vs) : SrcJ w ρ H (.snap (pairsFrom 0 xs)) (ET.ItE K a) := by
  intro ρ2 H2 M2 i x g m
  have h2 : SqT K H2 a vs := .inl (.inl (g _ _ (.tup _) ha))
  cases e : xs[i]? with
  | none =>
    simp only [Src.at, pairsFrom_get, e, Option.map_none]
    exact ⟨vs, h2, by rw [← is.length]; exact List.getElem?_eq_none_iff.mp e⟩
  | some t =>
    simp only [Src.at, pairsFrom_get, e, Option.map_some]
    obtain ⟨v, hv, iv⟩ := is.get e
    refine ⟨⟨vs, v, h2, hv⟩, fun w H3 ⟨T, y, e1, hT, e2, hy⟩ => ?_⟩
    have := hy vs h2
    rw [hv] at this
    obtain rfl := Option.some.inj this
    subst e1 e2
    refine ⟨.new hT, m.new hT, .tup upd_same (.cons ?_ (.cons ((iv.mono x g).mono (.refl _) (.new hT)) .nil))⟩
    have : (0 + i : Nat) = i := by omega
    rw [this]
    exact .int _
theorem ai_enum {e : Expr} {fs : EFs} {p tpos : Pos} {elts : List Expr} {kk : Nat} (hm : X.mg "enumerate" = none) (ha : AA X W [e] fs) (hg : Gl X "enumerate" := by rfl) (hs : starEach [e] X.env = [(false, eval e X.env)] := by rfl) :
    AI X W (.Tuple elts kk tpos) (.Call (.Name "enumerate" p) [e] [] pos) (iEnumA fs) := ((pi_enum hg hm ha hs).or (ET.pi_enumT hg hm ha hs)).pre fun σ H R h => by
  obtain ⟨τ, M, ρ, rs, rm, r⟩ := h
  unfold iEnumA at r
  cases ef : fs τ M with
  | ok as M1 =>
    rw [ef] at r
    have r : RE (X.gx W.Tb) W σ ρ H (relJ (X.am W.Tb)) (enumOf as M1) R := r
    unfold enumOf at r
    split at r
    · refine .inr ⟨τ, M, ρ, rs, rm, ?_⟩
      rw [ef]
      intro vs H1 ρ1 x g m i
      cases i with
      | cons i1 i =>
        cases i
        cases i1 with
        | tup ht it => exact ⟨_, _, rfl, .inl (.inl ht), r.okv x g m (srcJ_ent ht it)⟩
    · rename_i l
      refine .inl ⟨τ, M, ρ, rs, rm, ?_⟩
      rw [ef]
      intro vs H1 ρ1 x g m i
      cases i with
      | cons i1 i =>
        cases i
        cases i1 with
        | lst hl =>
          split at r
          · rename_i xs el
            obtain ⟨ws, q, _⟩ := m.list hl el
            exact ⟨_, _, rfl, q, r.okv x g m (srcJ_enl hl)⟩
          · exact r.elim
    · exact r.elim
  | ex en M1 => rw [ef] at r; exact .inl ⟨τ, M, ρ, rs, rm, by rw [ef]; exact r⟩
  | bad => rw [ef] at r; exact r.elim
end
end AB
/-! AB9: dicts of nested keys; lengths of sets; three names at once -/
namespace AB
open PySem PySem.Spec PyProof.Rows L2
mutual
def nkey? : A → Option NestedKey
  | .non => some .none
  | .int i => some (.num i)
  | .str x => some (.text x)
  | .tup xs => (nkeys? xs).map .tup
  | _ => none
def nkeys? : List A → Option (List NestedKey)
  | [] => some []
  | x :: xs => match nkey? x, nkeys? xs with
    | some k, some ks => some (k :: ks)
    | _, _ => none
end
mutual
theorem nkey_of : ∀ (a : A) (k : NestedKey), nkey? a = some k → ofN k = a
  | .non, k, e => by simp only [nkey?] at e; cases e; rfl
  | .int i, k, e => by simp only [nkey?] at e; cases e; rfl
  | .str i, k, e => by simp only [nkey?] at e; cases e; rfl
  | .tup xs, k, e => by
    simp only [nkey?] at e
    cases e1 : nkeys? xs with
    | none => rw [e1] at e; cases e
    | some ks =>
      rw [e1] at e; cases e
      simp only [ofN]
      rw [nkeys_of xs ks e1]
  | .bl _, k, e => by simp only [nkey?] at e; cases e
  | .lst _, k, e => by simp only [nkey?] at e; cases e
  | .dct _, k, e => by simp only [nkey?] at e; cases e
  | .ty _, k, e => by simp only [nkey?] at e; cases e
theorem nkeys_of : ∀ (as : List A) (ks : List NestedKey), nkeys? as = some ks → ofN.ofNs ks = as
  | [], ks, e => by simp only [nkeys?] at e; cases e; rfl
  | x :: xs, ks, e => by
    simp only [nkeys?] at e
    cases e1 : nkey? x with
    | none => rw [e1] at e; cases e
    | some k =>
      cases e2 : nkeys? xs with
      | none => rw [e1, e2] at e; cases e
      | some ks' =>
        rw [e1, e2] at e; cases e
        simp only [ofN.ofNs]
        rw [nkey_of x k e1, nkeys_of xs ks' e2]
end
section
variable {P : Program} {w : World} {ρ : List Addr} {H : Hp} {h : Heap}
mutual
theorem nested_of (ok : HOk P w H h) : ∀ (k : NestedKey) (v : V) (u : Value), Is ρ H (ofN k) v → RelV v u → NestedIs h k u
  | .none, _, _, i, r => by simp only [ofN] at i; cases i; cases r; exact .none
  | .num j, _, _, i, r => by simp only [ofN] at i; cases i; obtain ⟨t, rfl⟩ := r; exact .int _ _
  | .text j, _, _, i, r => by simp only [ofN] at i; cases i; obtain ⟨t, rfl⟩ := r; exact .text _ _
  | .tup ks, _, _, i, r => by
    simp only [ofN] at i
    cases i with
    | tup hp is =>
      cases r
      obtain ⟨_, its, rv, o, h1, h2, n, h3⟩ := ok _ _ hp
      exact .tup h1 h2 h3 (nesteds_of ok ks _ _ is (by simpa using rv))
theorem nesteds_of (ok : HOk P w H h) : ∀ (ks : List NestedKey) (vs : List V) (us : List Value), IsAll ρ H (ofN.ofNs ks) vs → Vals vs us → NestedAll h ks us
  | [], _, _, i, r => by simp only [ofN.ofNs] at i; cases i; cases r; exact .nil
  | k :: ks, _, _, i, r => by
    simp only [ofN.ofNs] at i
    cases i with
    | cons i1 i2 =>
      cases r with
      | cons r1 r2 => exact .cons (nested_of ok k _ _ i1 r1) (nesteds_of ok ks _ _ i2 r2)
end
/-- the rows of such a dict -/
def rowsN : List NestedKey → List Addr → List Value → List (NestedKey × Addr × Value)
  | k :: ks, b :: bs, u :: us => (k, b, u) :: rowsN ks bs us
  | _, _, _ => []
theorem rowsN_keys : ∀ {ks : List NestedKey} {bs : List Addr} {us : List Value}, ks.length = bs.length → ks.length = us.length → (rowsN ks bs us).map (·.1) = ks
  | [], _, _, _, _ => by simp [rowsN]
  | k :: ks, [], _, h, _ => by simp at h
  | k :: ks, b :: bs, [], _, h => by simp at h
  | k :: ks, b :: bs, u :: us, h1, h2 => by simp only [rowsN, List.map_cons]; rw [rowsN_keys (by simpa using h1) (by simpa using h2)]
theorem rowsN_len {ks : List NestedKey} {bs : List Addr} {us : List Value} (h1 : ks.length = bs.length) (h2 : ks.length = us.length) : (rowsN ks bs us).length = ks.length := by
  have := congrArg List.length (rowsN_keys h1 h2)
  simpa using this
theorem rowsN_entries {prog : Program} : ∀ {ks : List NestedKey} {bs : List Addr} {us : List Value}, (((ks.zip bs).zip us).map fun p => ({ hash := p.1.1.hash w, key := .ref p.1.2, val := p.2 } : DictEntry)) = (rowsN ks bs us).map (entryOfKey (nestedKind prog w))
  | [], _, _ => by simp [rowsN]
  | k :: ks, [], _ => by simp [rowsN]
  | k :: ks, b :: bs, [] => by simp [rowsN]
  | k :: ks, b :: bs, u :: us => by
    simp only [rowsN, List.zip_cons_cons, List.map_cons]
    rw [rowsN_entries (prog := prog) (ks := ks) (bs := bs) (us := us)]
    rfl
theorem rowsN_append : ∀ {ks : List NestedKey} {bs : List Addr} {us : List Value} {k : NestedKey} {b : Addr} {u : Value}, ks.length = bs.length → ks.length = us.length → rowsN (ks ++ [k]) (bs ++ [b]) (us ++ [u]) = rowsN ks bs us ++ [(k, b, u)]
  | [], [], [], _, _, _, _, _ => by simp [rowsN]
  | [], _ :: _, _, _, _, _, h, _ => by simp at h
  | [], [], _ :: _, _, _, _, _, h => by simp at h
  | k :: ks, [], _, _, _, _, h, _ => by simp at h
  | k :: ks, b :: bs, [], _, _, _, _, h => by simp at h
  | k :: ks, b :: bs, u :: us, _, _, _, h1, h2 => by simp only [List.cons_append, rowsN]; rw [rowsN_append (by simpa using h1) (by simpa using h2)]
theorem rowsN_is (ok : HOk P w H h) : ∀ {ks : List NestedKey} {bs : List Addr} {us : List Value}, IsAll ρ H (ks.map ofN) (bs.map V.ref) → (∀ k ∈ ks, k.depth ≤ 8) → ∀ x ∈ rowsN ks bs us, (nestedKind P w).is h x.1 x.2.1
  | [], _, _, _, _, x, hx => by simp [rowsN] at hx
  | k :: ks, [], _, _, _, x, hx => by simp [rowsN] at hx
  | k :: ks, b :: bs, [], _, _, x, hx => by simp [rowsN] at hx
  | k :: ks, b :: bs, u :: us, i, d, x, hx => by
    simp only [rowsN, List.mem_cons] at hx
    cases i with
    | cons i1 i2 =>
      rcases hx with rfl | hx
      · exact ⟨nested_of ok k _ _ i1 rfl, d k List.mem_cons_self⟩
      · exact rowsN_is ok i2 (fun k' hk => d k' (List.mem_cons_of_mem _ hk)) x hx
theorem rowsN_at {k : NestedKey} : ∀ {kvs : List (NestedKey × A)} {bs : List Addr} {vs : List V} {us : List Value}, kvs.length = bs.length → IsAll ρ H (kvs.map (·.2)) vs → Vals vs us →
    (valA kvs k = none ∧ atKey (rowsN (kvs.map (·.1)) bs us) k = none) ∨ ∃ a v b u, valA kvs k = some a ∧ atKey (rowsN (kvs.map (·.1)) bs us) k = some (b, u) ∧ Is ρ H a v ∧ RelV v u
  | [], _, _, _, _, _, _ => .inl ⟨rfl, by simp [rowsN, atKey]⟩
  | (j, a) :: kvs, [], _, _, h, _, _ => by simp at h
  | (j, a) :: kvs, b :: bs, v :: vs, us0, h, .cons i is, rv => by
    obtain ⟨u, us, rfl, r, rs⟩ : ∃ u us, us0 = u :: us ∧ RelV v u ∧ Vals vs us := by
      cases rv with
      | cons r rs => exact ⟨_, _, rfl, r, rs⟩
    by_cases e : j = k
    · subst e
      exact .inr ⟨a, v, b, u, by simp [valA], by simp [rowsN, atKey], i, r⟩
    · have ih := rowsN_at (k := k) (by simpa using h) is rs
      have e1 : valA ((j, a) :: kvs) k = valA kvs k := by simp [valA, List.find?_cons, e]
      rw [e1]
      rcases ih with ⟨h1, h2⟩ | ⟨a', v', b', u', h1, h2, h3⟩
      · exact .inl ⟨h1, by simpa [rowsN, atKey, List.find?_cons, e] using h2⟩
      · exact .inr ⟨a', v', b', u', h1, by simpa [rowsN, atKey, List.find?_cons, e] using h2, h3⟩
end
section
variable {X : Cx} {W : WR} {pos : Pos} {a b e : Expr} {es : List Expr} {f g : EF} {fs : EFs}
/-- such a dict in the state -/
theorem nest_dict {pins : List (Addr × Obj)} {σ : L2.St} {H : Hp} {s : Shared} {ρ : List Addr} {M : Store} (I : L2.Inv X pins σ H s) (m : RM (X.am W.Tb) ρ H M) {d : Nat} {p : Addr} {kvs : List (NestedKey × A)} (hp : ρ[d]? = some p) (hc : M[d]? = some (.dN kvs)) :
    ∃ bs vs us, H p = some (nestO X.w p ((kvs.map (·.1)).zip bs) vs) ∧ IsAll ρ H (kvs.map fun kv => ofN kv.1) (bs.map V.ref) ∧ IsAll ρ H (kvs.map (·.2)) vs ∧ (∀ kv ∈ kvs, kv.1.depth ≤ 8) ∧ Vals vs us ∧
      kvs.length = bs.length ∧ kvs.length = us.length ∧ kvs.length ≤ sizeLine ∧ (p == sysModules) = false ∧ (kvs.map (·.1)).Nodup ∧ s.heap.DictOfH (nestedKind X.prog X.w) p (rowsN (kvs.map (·.1)) bs us) := by
  obtain ⟨bs, vs, h, ik, iv, dp⟩ := m.at_ _ _ _ hp hc
  obtain ⟨⟨hz, hd, hl, hn, us, rv, o, es, ep, ho, hx, hdt, he⟩, _, _⟩ := I.hok _ _ h
  have l1 : kvs.length = bs.length := by have := ik.length; simpa using this
  have l2 : kvs.length = vs.length := by have := iv.length; simpa using this
  have l3 : kvs.length = us.length := l2.trans rv.length
  have hk : ((kvs.map (·.1)).zip bs).map (·.1) = kvs.map (·.1) := map_zip_fst (by simpa using l1)
  refine ⟨bs, vs, us, h, ik, iv, dp, rv, l1, l3, ?_, hd, by rw [← hk]; exact hn, ?_⟩
  · have := hz; simp only [List.length_zip, List.length_map] at this; omega
  · refine ⟨o, es, ep, ho, hx, hdt, he.trans rowsN_entries, ?_, ?_⟩
    · refine rowsN_is (ρ := ρ) (H := H) I.hok (by rw [List.map_map]; exact ik) fun k hk => ?_
      obtain ⟨kv, h1, rfl⟩ := List.mem_map.mp hk
      exact dp kv h1
    · rw [rowsN_keys (by simpa using l1) (by simpa using l3), ← hk]; exact hn
def eNewN : EF := fun _ M => .ok (.dct M.length) (M ++ [.dN []])
theorem ae_newN : AE X W (.Dict [] [] pos) eNewN := ⟨fun pins s σ H Q I h => by
  obtain ⟨τ, M, ρ, rs, rm', r⟩ := h
  have hn := I.hok.fresh (Nat.le_refl s.heap.objs.size)
  have new : ObjOk X.prog X.w (upd H s.heap.objs.size (nestO X.w s.heap.objs.size [] [])) (s.heap.push { cls := .type "dict", data := .dict #[] }) s.heap.objs.size (nestO X.w s.heap.objs.size [] []) := by
    refine ⟨⟨Nat.zero_le _, beq_eq_false_iff_ne.mpr (Ne.symm (Nat.ne_of_lt I.big)), rfl, List.nodup_nil, [], .nil, _, #[], 0, Heap.get?_push_size _ rfl, ⟨rfl, rfl, rfl⟩, rfl, rfl⟩, ⟨_, Heap.get?_push_size _ rfl⟩, ?_⟩
    rintro h1 h2 ⟨q1, q2, q3, q4, us, q5, o, es, ep, q6, q7⟩ k
    exact ⟨q1, q2, q3, q4, us, q5, o, es, ep, k o q6, q7⟩
  exact wpAny_Dict_empty ⟨.ref s.heap.objs.size, _, I.laid (a := s.heap.objs.size) (t' := s.toks) (fun _ _ q => Heap.get?_push_of_some _ q) (Nat.le_refl _) new, rfl,
    r.okv (.snoc _ _) (.new hn) (rm'.push hn ⟨[], [], upd_same, .nil, .nil, fun _ z => by cases z⟩) (.dct (by rw [← rm'.len]; simp))⟩⟩
def oSetd : OM := fun x as M => match x, as with
  | .dct d, [k, y] => match M[d]? with
    | some (.dN kvs) => match nkey? k with
      | some (.tup js) => if (NestedKey.tup js).depth ≤ 8 ∧ kvs.length < sizeLine then match valA kvs (.tup js) with
          | some z => some (z, M)
          | none => some (y, M.set d (.dN (kvs ++ [(.tup js, y)])))
        else none
      | _ => none
    | _ => none
  | _, _ => none
theorem mt_setd (hu : X.A.units + 9 < cLine) : MtR X "dict.setdefault" (rm (X.am W.Tb) oSetd) := by
  intro pins s σ H x xs v us Q I rx rxs h
  obtain ⟨a, as, M, ρ, ia, is, m, ro⟩ := h
  unfold oSetd at ro
  split at ro
  · rename_i d k y
    split at ro
    · rename_i kvs ec
      split at ro
      · rename_i js ek
        split at ro
        · rename_i hz
          cases ia with
          | dct hp =>
            cases rx
            cases is with
            | @cons _ kv _ _ i1 is =>
              cases is with
              | @cons _ yv _ _ i2 is =>
                cases is
                cases rxs with
                | cons r1 rxs =>
                  cases rxs with
                  | cons r2 rxs =>
                    cases rxs
                    rename_i pa u1 u2
                    have ik : Is ρ H (ofN (.tup js)) kv := by rw [nkey_of _ _ ek]; exact i1
                    obtain ⟨kb, rfl⟩ : ∃ kb, kv = .ref kb := by simp only [ofN] at ik; cases ik with | tup h1 h2 => exact ⟨_, rfl⟩
                    cases r1
                    obtain ⟨bs, vs, us', hh, iks, ivs, dp, rv, l1, l3, hsz, hsm, hnd, D⟩ := nest_dict I m hp ec
                    have hin : Around.units X.A.in1 + 8 < cLine := by show X.A.units + 1 + 8 < cLine; omega
                    have keyIs : (nestedKind X.prog X.w).is s.heap (.tup js) kb := ⟨nested_of I.hok _ _ _ ik rfl, hz.1⟩
                    have rl : (rowsN (kvs.map (·.1)) bs us').length = kvs.length := by rw [rowsN_len (by simpa using l1) (by simpa using l3)]; simp
                    refine call_setdefault_heap (hsz := by rw [rl]; exact hsz) hin keyIs hsm D (fun p hpk => ?_) (fun hno h' D' sb => ?_)
                    · rcases rowsN_at (k := .tup js) l1 ivs rv with ⟨_, e2⟩ | ⟨z, zv, b', u', e1, e2, iz, rz⟩
                      · rw [e2] at hpk; cases hpk
                      · rw [e2] at hpk; cases hpk
                        rw [e1] at ro
                        exact ⟨zv, H, I.tok _, rz, ro.val m iz⟩
                    · rcases rowsN_at (k := .tup js) l1 ivs rv with ⟨e1, e2⟩ | ⟨z, zv, b', u', e1, e2, _⟩
                      · rw [e1] at ro
                        have hk1 : (kvs.map (·.1)).length = bs.length := by simpa using l1
                        have hv1 : (kvs.map (·.1)).length = us'.length := by simpa using l3
                        rw [storedH_new hno, ← rowsN_append hk1 hv1] at D'
                        obtain ⟨o, es, ep, ho, hx, hdt, he, _, hn2⟩ := D'
                        have zk : (kvs.map (·.1) ++ [NestedKey.tup js]).zip (bs ++ [kb]) = ((kvs ++ [(NestedKey.tup js, y)]).map (·.1)).zip (bs ++ [kb]) := by rw [List.map_append]; rfl
                        have lk : (kvs.map (·.1) ++ [NestedKey.tup js]).length = (bs ++ [kb]).length := by simp [l1]
                        have fstk : ((kvs.map (·.1) ++ [NestedKey.tup js]).zip (bs ++ [kb])).map (·.1) = kvs.map (·.1) ++ [NestedKey.tup js] := map_zip_fst lk
                        have new : ObjOk X.prog X.w (upd H pa (nestO X.w pa ((kvs.map (·.1) ++ [NestedKey.tup js]).zip (bs ++ [kb])) (vs ++ [yv]))) h' pa (nestO X.w pa ((kvs.map (·.1) ++ [NestedKey.tup js]).zip (bs ++ [kb])) (vs ++ [yv])) := by
                          refine ⟨⟨?_, hsm, ?_, ?_, us' ++ [u2], rv.append (.cons r2 .nil), o, es, ep, ho, hx, hdt, he.trans rowsN_entries.symm⟩, ⟨o, ho⟩, ?_⟩
                          · simp only [List.length_zip, List.length_append, List.length_map, List.length_singleton]; omega
                          · have := rv.length
                            simp only [List.length_zip, List.length_append, List.length_map, List.length_singleton]; omega
                          · rw [fstk]
                            rw [rowsN_keys lk (by simp [l3])] at hn2
                            exact hn2
                          · rintro h1 h2 ⟨q1, q2, q3, q4, us, q5, o, es, ep, q6, q7⟩ k
                            exact ⟨q1, q2, q3, q4, us, q5, o, es, ep, k o q6, q7⟩
                        have I2 := I.write (e := pa) (t' := s.toks + (nestedKind X.prog X.w).draws (.tup js)) (by rw [hh]; trivial) (.inl rfl) (fun b u hb hu' => (sb.2 b hb).trans hu') ⟨o, ho⟩ new
                        have g := m.growSet (o := nestO X.w pa ((kvs.map (·.1) ++ [NestedKey.tup js]).zip (bs ++ [kb])) (vs ++ [yv])) hp ec
                        refine ⟨yv, _, I2, r2, ro _ _ ρ (.refl _) g (m.set hp ec ⟨bs ++ [kb], vs ++ [yv], by rw [upd_same, zk], ?_, ?_, ?_⟩) (i2.mono (.refl _) g)⟩
                        · rw [List.map_append, List.map_append]
                          exact (iks.mono (.refl _) g).append (.cons (ik.mono (.refl _) g) .nil)
                        · rw [List.map_append]
                          exact (ivs.mono (.refl _) g).append (.cons (i2.mono (.refl _) g) .nil)
                        · intro kv hkv
                          rcases List.mem_append.mp hkv with q | q
                          · exact dp kv q
                          · simp at q; subst q; exact hz.1
                      · rw [e2] at hno; cases hno
        · exact ro.elim
      · exact ro.elim
    · exact ro.elim
  · exact ro.elim
def isN (M : Store) : A → Bool
  | .dct d => match M[d]? with
    | some (.dN _) => true
    | _ => false
  | _ => false
def eMethN (o : OM) (f : EF) (fs : EFs) : EF := fun τ M => (f τ M).bind fun a M1 => if isN M1 a = true then (fs τ M1).bind fun as M2 => toE (o a as M2) else .bad
theorem ae_methN {o : OM} {name : Str} {id : String} {apos cpos : Pos} (slot : Slot "dict" name id) (hty : typeOf (.builtin id) = pure (.type "method_descriptor")) (hm : MtR X id (rm (X.am W.Tb) o)) (ho : AE X W a f) (ha : AA X W (e :: es) fs)
    (hbase : attributeBase a name X.env (eval a X.env) = eval a X.env := by rfl)
    (hfew : ((backTo cpos (starEach (e :: es) X.env)).all (fun x => !x.1) && (backToKw cpos (keywordEach [] X.env)).all (fun x => x.1.isSome)
      && decide ((e :: es).length + ([] : List Keyword).length + (if ([] : List Keyword).isEmpty then 0 else 1) < 30)) = true := by rfl)
    (hline : (apos.endLine == cpos.line) = true := by rfl) (hs : starEach (e :: es) X.env = (false, eval e X.env) :: starEach es X.env := by rfl) (hplain : (backTo cpos (starEach es X.env)).any (·.1) = false := by rfl) :
    AE X W (.Call (.Attribute a name apos) (e :: es) [] cpos) (eMethN o f fs) := by
  refine ⟨fun pins s σ H Q I h => ?_⟩
  have h2 := seqG (G := (X.gx W.Tb)) (W := W) Is h
  refine wpAny_Call_method_late hbase hfew hline rfl (thn (ho.run pins s σ H _ I h2) fun v s1 ⟨x, H1, I1, r1, q1⟩ => ?_)
  obtain ⟨τ, M, ρ, c, rs, rm', i, r⟩ := q1
  have r : RE (X.gx W.Tb) W σ ρ H1 Is (if isN M c = true then (fs τ M).bind fun as M2 => toE (o c as M2) else .bad) Q := r
  split at r
  · rename_i hN
    have ty : s1.TypeIs v "dict" ∧ ∀ p, v = .ref p → ∃ ob, s1.heap.get? p = some ob ∧ ob.dict = none := by
      cases i with
      | dct hp =>
        simp only [isN] at hN
        split at hN
        · rename_i kvs ec
          cases r1
          obtain ⟨bs, vs, us, _, _, _, _, _, _, _, _, _, _, o', es, ep, h1, hx, _⟩ := nest_dict I1 rm' hp ec
          exact ⟨⟨o', h1, hx.1⟩, fun p ep => by cases ep; exact ⟨o', h1, hx.2.1⟩⟩
        · cases hN
      | _ => simp only [isN] at hN; cases hN
    refine ⟨"dict", id, PySem.F.plainAttrs_dict, slot, hty, ty.1, ty.2, ?_⟩
    have hA := ha.run cpos pins s1 σ H1 (fun xs H2 => (rm (X.am W.Tb) o) x xs H2 Q) I1 ⟨τ, M, ρ, rs, rm', by
      cases e2 : fs τ M with
      | ok as M2 =>
        rw [e2] at r
        intro vs H2 ρ2 x2 g m is
        have r := RE.mono r x2 g
        exact ⟨c, as, M2, ρ2, i.mono x2 g, is, m, RO.of r⟩
      | ex en M2 => rw [e2] at r; exact r
      | bad => rw [e2] at r; exact r⟩
    rw [hs] at hA ⊢
    refine Calls.callWith_builtin (by show (false || (backTo cpos (starEach es X.env)).any (·.1)) = false; rw [hplain] <;> rfl) (Calls.evalArgs_plain ?_)
    exact thn hA fun us s2 ⟨vs, H2, I2, r2, q2⟩ => hm pins s2 σ H2 x vs v us Q I2 r1 r2 q2
  · exact r.elim
theorem ae_setd {e2 : Expr} {apos cpos : Pos} (hu : X.A.units + 9 < cLine) (ho : AE X W a f) (ha : AA X W [e, e2] fs) (hbase : attributeBase a "setdefault" X.env (eval a X.env) = eval a X.env := by rfl)
    (hfew : ((backTo cpos (starEach [e, e2] X.env)).all (fun x => !x.1) && (backToKw cpos (keywordEach [] X.env)).all (fun x => x.1.isSome)
      && decide ([e, e2].length + ([] : List Keyword).length + (if ([] : List Keyword).isEmpty then 0 else 1) < 30)) = true := by rfl)
    (hline : (apos.endLine == cpos.line) = true := by rfl) (hs : starEach [e, e2] X.env = (false, eval e X.env) :: starEach [e2] X.env := by rfl) (hplain : (backTo cpos (starEach [e2] X.env)).any (·.1) = false := by rfl) :
    AE X W (.Call (.Attribute a "setdefault" apos) [e, e2] [] cpos) (eMethN oSetd f fs) := ae_methN PySem.F.slot_dict_setdefault PySem.F.type_dict_setdefault (mt_setd hu) ho ha hbase hfew hline hs hplain
/-- len, of such dicts too -/
def oLenN : On := fun as M => match as with
  | [.dct d] => match M[d]? with
    | some (.dN kvs) => some (.int (kvs.length : Nat), M)
    | _ => oLen as M
  | _ => oLen as M
theorem cr_lenN : CallR X (.builtin "len") (rn (X.am W.Tb) oLenN) := by
  intro pins s σ H xs us Q I r h
  obtain ⟨as, M, ρ, is, m, ro⟩ := h
  unfold oLenN at ro
  split at ro
  · rename_i d
    split at ro
    · rename_i kvs ec
      cases is with
      | cons i1 is =>
        cases is
        cases i1 with
        | dct hp =>
          obtain ⟨u, rfl, rx⟩ := vals1 r
          obtain rfl : u = .ref _ := rx
          obtain ⟨bs, vs, us', hh, iks, ivs, dp, rv, l1, l3, hsz, hsm, hnd, D⟩ := nest_dict I m hp ec
          have rl : (rowsN (kvs.map (·.1)) bs us').length = kvs.length := by rw [rowsN_len (by simpa using l1) (by simpa using l3)]; simp
          refine call_len_dictH hsm D (by rw [rl]; rw [sizeLine_eq] at hsz; omega) ?_
          rw [rl]
          exact ⟨.int (kvs.length : Nat), H, I.tok _, ⟨_, rfl⟩, ro.val m (.int _)⟩
    · exact cr_len pins s σ H xs us Q I r ⟨_, M, ρ, is, m, ro⟩
  · exact cr_len pins s σ H xs us Q I r ⟨_, M, ρ, is, m, ro⟩
end
end AB
/-! AB10: sorted -/
namespace SX
open PySem PySem.Spec PyProof.Rows
/-- the order of tuples of ints -/
def ltL : List Int → List Int → Bool
  | [], [] => false
  | [], _ :: _ => true
  | _ :: _, [] => false
  | x :: xs, y :: ys => if x = y then ltL xs ys else decide (x < y)
theorem ltL_asym : ∀ {xs ys : List Int}, ltL xs ys = true → ltL ys xs = false
  | [], [], h => by simp [ltL] at h
  | [], _ :: _, _ => rfl
  | _ :: _, [], h => by simp [ltL] at h
  | x :: xs, y :: ys, h => by
    unfold ltL at h ⊢
    by_cases e : x = y
    · rw [if_pos e] at h; rw [if_pos e.symm]; exact ltL_asym h
    · rw [if_neg e] at h; rw [if_neg (Ne.symm e)]
      have := of_decide_eq_true h
      exact decide_eq_false (by omega)
theorem ltL_ntr : ∀ {xs ys zs : List Int}, ltL xs ys = false → ltL ys zs = false → ltL xs zs = false
  | [], [], [], _, _ => rfl
  | [], [], _ :: _, _, h => by simp [ltL] at h
  | [], _ :: _, _, h, _ => by simp [ltL] at h
  | _ :: _, _, [], _, _ => by simp [ltL]
  | _ :: _, [], _ :: _, _, h => by simp [ltL] at h
  | x :: xs, y :: ys, z :: zs, h1, h2 => by
    unfold ltL at h1 h2 ⊢
    by_cases e1 : x = y
    · rw [if_pos e1] at h1
      by_cases e2 : y = z
      · rw [if_pos e2] at h2; rw [if_pos (e1.trans e2)]; exact ltL_ntr h1 h2
      · rw [if_neg e2] at h2; rw [if_neg (fun q => e2 (e1.symm.trans q))]
        have := of_decide_eq_false h2
        exact decide_eq_false (by omega)
    · rw [if_neg e1] at h1
      have a := of_decide_eq_false h1
      by_cases e2 : y = z
      · rw [if_pos e2] at h2; rw [if_neg (fun q => e1 (q.trans e2.symm))]
        exact decide_eq_false (by omega)
      · rw [if_neg e2] at h2
        have b := of_decide_eq_false h2
        by_cases e3 : x = z
        · omega
        · rw [if_neg e3]; exact decide_eq_false (by omega)
theorem ltL_anti : ∀ {xs ys : List Int}, ltL xs ys = false → ltL ys xs = false → xs = ys
  | [], [], _, _ => rfl
  | [], _ :: _, h, _ => by simp [ltL] at h
  | _ :: _, [], _, h => by simp [ltL] at h
  | x :: xs, y :: ys, h1, h2 => by
    unfold ltL at h1 h2
    by_cases e : x = y
    · rw [if_pos e] at h1; rw [if_pos e.symm] at h2
      rw [e, ltL_anti h1 h2]
    · rw [if_neg e] at h1; rw [if_neg (Ne.symm e)] at h2
      have a := of_decide_eq_false h1
      have b := of_decide_eq_false h2
      omega
theorem swo_L (k : Value → List Int) : SrtO.Swo fun v u => ltL (k v) (k u) := ⟨fun _ _ h => ltL_asym h, fun _ _ _ h1 h2 => ltL_ntr h2 h1⟩
theorem ltL_yes {x y : Int} {xs ys : List Int} (e : x = y) : ltL (x :: xs) (y :: ys) = ltL xs ys := by
  conv => lhs; unfold ltL
  rw [if_pos e]
theorem ltL_no {x y : Int} {xs ys : List Int} (e : ¬ x = y) : ltL (x :: xs) (y :: ys) = decide (x < y) := by
  conv => lhs; unfold ltL
  rw [if_neg e]
section
variable {prog : Program} {w : World} {A : Around} {E : Value → Shared → Prop} {s : Shared}
/-- a tuple of ints -/
def IsTI (h : Heap) (v : Value) (ns : List Int) : Prop := ∃ a o xs n, v = .ref a ∧ h.get? a = some o ∧ o.cls = .type "tuple" ∧ o.data = .seq xs n ∧ IntsAre xs.toList ns
theorem IsTI.keeps {h h' : Heap} {v : Value} {ns : List Int} (x : IsTI h v ns) (k : ∀ b o, h.get? b = some o → o.cls = .type "tuple" → h'.get? b = some o) : IsTI h' v ns := by
  obtain ⟨a, o, xs, n, e, ho, hc, hd, i⟩ := x
  exact ⟨a, o, xs, n, e, k a o ho hc, hc, hd, i⟩
theorem lex_ints (b : Bool) : ∀ {xs ys : List Value} {ns ms : List Int} (i : Nat) (fin : Bool), IntsAre xs ns → IntsAre ys ms → (fin = decide (xs.length < ys.length)) →
    PySem.W.KatLex prog w A b fin (fun r s' => s' = s ∧ r = ltL ns ms) (xs.zip ys) i s
  | _, _, _, _, _, _, .nil, .nil, e => by
    subst e; exact PySem.W.kat_nil ⟨rfl, rfl⟩
  | _, _, _, _, _, _, .nil, .cons _ _ _, e => by
    subst e; exact PySem.W.kat_nil ⟨rfl, rfl⟩
  | _, _, _, _, _, _, .cons _ _ _, .nil, e => by
    subst e; exact PySem.W.kat_nil ⟨rfl, rfl⟩
  | _, _, _, _, i, fin, .cons x t r1, .cons y u r2, e => by
    refine PySem.W.kat_cons (SeqAt.EqAt.int_int x t y u prog w _ _ ?_)
    refine PySem.W.kat_go (fun e1 => ?_) (fun e1 => ?_)
    · have ex : x = y := by simpa using e1
      refine PySem.W.kat_yes ?_
      rw [ltL_yes ex]
      exact lex_ints b (i + 1) fin r1 r2 (by rw [e]; simp)
    · have ex : ¬ x = y := by simpa using e1
      rw [ltL_no ex]
      refine PySem.W.kat_no ?_
      cases hb : (b && i == 0) with
      | true => exact oneLt_int ⟨rfl, rfl⟩
      | false => exact PySem.W.kat_one _ _ (PyProof.Rows.lt_int (show s = s ∧ decide (x < y) = decide (x < y) from ⟨rfl, rfl⟩))
theorem ti_cmp {vs : List Value} {k : Value → List Int} (hp : ∀ v ∈ vs, IsTI s.heap v (k v)) : SrtO.Cmp prog w A s (tuples' true) (fun p => p.1 ∈ vs) (SrtO.lt2 fun v u => ltL (k v) (k u)) := by
  intro p q hm hm'
  show wpAny (model prog w) A (keyLt' (tuples' true) p.1 q.1) (fun r s' => s' = s ∧ r = ltL (k p.1) (k q.1)) (fun _ _ => False) s
  obtain ⟨a, o, xs, n, e, ho, hc, hd, i1⟩ := hp _ hm
  obtain ⟨a', o', xs', n', e', ho', hc', hd', i2⟩ := hp _ hm'
  generalize k p.1 = ns at i1 ⊢
  generalize k q.1 = ms at i2 ⊢
  rw [e, e']
  exact PySem.W.kat_lt ho hd ho' hd' (lex_ints true 0 _ i1 i2 (by simp))
theorem ti_firsts {k : Value → List Int} : ∀ {vs : List Value} {h : Heap}, (∀ v ∈ vs, IsTI h v (k v) ∧ k v ≠ []) → ∃ fs, PySem.W.KatTups h vs fs ∧ fs.length = vs.length ∧ ∀ f ∈ fs, ∃ x t, f = Value.int x t
  | [], h, _ => ⟨[], .nil, rfl, fun _ z => by cases z⟩
  | v :: vs, h, hp => by
    obtain ⟨fs, h1, h2, h3⟩ := ti_firsts (vs := vs) fun u hu => hp u (List.mem_cons_of_mem _ hu)
    obtain ⟨⟨a, o, xs, n, e, ho, hc, hd, i⟩, hne⟩ := hp v List.mem_cons_self
    subst e
    generalize k (.ref a) = ns at i hne
    cases hxs : xs.toList with
    | nil => rw [hxs] at i; cases i; exact absurd rfl hne
    | cons f r =>
      rw [hxs] at i
      cases i with
      | cons x t i =>
        refine ⟨Value.int x t :: fs, .cons ho hc hd (by rw [← Array.getElem?_toList, hxs]; rfl) h1, by simp [h2], fun g hg => ?_⟩
        rcases List.mem_cons.mp hg with rfl | hg
        · exact ⟨x, t, rfl⟩
        · exact h3 g hg
theorem ti_sortable {a : Addr} {vs : List Value} {k : Value → List Int} (h0 : 0 < vs.length) (hp : ∀ v ∈ vs, IsTI s.heap v (k v) ∧ k v ≠ []) (ha : ∀ o, s.heap.get? a = some o → o.cls ≠ .type "tuple") : SrtO.SortableO prog w A s a vs fun v u => ltL (k v) (k u) := by
  intro h' keep
  have hp' : ∀ v ∈ vs, IsTI h' v (k v) ∧ k v ≠ [] := fun v hm => ⟨(hp v hm).1.keeps fun b o e c => keep b o (fun z => by subst z; exact ha o e c) e, (hp v hm).2⟩
  obtain ⟨fs, h1, h2, h3⟩ := ti_firsts hp'
  refine ⟨tuples' true, fun Q E hq => ?_, ti_cmp fun v hm => (hp' v hm).1⟩
  refine PySem.W.kat_kind (T := .type "int") h1 (by omega) (fun f hm => ?_) (by rfl) ?_
  · obtain ⟨x, t, rfl⟩ := h3 f hm
    exact PySem.W.Looks.now
  · have e : (Value.type "int" != Value.type "tuple") = true := by first | decide +kernel | rfl | decide
    rw [e]
    exact hq
end
/-- put into a rising list -/
def ins (x : List Int) : List (List Int) → List (List Int)
  | [] => [x]
  | y :: ys => if ltL y x = true then y :: ins x ys else x :: y :: ys
def sortL : List (List Int) → List (List Int)
  | [] => []
  | x :: xs => ins x (sortL xs)
theorem ins_perm (x : List Int) : ∀ ys, (ins x ys).Perm (x :: ys)
  | [] => .refl _
  | y :: ys => by
    unfold ins
    split
    · exact ((ins_perm x ys).cons y).trans (.swap x y ys)
    · exact .refl _
theorem sortL_perm : ∀ xs, (sortL xs).Perm xs
  | [] => .refl _
  | x :: xs => (ins_perm x _).trans ((sortL_perm xs).cons x)
def Up (l : List (List Int)) : Prop := l.Pairwise fun a b => ltL b a = false
theorem ins_up (x : List Int) : ∀ {ys}, Up ys → Up (ins x ys)
  | [], _ => List.pairwise_singleton _ _
  | y :: ys, h => by
    unfold ins
    obtain ⟨h1, h2⟩ := List.pairwise_cons.mp h
    split
    · rename_i e
      refine List.pairwise_cons.mpr ⟨fun z hz => ?_, ins_up x h2⟩
      rcases List.mem_cons.mp ((ins_perm x ys).mem_iff.mp hz) with rfl | hz
      · exact ltL_asym e
      · exact h1 z hz
    · rename_i e
      have e : ltL y x = false := by simpa using e
      refine List.pairwise_cons.mpr ⟨fun z hz => ?_, h⟩
      rcases List.mem_cons.mp hz with rfl | hz
      · exact e
      · exact ltL_ntr (h1 z hz) e
theorem sortL_up : ∀ xs, Up (sortL xs)
  | [] => .nil
  | x :: xs => ins_up x (sortL_up xs)
theorem up_unique : ∀ {xs ys : List (List Int)}, Up xs → Up ys → xs.Perm ys → xs = ys
  | [], ys, _, _, p => (List.Perm.nil_eq p)
  | x :: xs, [], _, _, p => by have := p.length_eq; simp at this
  | x :: xs, y :: ys, h1, h2, p => by
    obtain ⟨a1, a2⟩ := List.pairwise_cons.mp h1
    obtain ⟨b1, b2⟩ := List.pairwise_cons.mp h2
    have e : x = y := by
      have mx : x ∈ y :: ys := p.mem_iff.mp List.mem_cons_self
      have my : y ∈ x :: xs := p.mem_iff.mpr List.mem_cons_self
      rcases List.mem_cons.mp mx with e | mx
      · exact e
      · rcases List.mem_cons.mp my with e | my
        · exact e.symm
        · exact ltL_anti (b1 x mx) (a1 y my) |>.symm ▸ rfl
    subst e
    rw [up_unique a2 b2 (List.Perm.cons_inv p)]
end SX
namespace AB
open PySem PySem.Spec PyProof.Rows L2
def ints? : List A → Option (List Int)
  | [] => some []
  | .int i :: r => (ints? r).map (i :: ·)
  | _ :: _ => none
theorem ints_of : ∀ {as : List A} {is : List Int}, ints? as = some is → as = is.map A.int
  | [], _, e => by cases e; rfl
  | a :: as, is, e => by
    cases a with
    | int i =>
      simp only [ints?] at e
      cases e1 : ints? as with
      | none => rw [e1] at e; cases e
      | some r => rw [e1] at e; cases e; rw [ints_of e1]; rfl
    | _ => simp only [ints?] at e; cases e
theorem ints_map (is : List Int) : ints? (is.map A.int) = some is := by
  induction is with
  | nil => rfl
  | cons i is ih => simp only [List.map_cons, ints?, ih]; rfl
def tups? : List A → Option (List (List Int))
  | [] => some []
  | .tup xs :: r => match ints? xs, tups? r with
    | some (i :: is), some q => some ((i :: is) :: q)
    | _, _ => none
  | _ :: _ => none
def tupI (ns : List Int) : A := .tup (ns.map A.int)
theorem tups_of : ∀ {as : List A} {q : List (List Int)}, tups? as = some q → as = q.map tupI ∧ ∀ x ∈ q, x ≠ []
  | [], _, e => by cases e; exact ⟨rfl, fun _ z => by cases z⟩
  | a :: as, q, e => by
    cases a with
    | tup xs =>
      simp only [tups?] at e
      split at e
      · rename_i i is q' e1 e2
        cases e
        obtain ⟨h1, h2⟩ := tups_of e2
        refine ⟨by rw [h1, ints_of e1]; rfl, fun x hx => ?_⟩
        rcases List.mem_cons.mp hx with rfl | hx
        · simp
        · exact h2 x hx
      · cases e
    | _ => simp only [tups?] at e; cases e
/-- sorted: whole numbers, or tuples of them -/
def oSorted : On := fun as M => match as with
  | [.lst l] => match listAt M l with
    | some xs => match tups? xs with
      | some q => some (.lst M.length, M ++ [.lst ((SX.sortL q).map tupI)])
      | none => none
    | none => none
  | _ => none
/-- the ints that a tracked tuple holds -/
def kOf (H : Hp) : Value → List Int
  | .ref a => match H a with
    | some (.tup vs) => vs.filterMap fun v => match v with
      | .int i => some i
      | _ => none
    | _ => []
  | _ => []
theorem kOf_tup {H : Hp} {a : Addr} {ns : List Int} (h : H a = some (.tup (ns.map V.int))) : kOf H (.ref a) = ns := by
  unfold kOf
  simp only [h]
  clear h
  induction ns with
  | nil => rfl
  | cons n ns ih => simp [ih]
theorem tupI_is {ρ : List Addr} {H : Hp} {ns : List Int} {v : V} (i : Is ρ H (tupI ns) v) : ∃ a, v = .ref a ∧ H a = some (.tup (ns.map V.int)) := by
  cases i with
  | tup h is => rw [IsAll.ints is] at h; exact ⟨_, rfl, h⟩
theorem is_tupI {ρ : List Addr} {H : Hp} {ns : List Int} {a : Addr} (h : H a = some (.tup (ns.map V.int))) : Is ρ H (tupI ns) (.ref a) := by
  refine .tup h ?_
  clear h
  induction ns with
  | nil => exact .nil
  | cons n ns ih => exact .cons (.int n) ih
section
variable {X : Cx}
theorem cr_sortedTI : CallR X (.builtin "sorted") (rn (X.am Tb) oSorted) := by
  intro pins s σ H xs us Q I r h
  obtain ⟨as, M, ρ, is, m, ro⟩ := h
  unfold oSorted at ro
  split at ro
  · rename_i l
    cases is with
    | cons i1 is =>
      cases is
      cases i1 with
      | lst hl =>
        split at ro
        · rename_i ys el
          split at ro
          · rename_i q eq
            obtain ⟨rfl, hne⟩ := tups_of eq
            obtain ⟨vs, hs, iv⟩ := m.list hl el
            obtain ⟨its, rv, hL, hz⟩ := I.list hs
            rw [Vals.ref1 r]
            -- each item is a reference to a tuple of ints
            have items : ∀ (q : List (List Int)) (vs : List V) (its : List Value), IsAll ρ H (q.map tupI) vs → Vals vs its → (∀ x ∈ q, x ≠ []) → (∀ u ∈ its, SX.IsTI s.heap u (kOf H u) ∧ kOf H u ≠ []) ∧ its.map (kOf H) = q ∧ ∀ u ∈ its, ∃ a, u = .ref a ∧ H a = some (.tup ((kOf H u).map V.int)) := by
              intro q
              induction q with
              | nil => intro vs its i r _; cases i; cases r; exact ⟨fun _ z => (by cases z), rfl, fun _ z => (by cases z)⟩
              | cons n q ih =>
                intro vs its i r hne
                cases i with
                | cons i1 i2 =>
                  cases r with
                  | cons r1 r2 =>
                    obtain ⟨a1, a2, a3⟩ := ih _ _ i2 r2 fun x hx => hne x (List.mem_cons_of_mem _ hx)
                    obtain ⟨a, rfl, ha⟩ := tupI_is i1
                    cases r1
                    have ek := kOf_tup ha
                    obtain ⟨_, tv, trv, o, h1, h2, nn, h3⟩ := I.hok _ _ ha
                    have ti : SX.IsTI s.heap (.ref a) (kOf H (.ref a)) := by
                      rw [ek]
                      exact ⟨a, o, tv.toArray, nn, rfl, h1, h2, h3, by simpa using intsAre_of trv⟩
                    refine ⟨fun u hu => ?_, by simp [ek, a2], fun u hu => ?_⟩
                    · rcases List.mem_cons.mp hu with rfl | hu
                      · exact ⟨ti, by rw [ek]; exact hne n List.mem_cons_self⟩
                      · exact a1 u hu
                    · rcases List.mem_cons.mp hu with rfl | hu
                      · exact ⟨a, rfl, by rw [ek]; exact ha⟩
                      · exact a3 u hu
            obtain ⟨hp, hk, hr⟩ := items q vs its iv rv hne
            refine SrtO.sorted_ord (SX.swo_L (kOf H)) hL.isList (by rw [← rv.length]; exact hz) (fun h2 h₁ a' ha kk => ?_) fun out h1 h2 => ?_
            · refine SX.ti_sortable (s := { s with heap := h₁ }) (by omega) (fun v hm => ⟨(hp v hm).1.keeps fun b o e _ => (kk b o e).2, (hp v hm).2⟩) fun o e => ?_
              have e' : some o = some (seqObj "list" its.toArray 0) := e.symm.trans ha
              cases e'
              intro c
              exact absurd (Value.type.inj c) (by decide)
            · obtain ⟨ep, he'⟩ := PyProof.Rows.sortedAll_at s.heap its out.toArray
              -- what comes out: the same references in order
              have mem : ∀ u ∈ out, ∃ a, u = .ref a ∧ H a = some (.tup ((kOf H u).map V.int)) := fun u hu => hr u (h2.perm.mem_iff.mp hu)
              have outs : ∀ (l : List Value), (∀ u ∈ l, ∃ a, u = .ref a ∧ H a = some (.tup ((kOf H u).map V.int))) → ∃ vs : List V, Vals vs l ∧ IsAll ρ H ((l.map (kOf H)).map tupI) vs := by
                intro l
                induction l with
                | nil => intro _; exact ⟨[], .nil, .nil⟩
                | cons u l ih =>
                  intro hm
                  obtain ⟨vs, v1, v2⟩ := ih fun x hx => hm x (List.mem_cons_of_mem _ hx)
                  obtain ⟨a, rfl, ha⟩ := hm u List.mem_cons_self
                  exact ⟨.ref a :: vs, .cons rfl v1, .cons (is_tupI ha) v2⟩
              obtain ⟨ws, w1, w2⟩ := outs out mem
              have esort : out.map (kOf H) = SX.sortL q := by
                refine SX.up_unique ?_ (SX.sortL_up q) ?_
                · exact List.pairwise_map.mpr h1
                · have := h2.perm.map (kOf H)
                  rw [hk] at this
                  exact this.trans (SX.sortL_perm q).symm
              rw [esort] at w2
              have hlen : ws.length ≤ sizeLine := by
                rw [w1.length, h2.perm.length_eq, ← rv.length]; exact hz
              have hnew : H (s.heap.objs.size + 1) = none := I.hok.fresh (Nat.le_succ _)
              exact ⟨.ref _, upd H (s.heap.objs.size + 1) (.lst ws), I.laid (t' := s.toks) (fun _ _ => PyProof.Rows.sortedAll_old) (Nat.le_succ _) ⟨hlen, out, ep, w1, he'⟩, rfl, ro.newL m w2 hnew⟩
          · exact ro.elim
        · exact ro.elim
  · exact ro.elim
end
end AB
/-! AB11: lengths of sets; several targets; displays of one pair -/
namespace AB
open PySem PySem.Spec PyProof.Rows L2
section
variable {X : Cx} {W : WR} {pos : Pos} {a b c e : Expr} {f g : EF} {fs : EFs}
/-! ### len(set(xs)) -/
def dedup (is : List Int) : List Int := is.foldl step_dedup []
theorem firstMet_all (ns : List Int) : PyProof.Rows.firstMet (fun i => ns.getD i 0) ns.length = dedup ns := by
  unfold PyProof.Rows.firstMet dedup
  congr 1
  apply List.ext_getElem
  · simp
  · intro i h1 h2
    simp [List.getElem_map, List.getD_eq_getElem?_getD, List.getElem?_eq_getElem h2]
def oLenSet : O1 := fun x M => match x with
  | .lst l => match listAt M l with
    | some xs => match ints? xs with
      | some is => if is.length ≤ 4000 then some (.int ((dedup is).length : Nat), M) else none
      | none => none
    | none => none
  | _ => none
theorem ae_lenSet {p p2 q : Pos} (hm : X.mg "len" = none) (hm2 : X.mg "set" = none) (ha : AE X W a f) (hc : X.calm = true := by rfl) (hg : Gl X "len" := by rfl) (hg2 : Gl X "set" := by rfl)
    (na : starEach [a] X.env = (false, eval a X.env) :: starEach [] X.env := by rfl) : AE X W (.Call (.Name "len" p) [.Call (.Name "set" p2) [a] [] q] [] pos) (eUn oLenSet f) := by
  refine ⟨fun pins s σ H Q I h => ?_⟩
  have h2 := seqG (G := (X.gx W.Tb)) (W := W) Is h
  refine Call_ (ld_blt I hg hm boot_len ?_)
  refine PyProof.Rows.callWith_builtin1 (PyProof.Rows.args_cons ?_ rfl) rfl rfl
  refine Call_ (ld_blt I hg2 hm2 boot_set ?_)
  refine PyProof.Rows.callWith_type1 (PyProof.Rows.args_cons (thn (ha.run pins s σ H _ I h2) fun v s1 ⟨x, H1, I1, r1, q1⟩ => PyProof.Rows.args_nil ?_) na) na rfl
  obtain ⟨τ, M, ρ, y, rs, rm', i, r⟩ := q1
  have ro : RO (X.am W.Tb) ρ H1 (oLenSet y M) Q := RO.of r
  unfold oLenSet at ro
  cases i with
  | lst hl =>
    dsimp only at ro
    split at ro
    · rename_i xs el
      split at ro
      · rename_i is ei
        split at ro
        · rename_i hz4
          obtain ⟨vs, hq, iv⟩ := rm'.list hl el
          rw [ints_of ei] at iv
          rw [iv.ints] at hq
          cases r1
          obtain ⟨its, r, pl, hz⟩ := I1.list hq
          have hlen : its.toArray.size = is.length := by rw [List.size_toArray, ← r.length, List.length_map]
          refine call_set_list (ns := is) (I1.ok.hd hc) pl.isList (by simpa using intsAre_of r) (by rw [hlen]; unfold scanBound; omega) fun h' tk hS hk => ?_
          refine PyProof.Rows.args_nil ?_
          rw [hlen, firstMet_all] at hS
          obtain ⟨o, es, ep, t, ho, hex, hd, _, _, _, hf, hn⟩ := hS
          have I2 : L2.Inv X pins σ H1 { s1 with heap := h', toks := tk } := I1.kept fun b o e => hk b o (Heap.lt_size e) e
          have hdl : (dedup is).length ≤ is.length := by rw [← firstMet_all]; exact PyProof.Rows.firstMet_length_le _ _
          exact call_len_set ho hex hd hf (by rw [hn] <;> omega) ⟨.int (dedup is).length, H1, I2.tok _, ⟨_, by rw [hn]⟩, ro.val rm' (.int _)⟩
        · exact ro.elim
      · exact ro.elim
    · exact ro.elim
  | _ => exact ro.elim
/-! ### a, b, c = x, y, z -/
def sPar3 (i j l : Nat) (f : EFs) : SF := fun τ M => (f τ M).bindS τ fun as M1 => match as with
  | [a, b, c] => .nx (((τ.set i (some a)).set j (some b)).set l (some c)) M1
  | _ => .bad
theorem as_par3 (i j l : Nat) {x y z : Str} {px py pz pt : Pos} {kt k2 pt2} (hc : X.calm = true) (hN : X.N.Nodup) (ha : AA X W [a, b, c] fs) (hi : X.N[i]? = some x := by rfl) (hj : X.N[j]? = some y := by rfl) (hl : X.N[l]? = some z := by rfl) (hij : i ≠ j := by decide) (hil : i ≠ l := by decide) (hjl : j ≠ l := by decide)
    (hx : X.env.scope.names.lookup x = some .local := by rfl) (hy : X.env.scope.names.lookup y = some .local := by rfl) (hz : X.env.scope.names.lookup z = some .local := by rfl)
    (hw : swappedStores [.Tuple [.Name x px, .Name y py, .Name z pz] kt pt] (.Tuple [a, b, c] k2 pt2) X.env = pure (some [x, y, z]) := by rfl)
    (hs : swapsWithSole [.Tuple [.Name x px, .Name y py, .Name z pz] kt pt] (.Tuple [a, b, c] k2 pt2) pos.line X.env = pure false := by rfl) :
    AS X W (.Assign [.Tuple [.Name x px, .Name y py, .Name z pz] kt pt] (.Tuple [a, b, c] k2 pt2) pos) (sPar3 i j l fs) := (ps_par3 hc hN hi hj hl hij hil hjl hx hy hz ha hw hs).pre fun D σ H h => (bindS_tK IsAll h).imp fun b H1 h1 => by
  obtain ⟨τ, M, ρ, as, rs, rm, i, r⟩ := h1
  cases i with
  | nil => exact r.elim
  | cons i1 i =>
    cases i with
    | nil => exact r.elim
    | cons i2 i =>
      cases i with
      | nil => exact r.elim
      | cons i3 i =>
        cases i with
        | nil => exact ⟨_, _, _, rfl, r _ _ ρ (.refl _) (.refl _) rm (((rs.set i1 _).set i2 _).set i3 _)⟩
        | cons _ _ => exact r.elim
/-! ### d[k], x = y, z -/
def tDset : TSet := fun o i v H Q => ∃ p H', o = .ref p ∧ DPut H p i v H' ∧ Q H'
theorem set_dct (hu : X.A.units + 1 < cLine) : PSet X tDset := by
  intro pins s σ H o i v ov iv u Q I ro ri rv h
  obtain ⟨p, H', rfl, dp, q⟩ := h
  cases ro
  exact d_setItem hu I dp ri rv fun s' I' => ⟨H', I', q⟩
def dputS (τ1 : Sl) (v d k : A) (M : Store) : SO := match d with
  | .dct l => match dPut M l k v with
    | some M4 => .nx τ1 M4
    | none => .bad
  | _ => .bad
def mixS (fd fk : EF) (j : Nat) (τ : Sl) (as : List A) (M1 : Store) : SO := match as with
  | [v, y] => (fd τ M1).bindS τ fun d M2 => (fk τ M2).bindS τ (dputS (τ.set j (some y)) v d)
  | _ => .bad
def sMix (fd fk : EF) (j : Nat) (fs : EFs) : SF := fun τ M => (fs τ M).bindS τ (mixS fd fk j τ)
theorem as_mix (j : Nat) {o i : Expr} {x : Str} {ps px pt : Pos} {kt k2 pt2} {fd fk : EF} (hu : X.A.units + 1 < cLine) (hc : X.calm = true) (hN : X.N.Nodup) (ho : AE X W o fd) (hk : AE X W i fk) (ha : AA X W [a, b] fs) (hj : X.N[j]? = some x := by rfl) (hx : Loc X.env.scope x := by first | exact Or.inl rfl | exact Or.inr rfl)
    (hs : swapsWithSole [.Tuple [.Subscript o i ps, .Name x px] kt pt] (.Tuple [a, b] k2 pt2) pos.line X.env = pure false := by rfl) (hw : swappedStores [.Tuple [.Subscript o i ps, .Name x px] kt pt] (.Tuple [a, b] k2 pt2) X.env = pure none := by rfl)
    (h1 : (assignEach [.Tuple [.Subscript o i ps, .Name x px] kt pt] X.env).map (·.2) = [assign (.Tuple [.Subscript o i ps, .Name x px] kt pt) X.env] := by rfl)
    (hn : (assignEach [.Subscript o i ps, .Name x px] X.env).length = 2 := by rfl) (hst : (assignEach [.Subscript o i ps, .Name x px] X.env).findIdx? (·.1) = none := by rfl)
    (hc1 : (assignEach [.Subscript o i ps, .Name x px] X.env).map (·.2) = assign (.Subscript o i ps) X.env :: (assignEach [.Name x px] X.env).map (·.2) := by rfl) (hc2 : (assignEach [.Name x px] X.env).map (·.2) = assign (.Name x px) X.env :: (assignEach [] X.env).map (·.2) := by rfl)
    (hf : X.fn x = true ∨ X.env.scope.names.lookup x = some .local := by first | exact .inl rfl | exact .inr rfl | assumption)
    (hsub : ∀ v, assign (.Subscript o i ps) X.env v = (do
      let ov ← holding [v] (eval o X.env)
      let iv ← holding [v, ov] (eval i X.env)
      standAt ps
      holding [v, ov, iv] (setItem ov iv v)
      release [v, ov, iv] []) := by intro _; rfl) :
    AS X W (.Assign [.Tuple [.Subscript o i ps, .Name x px] kt pt] (.Tuple [a, b] k2 pt2) pos) (sMix fd fk j fs) :=
  (ps_asg (pe_tup ha) (pg_tup (n := 2) hc (pgs_cons (pg_sub ho hk (set_dct hu) hsub) (pgs_cons (pg_name hN hj hx hf) pgs_nil hc2) hc1) hn hst) hs hw h1).pre fun D σ H h => (bindS_tK IsAll h).imp fun vs H1 h1 => by
  obtain ⟨τ, M, ρ, as, rs, rm, is, r⟩ := h1
  cases is with
  | nil => exact r.elim
  | @cons av v _ _ i1 is =>
    cases is with
    | nil => exact r.elim
    | @cons ay y _ _ i2 is =>
      cases is with
      | cons _ _ => exact r.elim
      | nil =>
        refine ⟨by show 2 ≤ sizeLine; decide, fun p hp => ⟨p, _, rfl, .inl (.inl upd_same), rfl, v, [y], rfl, ?_⟩⟩
        have gp : Grow H1 (upd H1 p (.tup [v, y])) := .new hp
        have r : RSO (X.gx W.Tb) W D ρ H1 ((fd τ M).bindS τ fun d M2 => (fk τ M2).bindS τ (dputS (τ.set j (some ay)) av d)) := r
        have r := RSO.mono r (.refl _) gp
        refine ⟨τ, M, ρ, rs.mono (.refl _) gp, rm.new hp, ?_⟩
        cases e1 : fd τ M with
        | ok d M2 =>
          rw [e1] at r
          intro dv H2 ρ2 x2 g2 m2 id2
          have r := RSO.mono r x2 g2
          have r : RSO (X.gx W.Tb) W D ρ2 H2 ((fk τ M2).bindS τ (dputS (τ.set j (some ay)) av d)) := r
          refine ⟨τ, M2, ρ2, (rs.mono (.refl _) gp).mono x2 g2, m2, ?_⟩
          cases e2 : fk τ M2 with
          | ok k M3 =>
            rw [e2] at r
            intro kv H3 ρ3 x3 g3 m3 ik
            have r := RSO.mono r x3 g3
            have r : RSO (X.gx W.Tb) W D ρ3 H3 (dputS (τ.set j (some ay)) av d k M3) := r
            have i1' := ((i1.mono (.refl _) gp).mono x2 g2).mono x3 g3
            have i2' := ((i2.mono (.refl _) gp).mono x2 g2).mono x3 g3
            unfold dputS at r
            split at r
            · rename_i l
              cases id2.mono x3 g3 with
              | dct hb =>
                split at r
                · rename_i M4 e3
                  obtain ⟨H4, dp, m4, g4⟩ := dPut_ok m3 hb ik i1' e3
                  exact ⟨_, H4, rfl, dp, y, [], rfl, rfl, r _ _ ρ3 (.refl _) g4 m4 (((((rs.mono (.refl _) gp).mono x2 g2).mono x3 g3).mono (.refl _) g4).set (i2'.mono (.refl _) g4) _)⟩
                · exact r.elim
            · exact r.elim
          | ex en M3 => rw [e2] at r; exact fun c d H3 ρ3 x g m i => r c d σ H3 ρ3 x g m (((rs.mono (.refl _) gp).mono x2 g2).mono x g) i
          | bad => rw [e2] at r; exact r
        | ex en M2 => rw [e1] at r; exact fun c d H2 ρ2 x g m i => r c d σ H2 ρ2 x g m ((rs.mono (.refl _) gp).mono x g) i
        | bad => rw [e1] at r; exact r
/-! ### {k: v} -/
def dispK (l : Nat) (k v : A) (M3 : Store) : EO A := match M3[l]?, key? k with
  | some (.dK []), some j => .ok (.dct l) (M3.set l (.dK [(j, v)]))
  | _, _ => .bad
def eDisp1 (fk fv : EF) : EF := fun τ M => (fk τ (M ++ [.dK []])).bind fun k M2 => (fv τ M2).bind (dispK M.length k)
theorem ae_disp1 {k v : Expr} {fk fv : EF} (hk : AE X W k fk) (hv : AE X W v fv) : AE X W (.Dict [some k] [v] pos) (eDisp1 fk fv) :=
  (pe_disp (pps_cons hk hv pps_nil) (by rfl) (by rfl) (fun z => by cases z) (by show 1 ≤ 15; decide)).pre fun σ H Q h => by
  obtain ⟨τ, M, ρ, rs, rm, r⟩ := h
  intro p hp
  have g0 : Grow H (upd H p (.dK [])) := .new hp
  have m0 : RM (X.am W.Tb) (ρ ++ [p]) (upd H p (.dK [])) (M ++ [.dK []]) := rm.push hp ⟨[], upd_same, .nil⟩
  have r := RE.mono r (.snoc ρ p) g0
  have hl0 : (ρ ++ [p])[M.length]? = some p := by rw [← rm.len]; simp
  unfold eDisp1 at r
  refine ⟨τ, _, _, rs.mono (.snoc ρ p) g0, m0, ?_⟩
  cases e1 : fk τ (M ++ [.dK []]) with
  | ok ka M2 =>
    rw [e1] at r
    intro kv H2 ρ2 x2 g2 m2 ik
    have r := RE.mono r x2 g2
    refine ⟨τ, M2, ρ2, (rs.mono (.snoc ρ p) g0).mono x2 g2, m2, ?_⟩
    have r : RE (X.gx W.Tb) W σ ρ2 H2 Is ((fv τ M2).bind (dispK M.length ka)) Q := r
    cases e2 : fv τ M2 with
    | ok va M3 =>
      rw [e2] at r
      intro vv H3 ρ3 x3 g3 m3 iv
      have r := RE.mono r x3 g3
      have hb : ρ3[M.length]? = some p := x3.get (x2.get hl0)
      have r : RE (X.gx W.Tb) W σ ρ3 H3 Is (dispK M.length ka va M3) Q := r
      unfold dispK at r
      split at r
      · rename_i j ec ej
        obtain ⟨vs, q, iz⟩ := m3.at_ _ _ _ hb ec
        have hH : H3 p = some (.dK []) := by
          cases iz; exact q
        have g4 := m3.growSet (o := .dK [(j, vv)]) hb ec
        refine ⟨hH, [(j, vv)], by rw [key_ok (ik.mono x3 g3) ej]; rfl, by show 1 ≤ 15; decide, ?_⟩
        exact r.okv (.refl _) g4 (m3.set hb ec ⟨[vv], upd_same, .cons (iv.mono (.refl _) g4) .nil⟩) (.dct hb)
      · exact r.elim
    | ex en M3 => rw [e2] at r; exact r
    | bad => rw [e2] at r; exact r
  | ex en M2 => rw [e1] at r; exact r
  | bad => rw [e1] at r; exact r
/-- .. of a tuple's key -/
def dispT (l : Nat) (k v : A) (M3 : Store) : EO A := match M3[l]?, k with
  | some (.dT []), .tup ks => match ks.mapM key? with
    | some j => .ok (.dct l) (M3.set l (.dT [(j, v)]))
    | none => .bad
  | _, _ => .bad
def eDispT (fk fv : EF) : EF := fun τ M => (fk τ (M ++ [.dT []])).bind fun k M2 => (fv τ M2).bind (dispT M.length k)
theorem ae_dispT {k v : Expr} {fk fv : EF} (hu : X.A.units + 1 < cLine) (hk : AE X W k fk) (hv : AE X W v fv) : AE X W (.Dict [some k] [v] pos) (eDispT fk fv) := ⟨fun pins s σ H Q I h => by
  obtain ⟨τ, M, ρ, rs, rm, r⟩ := h
  have hp := I.hok.fresh (Nat.le_refl s.heap.objs.size)
  generalize ep : s.heap.objs.size = p at hp
  have I1 : L2.Inv X pins σ (upd H p (.dT [])) { s with heap := s.heap.push { cls := .type "dict", data := .dict #[] } } := by
    subst ep
    exact I.laid (t' := s.toks) (fun _ _ q => Heap.get?_push_of_some _ q) (Nat.le_refl _) (dt_empty s.heap I.big)
  have g0 : Grow H (upd H p (.dT [])) := .new hp
  have m0 : RM (X.am W.Tb) (ρ ++ [p]) (upd H p (.dT [])) (M ++ [.dT []]) := rm.push hp ⟨[], upd_same, .nil⟩
  have r := RE.mono r (.snoc ρ p) g0
  have hl0 : (ρ ++ [p])[M.length]? = some p := by rw [← rm.len]; simp
  unfold eDispT at r
  refine wpAny_Dict_any (by rfl) (by rfl) (fun z => by cases z) (by show 1 ≤ 15; decide) ?_
  have hP : PPs X pos [some k] [v] [(tG (X.gx W.Tb) W Is fk, tG (X.gx W.Tb) W Is fv)] := pps_cons hk hv pps_nil
  refine thn (hP.run pins _ σ _ (fun ps H3 => ∃ kv vv, ps = [(kv, vv)] ∧ ∃ ks ts H4, kv = .ref ks ∧ H3 ks = some (.tup (ts.map kV)) ∧ H3 p = some (.dT []) ∧ H4 = upd H3 p (.dT [(ts, vv)]) ∧ Q (.ref p) H4) I1 ?_) fun vs s2 ⟨ps, H3, I3, rel, kv, vv, eps, ks, ts, H4, ekv, hks, hpd, e4, q⟩ => ?_
  · refine ⟨τ, _, _, rs.mono (.snoc ρ p) g0, m0, ?_⟩
    cases e1 : fk τ (M ++ [.dT []]) with
    | ok ka M2 =>
      rw [e1] at r
      intro kv H2 ρ2 x2 g2 m2 ik
      have r := RE.mono r x2 g2
      refine ⟨τ, M2, ρ2, (rs.mono (.snoc ρ p) g0).mono x2 g2, m2, ?_⟩
      have r : RE (X.gx W.Tb) W σ ρ2 H2 Is ((fv τ M2).bind (dispT M.length ka)) Q := r
      cases e2 : fv τ M2 with
      | ok va M3 =>
        rw [e2] at r
        intro vv H3 ρ3 x3 g3 m3 iv
        have r := RE.mono r x3 g3
        have hb : ρ3[M.length]? = some p := x3.get (x2.get hl0)
        have r : RE (X.gx W.Tb) W σ ρ3 H3 Is (dispT M.length ka va M3) Q := r
        have ik := ik.mono x3 g3
        unfold dispT at r
        split at r
        · have ec : M3[M.length]? = some (.dT []) := by assumption
          split at r
          · rename_i j ej
            obtain ⟨vs, q, iz⟩ := m3.at_ _ _ _ hb ec
            have hH : H3 p = some (.dT []) := by cases iz; exact q
            cases ik with
            | tup ht it =>
              rw [keys_ok it ej] at ht
              have g4 := m3.growSet (o := .dT [(j, vv)]) hb ec
              exact ⟨_, vv, rfl, _, j, _, rfl, ht, hH, rfl, r.okv (.refl _) g4 (m3.set hb ec ⟨[vv], upd_same, .cons (iv.mono (.refl _) g4) .nil⟩) (.dct hb)⟩
          · exact r.elim
        · exact r.elim
      | ex en M3 => rw [e2] at r; exact r
      | bad => rw [e2] at r; exact r
    | ex en M2 => rw [e1] at r; exact r
    | bad => rw [e1] at r; exact r
  · subst eps ekv
    obtain ⟨u1, u2, rfl, r1, r2⟩ : ∃ u1 u2, vs = [(u1, u2)] ∧ RelV (.ref ks) u1 ∧ RelV vv u2 := by
      cases rel with
      | cons h t => cases t; exact ⟨_, _, rfl, h.1, h.2⟩
    cases r1
    obtain ⟨z, hd, xs, rel2, dd⟩ := dt_of I3.hok hpd
    cases rel2
    show wpAny (model X.prog X.w) X.A (storeAll s.heap.objs.size [(Value.ref ks, u2)]) _ _ _
    rw [ep]
    unfold storeAll
    rw [List.forIn_cons]
    refine wpAny_bind (wpAny_bind ?_)
    refine wpAny_dictSet_heap (hsz := Nat.zero_le _) (knd := tupleKind (mixKind X.prog X.w)) (by show X.A.units < cLine; omega) (key_of I3.hok hks) dd fun h' dd' hs => ?_
    refine wpAny_pure ?_
    dsimp only
    rw [List.forIn_nil]
    refine wpAny_pure ?_
    obtain ⟨ob, es, ee, hq, h2, h3, h4, _, h5⟩ := dd'
    refine ⟨.ref p, H4, ?_, rfl, q⟩
    rw [e4]
    have rel0 : KT H3 ([] : List (List Key × V)) [] := .nil
    have relP := rel0.put ts hks r2
    have e0 : putK ([] : List (List Key × V)) ts vv = [(ts, vv)] := rfl
    rw [e0] at relP
    refine d_write I3 (by rw [hpd]; exact True.intro) hs ⟨ob, hq⟩ ⟨by show 1 ≤ sizeLine; decide, hd, _, relP.keeps fun c ys ec => ?_, ob, es, ee, hq, h2, h3, h4, h5⟩
    rw [upd_ne (ne_of ec hpd (fun z => nomatch z))]
    exact ec⟩
end
end AB
/-! AB12: n += e; the law's end -/
namespace AB
open PySem PySem.Spec PyProof.Rows L2
section
variable {X : Cx} {W : WR} {pos : Pos} {e : Expr} {f : EF}
def augK (i : Nat) (g : Int → Int → Int) (x : Int) (τ : Sl) (b : A) (M : Store) : SO := match b with
  | .int j => .nx (τ.set i (some (.int (g x j)))) M
  | _ => .bad
def sAug (i : Nat) (g : Int → Int → Int) (f : EF) : SF := fun τ M => match τ[i]? with
  | some (some (.int x)) => (f τ M).bindS τ (augK i g x τ)
  | _ => .bad
theorem as_aug (i : Nat) {x : Str} {op : Operator} {g : Int → Int → Int} {pos' : Pos} (hN : X.N.Nodup) (ho : PIp X op (ipI g)) (he : AE X W e f) (hi : X.N[i]? = some x := by rfl) (hx : Loc X.env.scope x := by first | exact Or.inl rfl | exact Or.inr rfl)
    (hf : X.fn x = true ∨ X.env.scope.names.lookup x = some .local := by first | exact .inl rfl | exact .inr rfl | assumption) : AS X W (.AugAssign (.Name x pos') op e pos) (sAug i g f) := (ps_aug hN hi hx he ho hf).pre fun D σ H h => by
  obtain ⟨τ, M, ρ, rs, rm, r⟩ := h
  unfold sAug at r
  split at r
  · rename_i a ea
    obtain ⟨v, hv, iv⟩ := rs.get ea
    cases iv
    refine ⟨_, hv, τ, M, ρ, rs, rm, ?_⟩
    cases e1 : f τ M with
    | ok b M1 =>
      rw [e1] at r
      intro w H1 ρ1 x1 g1 m1 iw
      have r := RSO.mono r x1 g1
      have r : RSO (X.gx W.Tb) W D ρ1 H1 (augK i g a τ b M1) := r
      cases b with
      | int j =>
        cases iw
        exact ⟨_, _, rfl, rfl, r _ _ ρ1 (.refl _) (.refl _) m1 ((rs.mono x1 g1).set (.int _) i)⟩
      | _ => exact r.elim
    | ex en M1 => rw [e1] at r; exact fun c d H1 ρ1 x g m i => r c d σ H1 ρ1 x g m (rs.mono x g) i
    | bad => rw [e1] at r; exact r
  · exact r.elim
end
/-- the law's store: the script alone -/
def scr (ns : List Int) : Store := [.frz (ns.map .int)]
end AB
namespace AB
open PySem PySem.Spec PyProof.Rows L2
abbrev fuel : Nat := 1000000
theorem hu64 {A : Around} {k : Nat} (hr : Room k A) : A.units + 64 < cLine := by have := hr.un; omega
theorem hu65 {A : Around} {k : Nat} (hr : Room k A) : A.units + 65 < cLine := by have := hr.un; omega
theorem hu9 {A : Around} {k : Nat} (hr : Room k A) : A.units + 9 < cLine := by have := hr.un; omega
theorem hu1 {A : Around} {k : Nat} (hr : Room k A) : A.units + 1 < cLine := by have := hr.un; omega
/-- a def of the text that does F -/
structure FnX (P : Program) (w : World) (K : PySem.W.Frag) (mg : Str → Option Value) (Tb : Tbl) (base : Heap) (x : Str) (k n : Nat) (F : On') : Prop where
  ex : ∃ fa fd ps, FnOk P w K mg base (L2.CX P w) k fa fd ps (spA ⟨mg, ⟨w, K, mg, Tb⟩⟩ n F) ∧ mg x = some (.ref fa) ∧ PySem.W.keepIn K (.ref fa) = true ∧ Binds K fd ps []
section
variable {X : Cx} {W : WR} {pos : Pos}
theorem ae_callX {k n : Nat} {F : On'} {x : Str} {p : Pos} {e : Expr} {es : List Expr} {fs : EFs} (G : FnX X.prog X.w X.K X.mg W.Tb X.base x k n F) (hr : Room k X.A) (tk : Takes X W.w)
    (ha : AA X W (e :: es) fs) (hg : Gl X x := by rfl) (hdb : (x == ("__debug__" : Str)) = false := by decide) (he : starEach (e :: es) X.env = (false, eval e X.env) :: starEach es X.env := by rfl) (hpl : (backTo pos (starEach es X.env)).any (·.1) = false := by rfl) :
    AE X W (.Call (.Name x p) (e :: es) [] pos) (eCall n F fs) := by
  obtain ⟨fa, fd, ps, G, hm, hk, hb⟩ := G.ex
  exact ae_call G hr hm hk hb tk ha hg hdb he hpl
end
/-- .. whose last parameters have the defaults ds -/
structure FnXD (P : Program) (w : World) (K : PySem.W.Frag) (mg : Str → Option Value) (Tb : Tbl) (base : Heap) (x : Str) (k n : Nat) (ds : List A) (F : On') : Prop where
  ex : ∃ fa fd ps, FnOk P w K mg base (L2.CX P w) k fa fd ps (spA ⟨mg, ⟨w, K, mg, Tb⟩⟩ n F) ∧ mg x = some (.ref fa) ∧ PySem.W.keepIn K (.ref fa) = true ∧ Binds K fd ps [] ∧ ∃ us, Binds K fd ps us ∧ ∃ vs, Vals vs us ∧ ∀ ρ H, IsAll ρ H ds vs
def eCallD (n : Nat) (F : On') (ds : List A) (fs : EFs) : EF := fun τ M => (fs τ M).bind fun as M1 => if (as ++ ds).length = n then F (as ++ ds) M1 else .bad
section
variable {X : Cx} {W : WR} {pos : Pos}
theorem FnXD.x {P : Program} {w : World} {K : PySem.W.Frag} {mg : Str → Option Value} {Tb : Tbl} {base : Heap} {x : Str} {k n : Nat} {ds : List A} {F : On'} (G : FnXD P w K mg Tb base x k n ds F) : FnX P w K mg Tb base x k n F := by
  obtain ⟨fa, fd, ps, G, hm, hk, hb, _⟩ := G.ex
  exact ⟨fa, fd, ps, G, hm, hk, hb⟩
theorem ae_callXD {k n : Nat} {F : On'} {x : Str} {p : Pos} {e : Expr} {es : List Expr} {fs : EFs} {ds : List A} (G : FnXD X.prog X.w X.K X.mg W.Tb X.base x k n ds F) (hr : Room k X.A) (tk : Takes X W.w)
    (ha : AA X W (e :: es) fs) (hg : Gl X x := by rfl) (hdb : (x == ("__debug__" : Str)) = false := by decide) (he : starEach (e :: es) X.env = (false, eval e X.env) :: starEach es X.env := by rfl) (hpl : (backTo pos (starEach es X.env)).any (·.1) = false := by rfl) :
    AE X W (.Call (.Name x p) (e :: es) [] pos) (eCallD n F ds fs) := by
  obtain ⟨fa, fd, ps, G, hm, hk, _, us, hb, vs, hv, hi⟩ := G.ex
  refine (pe_callSD (E := WE W.w) G hr hg hm hk hb hv (fun σ => passAt tk σ) ha hdb he hpl).pre fun σ H Q h => ?_
  refine (seqG IsAll h).imp fun ws H1 h1 => ?_
  obtain ⟨τ, M, ρ, as, rs, rm, i, r⟩ := h1
  have r : RE (X.gx W.Tb) W σ ρ H1 Is (if (as ++ ds).length = n then F (as ++ ds) M else .bad) Q := r
  split at r
  · rename_i hn
    refine ⟨as ++ ds, M, ρ, i.append (hi _ _), rm, hn, ?_⟩
    cases e : F (as ++ ds) M with
    | ok a M1 => rw [e] at r; exact r
    | ex en M1 => rw [e] at r; exact r
    | bad => rw [e] at r; exact r
  · exact r.elim
end
end AB
/-! AB13: the law's end, for any promise -/
namespace AB
open PySem PySem.Spec PyProof.Rows L2
theorem law_endT {mg : Str → Option Value} {w : World} {K : PySem.W.Frag} {Tb : Tbl} {F : On'} (hF : ∀ ns : List Int, ns.length ≤ 63 → ∃ M, F [.lst 0] (scr ns) = .ok (.bl true) M) {Q : VK} {E : XK} (H : Hp) (a : Addr) (ns : List Int) (hl : ns.length ≤ 63) (hS : SqL K H a (ns.map V.int)) (hT : LamX.Tabs Tb H) (q : ∀ H', Q (.bl true) H') :
    spA ⟨mg, ⟨w, K, mg, Tb⟩⟩ 1 F [.ref a] H Q E := by
  obtain ⟨M, e⟩ := hF ns hl
  have zero : ∀ {i : Nat} {b : Addr}, ([a] : List Addr)[i]? = some b → i = 0 := fun {i b} h => by
    have := (List.getElem?_eq_some_iff.mp h).1
    simp at this; omega
  refine ⟨[.lst 0], scr ns, [a], .cons (.lst rfl) .nil, ⟨rfl, fun i j b c d h1 h2 h3 h4 h5 h6 => ?_, fun i b c h1 h2 => ?_, hT, fun i j b c xs h1 h2 h3 h4 h5 => ?_, fun i j b c d h1 h2 h3 h4 h5 h6 => ?_⟩, rfl, ?_⟩
  · rw [zero h1, zero h2]
  · have hi := zero h1
    subst hi
    simp [scr] at h1 h2
    subst h1 h2
    have all : ∀ ns : List Int, IsAll [a] H (ns.map A.int) (ns.map V.int) := by
      intro ns
      induction ns with
      | nil => exact .nil
      | cons n ns ih => exact .cons (.int n) ih
    refine ⟨ns.map V.int, ?_, all ns⟩
    rcases hS with (h | ⟨o, h⟩) | h
    · exact .inl (.inr h)
    · exact .inl (.inl ⟨o, h⟩)
    · exact .inr h
  · have hi := zero h1
    subst hi
    simp [scr] at h3
    subst h3
    cases h5
  · rw [zero h1, zero h2]
  · rw [e]
    intro v H' ρ' x g m i
    cases i
    exact q _
theorem cx_false {P : Program} : ∀ (w : World) (H : Hp) (s : Shared) (e : Value) (s' : Shared), L2.CX P w [] H s (fun _ _ _ => False) e s' → False := fun _ _ _ _ _ ⟨_, _, _, _, _, _, _, _, _, _, _, _, h⟩ => h
end AB
/-! AB14: what an abstract run wants (backward steps) -/
namespace AB
open PySem PySem.Spec PyProof.Rows L2
@[irreducible] def EO.W {α : Type} (o : EO α) (Q : α → Store → Prop) : Prop := match o with
  | .ok a M => Q a M
  | _ => False
@[irreducible] def SO.W (o : SO) (N : Sl → Store → Prop) (R : A → Store → Prop) : Prop := match o with
  | .nx τ M => N τ M
  | .rt a M => R a M
  | _ => False
section
variable {α β : Type} {τ : Sl} {M : Store} {Q : A → Store → Prop} {Qs : List A → Store → Prop} {Qb : Bool → Store → Prop} {N : Sl → Store → Prop} {R : A → Store → Prop}
theorem EO.W.imp {o : EO α} {P P' : α → Store → Prop} (h : o.W P) (f : ∀ a M, P a M → P' a M) : o.W P' := by
  with_unfolding_all
    cases o with
    | ok a M => exact f _ _ h
    | _ => exact h
theorem SO.W.imp {o : SO} {N' : Sl → Store → Prop} {R' : A → Store → Prop} (h : o.W N R) (f : ∀ a M, N a M → N' a M) (g : ∀ a M, R a M → R' a M) : o.W N' R' := by
  with_unfolding_all
    cases o with
    | nx τ M => exact f _ _ h
    | rt τ M => exact g _ _ h
    | _ => exact h
theorem EO.W.out {o : EO α} {P : α → Store → Prop} (h : o.W P) : ∃ a M, o = .ok a M ∧ P a M := by
  with_unfolding_all
    cases o with
    | ok a M => exact ⟨_, _, rfl, h⟩
    | _ => exact h.elim
theorem w_of {o : EO α} {a : α} {M' : Store} {P : α → Store → Prop} (e : o = .ok a M') (h : P a M') : o.W P := by with_unfolding_all (rw [e]; exact h)
theorem w_bind {x : EO α} {g : α → Store → EO β} {P : β → Store → Prop} (h : x.W fun a M => (g a M).W P) : (x.bind g).W P := by
  with_unfolding_all
    cases x with
    | ok a M => exact h
    | _ => exact h
theorem w_bindS {x : EO α} {g : α → Store → SO} (h : x.W fun a M => (g a M).W N R) : (x.bindS τ g).W N R := by
  with_unfolding_all
    cases x with
    | ok a M => exact h
    | _ => exact h
theorem w_toE {o : Option (A × Store)} {a : A} {M' : Store} (e : o = some (a, M')) (h : Q a M') : (toE o).W Q := by with_unfolding_all (rw [e]; exact h)
theorem w_var {i : Nat} {a : A} (e : τ[i]? = some (some a)) (h : Q a M) : (eVar i τ M).W Q := by with_unfolding_all (unfold eVar; rw [e]; exact h)
theorem w_C {a : A} (h : Q a M) : (eC a τ M).W Q := by with_unfolding_all exact (h)
theorem w_nil (h : Qs [] M) : (eNil τ M).W Qs := by with_unfolding_all exact (h)
theorem w_cons {f : EF} {g : EFs} (h : (f τ M).W fun a M1 => (g τ M1).W fun as M2 => Qs (a :: as) M2) : (eCons f g τ M).W Qs := by with_unfolding_all exact (w_bind (h.imp fun _ _ h => w_bind (h.imp fun _ _ h => h)))
theorem w_op {o : O2} {f g : EF} (h : (f τ M).W fun a M1 => (g τ M1).W fun b M2 => (toE (o a b M2)).W Q) : (eOp o f g τ M).W Q := by with_unfolding_all exact (w_bind (h.imp fun _ _ h => w_bind h))
theorem w_un {o : O1} {f : EF} (h : (f τ M).W fun a M1 => (toE (o a M1)).W Q) : (eUn o f τ M).W Q := by with_unfolding_all exact (w_bind h)
theorem w_fn {o : On} {f : EFs} (h : (f τ M).W fun a M1 => (toE (o a M1)).W Q) : (eFn o f τ M).W Q := by with_unfolding_all exact (w_bind h)
theorem w_tup {f : EFs} (h : (f τ M).W fun as M1 => as.length ≤ sizeLine ∧ Q (.tup as) M1) : (eTup f τ M).W Q := by with_unfolding_all exact (w_bind (h.imp fun _ _ h => by rw [if_pos h.1]; exact h.2))
theorem w_lst {f : EFs} (h : (f τ M).W fun as M1 => as.length ≤ sizeLine ∧ Q (.lst M1.length) (M1 ++ [.lst as])) : (eLst f τ M).W Q := by with_unfolding_all exact (w_bind (h.imp fun _ _ h => by rw [if_pos h.1]; exact h.2))
theorem w_newK (h : Q (.dct M.length) (M ++ [.dK []])) : (eNewK τ M).W Q := by with_unfolding_all exact (h)
theorem w_newT (h : Q (.dct M.length) (M ++ [.dT []])) : (eNewT τ M).W Q := by with_unfolding_all exact (h)
theorem w_newN (h : Q (.dct M.length) (M ++ [.dN []])) : (eNewN τ M).W Q := by with_unfolding_all exact (h)
theorem w_B {f : EF} (h : (f τ M).W fun a M1 => ∃ k, a = .bl k ∧ Qb k M1) : (eB f τ M).W Qb := by with_unfolding_all exact (w_bind (h.imp fun _ _ ⟨k, e, h⟩ => by subst e; exact h))
theorem w_T {f : EF} (h : (f τ M).W fun a M1 => ∃ k, truA M1 a = some k ∧ Qb k M1) : (eT f τ M).W Qb := by with_unfolding_all exact (w_bind (h.imp fun _ _ ⟨k, e, h⟩ => by rw [e]; exact h))
theorem w_not {f : EFb} (h : (f τ M).W fun k M1 => Qb (!k) M1) : (bNot f τ M).W Qb := by with_unfolding_all exact (w_bind h)
theorem w_bor {f g : EFb} (h : (f τ M).W fun k M1 => if k = true then Qb true M1 else (g τ M1).W Qb) : (bOr f g τ M).W Qb := by with_unfolding_all exact (w_bind (h.imp fun k M1 h => by
  cases k with
  | true => exact h
  | false => exact h))
theorem w_band {f g : EFb} (h : (f τ M).W fun k M1 => if k = true then (g τ M1).W Qb else Qb false M1) : (bAnd f g τ M).W Qb := by with_unfolding_all exact (w_bind (h.imp fun k M1 h => by
  cases k with
  | true => exact h
  | false => exact h))
theorem w_yes (h : Qb true M) : (bYes τ M).W Qb := by with_unfolding_all exact (h)
theorem w_eAnd {f g : EF} (h : (f τ M).W fun a M1 => ∃ k, a = .bl k ∧ if k = true then (g τ M1).W Q else Q (.bl false) M1) : (eAnd f g τ M).W Q := by with_unfolding_all exact (w_bind (h.imp fun a M1 ⟨k, e, h⟩ => by
  subst e
  cases k with
  | true => exact h
  | false => exact h))
theorem w_eOr {f g : EF} (h : (f τ M).W fun a M1 => ∃ k, a = .bl k ∧ if k = true then Q (.bl true) M1 else (g τ M1).W Q) : (eOr f g τ M).W Q := by with_unfolding_all exact (w_bind (h.imp fun a M1 ⟨k, e, h⟩ => by
  subst e
  cases k with
  | true => exact h
  | false => exact h))
theorem w_eNot {f : EF} (h : (f τ M).W fun a M1 => ∃ k, a = .bl k ∧ Q (.bl (!k)) M1) : (eNot f τ M).W Q := by with_unfolding_all exact (w_bind (h.imp fun a M1 ⟨k, e, h⟩ => by subst e; exact h))
theorem w_eIf {t : EFb} {f g : EF} (h : (t τ M).W fun k M1 => if k = true then (f τ M1).W Q else (g τ M1).W Q) : (eIf t f g τ M).W Q := by with_unfolding_all exact (w_bind (h.imp fun k M1 h => by
  cases k with
  | true => exact h
  | false => exact h))
theorem w_call {n : Nat} {F : On'} {fs : EFs} (h : (fs τ M).W fun as M1 => as.length = n ∧ (F as M1).W Q) : (eCall n F fs τ M).W Q := by with_unfolding_all exact (w_bind (h.imp fun _ _ h => by rw [if_pos h.1]; exact h.2))
theorem w_callD {n : Nat} {F : On'} {ds : List A} {fs : EFs} (h : (fs τ M).W fun as M1 => (as ++ ds).length = n ∧ (F (as ++ ds) M1).W Q) : (eCallD n F ds fs τ M).W Q := by with_unfolding_all exact (w_bind (h.imp fun _ _ h => by rw [if_pos h.1]; exact h.2))
theorem w_chain {o o' : O2} {f g h : EF} (w : (f τ M).W fun a M1 => (g τ M1).W fun b M2 => (toE (o a b M2)).W fun k M3 => ∃ kk, k = .bl kk ∧ if kk = true then (h τ M3).W fun c M4 => (toE (o' b c M4)).W Q else Q (.bl false) M3) : (eChain o o' f g h τ M).W Q := by with_unfolding_all exact (w_bind (w.imp fun _ _ w => w_bind (w.imp fun b M2 w => w_bind (w.imp fun k M3 ⟨kk, e, w⟩ => by
    subst e
    cases kk with
    | true => exact w_bind w
    | false => exact w))))
theorem w_meth {o : OM} {f : EF} {fs : EFs} (h : (f τ M).W fun a M1 => isL M1 a = true ∧ (fs τ M1).W fun as M2 => (toE (o a as M2)).W Q) : (eMeth o f fs τ M).W Q := by with_unfolding_all exact (w_bind (h.imp fun _ _ h => by rw [if_pos h.1]; exact w_bind h.2))
theorem w_methN {o : OM} {f : EF} {fs : EFs} (h : (f τ M).W fun a M1 => isN M1 a = true ∧ (fs τ M1).W fun as M2 => (toE (o a as M2)).W Q) : (eMethN o f fs τ M).W Q := by with_unfolding_all exact (w_bind (h.imp fun _ _ h => by rw [if_pos h.1]; exact w_bind h.2))
theorem w_g1 {f : EF} {P : Int × Int → Store → Prop} (h : (f τ M).W fun a M1 => ∃ n, a = .int n ∧ P (0, n) M1) : (g1 f τ M).W P := by with_unfolding_all exact (w_bind (h.imp fun _ _ ⟨n, e, h⟩ => by subst e; exact h))
theorem w_lrg {f : ER} (h : (f τ M).W fun p M1 => rgOk p.1 p.2 = true ∧ Q (.lst M1.length) (M1 ++ [.lst (rgA p.1 p.2)])) : (eLrg f τ M).W Q := by with_unfolding_all exact (w_bind (h.imp fun _ _ h => by rw [if_pos h.1]; exact h.2))
theorem w_trg {f : ER} (h : (f τ M).W fun p M1 => rgOk p.1 p.2 = true ∧ Q (.tup (rgA p.1 p.2)) M1) : (eTrg f τ M).W Q := by with_unfolding_all exact (w_bind (h.imp fun _ _ h => by rw [if_pos h.1]; exact h.2))
/-! ### statements -/
theorem w_sNil (h : N τ M) : (sNil τ M).W N R := by with_unfolding_all exact (h)
theorem w_seq {s t : SF} (h : (s τ M).W (fun τ1 M1 => (t τ1 M1).W N R) R) : (sSeq s t τ M).W N R := by
  with_unfolding_all
    unfold sSeq
    cases e : s τ M with
    | nx τ1 M1 => rw [e] at h; exact h
    | rt a M1 => rw [e] at h; exact h
    | _ => rw [e] at h; exact h
theorem w_expr {f : EF} (h : (f τ M).W fun _ M1 => N τ M1) : (sExpr f τ M).W N R := by with_unfolding_all exact (w_bindS h)
theorem w_ret {f : EF} (h : (f τ M).W R) : (sRet f τ M).W N R := by with_unfolding_all exact (w_bindS h)
theorem w_retN (h : R .non M) : (sRetN τ M).W N R := by with_unfolding_all exact (h)
theorem w_if {c : EFb} {s t : SF} (h : (c τ M).W fun k M1 => if k = true then (s τ M1).W N R else (t τ M1).W N R) : (sIf c s t τ M).W N R := by with_unfolding_all exact (w_bindS (h.imp fun k M1 h => by
  cases k with
  | true => exact h
  | false => exact h))
theorem w_asg {t : Tgt} {f : EF} (h : (f τ M).W fun a M1 => ∃ τ1, t.set a τ = some τ1 ∧ N τ1 M1) : (sAsg t f τ M).W N R := by with_unfolding_all exact (w_bindS (h.imp fun a M1 ⟨τ1, e, h⟩ => by rw [e]; exact h))
theorem w_set {i : Nat} {f : EF} (h : (f τ M).W fun a M1 => N (τ.set i (some a)) M1) : (sAsg (.nm i) f τ M).W N R := by with_unfolding_all exact (w_asg (h.imp fun a M1 h => ⟨_, rfl, h⟩))
theorem w_par {i j : Nat} {f : EFs} (h : (f τ M).W fun as M1 => ∃ a b, as = [a, b] ∧ N ((τ.set i (some a)).set j (some b)) M1) : (sPar i j f τ M).W N R := by with_unfolding_all exact (w_bindS (h.imp fun _ _ ⟨a, b, e, h⟩ => by subst e; exact h))
theorem w_par3 {i j l : Nat} {f : EFs} (h : (f τ M).W fun as M1 => ∃ a b c, as = [a, b, c] ∧ N (((τ.set i (some a)).set j (some b)).set l (some c)) M1) : (sPar3 i j l f τ M).W N R := by with_unfolding_all exact (w_bindS (h.imp fun _ _ ⟨a, b, c, e, h⟩ => by subst e; exact h))
theorem w_dput {fd fk fv : EF} (h : (fv τ M).W fun v M1 => (fd τ M1).W fun d M2 => (fk τ M2).W fun k M3 => ∃ l M4, d = .dct l ∧ dPut M3 l k v = some M4 ∧ N τ M4) : (sDput fd fk fv τ M).W N R := by with_unfolding_all exact (w_bindS (h.imp fun _ _ h => w_bindS (h.imp fun _ _ h => w_bindS (h.imp fun k M3 ⟨l, M4, e, e2, h4⟩ => by subst e; dsimp only; rw [e2]; exact h4))))
theorem w_setL {fo fi fv : EF} (h : (fv τ M).W fun v M1 => (fo τ M1).W fun x M2 => (fi τ M2).W fun i M3 => ∃ M4, oSetL M3 x i v = some M4 ∧ N τ M4) : (sSetL fo fi fv τ M).W N R := by with_unfolding_all exact (w_bindS (h.imp fun _ _ h => w_bindS (h.imp fun _ _ h => w_bindS (h.imp fun k M3 ⟨M4, e2, h4⟩ => by rw [e2]; exact h4))))
theorem w_mix {fd fk : EF} {j : Nat} {fs : EFs} (h : (fs τ M).W fun as M1 => ∃ v y, as = [v, y] ∧ (fd τ M1).W fun d M2 => (fk τ M2).W fun k M3 => ∃ l M4, d = .dct l ∧ dPut M3 l k v = some M4 ∧ N (τ.set j (some y)) M4) : (sMix fd fk j fs τ M).W N R := by with_unfolding_all exact (w_bindS (h.imp fun _ _ ⟨v, y, e, h⟩ => by
    subst e
    exact w_bindS (h.imp fun _ _ h => w_bindS (h.imp fun k M3 ⟨l, M4, e, e2, h4⟩ => by subst e; unfold dputS; dsimp only; rw [e2]; exact h4))))
theorem w_aug {i : Nat} {g : Int → Int → Int} {x : Int} {f : EF} (e : τ[i]? = some (some (.int x))) (h : (f τ M).W fun b M1 => ∃ j, b = .int j ∧ N (τ.set i (some (.int (g x j)))) M1) : (sAug i g f τ M).W N R := by
  with_unfolding_all
    unfold sAug
    rw [e]
    exact w_bindS (h.imp fun _ _ ⟨j, e, h⟩ => by subst e; exact h)
theorem w_def {n : Nat} {s : SF} {as : List A} (h : (s (startA n as) M).W (fun _ M1 => Q .non M1) Q) : (defA n s as M).W Q := by
  with_unfolding_all
    unfold defA
    cases e : s (startA n as) M with
    | nx τ1 M1 => rw [e] at h; exact h
    | rt a M1 => rw [e] at h; exact h
    | _ => rw [e] at h; exact h.elim
/-! ### loops -/
theorem w_forA {src : Src} {t : Tgt} {b : SF} (xs : List A) (I : Nat → Sl → Store → Prop) (hat : ∀ i τ M, I i τ M → src.at M i = some xs[i]?)
    (hs : ∀ i x τ M, xs[i]? = some x → I i τ M → ∃ τ1, t.set x τ = some τ1 ∧ (b τ1 M).W (I (i + 1)) R) (he : ∀ τ M, I xs.length τ M → N τ M) :
    ∀ (n i : Nat) (τ : Sl) (M : Store), xs.length < i + n → i ≤ xs.length → I i τ M → (forA src t b n i τ M).W N R
  | 0, i, τ, M, h1, h2, _ => by omega
  | n + 1, i, τ, M, h1, h2, h0 => by
    with_unfolding_all
      unfold forA
      rw [hat i τ M h0]
      by_cases hi : i < xs.length
      · have ex : xs[i]? = some xs[i] := List.getElem?_eq_getElem hi
        rw [ex]
        obtain ⟨τ1, e1, h⟩ := hs i _ τ M ex h0
        dsimp only
        rw [e1]
        dsimp only
        cases eb : b τ1 M with
        | nx τ2 M2 =>
          rw [eb] at h
          exact w_forA xs I hat hs he n (i + 1) τ2 M2 (by omega) hi h
        | rt a M2 => rw [eb] at h; exact h
        | _ => rw [eb] at h; exact h.elim
      · rw [List.getElem?_eq_none (by omega)]
        have e : i = xs.length := by omega
        subst e
        exact he τ M h0
theorem w_for {f : EI} {t : Tgt} {b : SF} (h : (f τ M).W fun src M1 => ∃ xs : List A, ∃ I : Nat → Sl → Store → Prop, src.size M1 = xs.length + 1 ∧ I 0 τ M1 ∧ (∀ i τ M, I i τ M → src.at M i = some xs[i]?) ∧
    (∀ i x τ M, xs[i]? = some x → I i τ M → ∃ τ1, t.set x τ = some τ1 ∧ (b τ1 M).W (I (i + 1)) R) ∧ (∀ τ M, I xs.length τ M → N τ M)) : (sFor f t b τ M).W N R := by with_unfolding_all exact (w_bindS (h.imp fun src M1 ⟨xs, I, e, h0, h1, h2, h3⟩ => w_forA xs I h1 h2 h3 _ 0 _ _ (by rw [e]; omega) (Nat.zero_le _) h0))
theorem w_while {c : EFb} {b : SF} (I : Nat → Sl → Store → Prop) (hs : ∀ m τ M, I m τ M → (c τ M).W fun k M1 => if k = true then (b τ M1).W (fun τ2 M2 => ∃ m', m' < m ∧ I m' τ2 M2) R else N τ M1) :
    ∀ (n m : Nat) (τ : Sl) (M : Store), m < n → I m τ M → (whileA c b n τ M).W N R
  | 0, m, _, _, h, _ => by omega
  | n + 1, m, τ, M, h, h0 => by
    with_unfolding_all
      unfold whileA
      refine w_bindS ((hs m τ M h0).imp fun k M1 w => ?_)
      cases k with
      | false => exact w
      | true =>
        have w : (b τ M1).W (fun τ2 M2 => ∃ m', m' < m ∧ I m' τ2 M2) R := w
        rw [if_pos rfl]
        cases eb : b τ M1 with
        | nx τ2 M2 =>
          rw [eb] at w
          have w3 : ∃ m', m' < m ∧ I m' τ2 M2 := w
          obtain ⟨m', hm, h2⟩ := w3
          exact w_while I hs n m' τ2 M2 (by omega) h2
        | rt a M2 => rw [eb] at w; exact w
        | _ => rw [eb] at w; exact w.elim
theorem w_lcA {src : Src} {t : Tgt} {ft : EFb} {fe : EF} {l : Nat} {τw : Sl} (xs : List A) (I : Nat → List A → Store → Prop) (hat : ∀ i acc M, I i acc M → src.at M i = some xs[i]?)
    (hs : ∀ i x acc M, xs[i]? = some x → I i acc M → M[l]? = some (.lst acc) → acc.length ≤ i → ∃ τ1, t.set x τw = some τ1 ∧ (ft τ1 M).W fun k M1 => if k = true then (fe τ1 M1).W fun y M2 => M2[l]? = some (.lst acc) ∧ I (i + 1) (acc ++ [y]) (M2.set l (.lst (acc ++ [y]))) else M1[l]? = some (.lst acc) ∧ I (i + 1) acc M1)
    (hz : xs.length ≤ sizeLine) (he : ∀ acc M, I xs.length acc M → M[l]? = some (.lst acc) → Q (.lst l) M) :
    ∀ (n i : Nat) (acc : List A) (M : Store), xs.length < i + n → i ≤ xs.length → acc.length ≤ i → M[l]? = some (.lst acc) → I i acc M → (lcA src t ft fe l τw n i M).W Q
  | 0, i, acc, M, h1, h2, _, _, _ => by omega
  | n + 1, i, acc, M, h1, h2, h3, h4, h0 => by
    with_unfolding_all
      unfold lcA
      rw [hat i acc M h0]
      by_cases hi : i < xs.length
      · have ex : xs[i]? = some xs[i] := List.getElem?_eq_getElem hi
        rw [ex]
        obtain ⟨τ1, e1, h⟩ := hs i _ acc M ex h0 h4 h3
        dsimp only
        rw [e1]
        dsimp only
        cases ec : ft τ1 M with
        | ok k M1 =>
          rw [ec] at h
          cases k with
          | false => exact w_lcA xs I hat hs hz he n (i + 1) acc M1 (by omega) hi (by omega) h.1 h.2
          | true =>
            have h : (fe τ1 M1).W fun y M2 => M2[l]? = some (.lst acc) ∧ I (i + 1) (acc ++ [y]) (M2.set l (.lst (acc ++ [y]))) := h
            dsimp only
            cases ey : fe τ1 M1 with
            | ok y M2 =>
              rw [ey] at h
              have hl := h.1
              dsimp only
              rw [hl]
              dsimp only
              rw [if_pos (by omega)]
              have lt : l < M2.length := (List.getElem?_eq_some_iff.mp hl).1
              exact w_lcA xs I hat hs hz he n (i + 1) (acc ++ [y]) _ (by omega) hi (by rw [List.length_append, List.length_singleton]; omega) (by rw [List.getElem?_set_self lt]) h.2
            | _ => rw [ey] at h; exact h.elim
        | _ => rw [ec] at h; exact h.elim
      · rw [List.getElem?_eq_none (by omega)]
        have e : i = xs.length := by omega
        subst e
        exact he acc M h0 h4
theorem w_lc {fi : EI} {t : Tgt} {ft : EFb} {fe : EF} {own : List Nat} (h : (fi τ M).W fun src M1 => ∃ xs : List A, ∃ I : Nat → List A → Store → Prop, src.size M1 = xs.length + 1 ∧ xs.length ≤ sizeLine ∧ I 0 [] (M1 ++ [.lst []]) ∧ (∀ i acc M, I i acc M → src.at M i = some xs[i]?) ∧
    (∀ i x acc M, xs[i]? = some x → I i acc M → M[M1.length]? = some (.lst acc) → acc.length ≤ i → ∃ τ1, t.set x (wipeA τ own) = some τ1 ∧ (ft τ1 M).W fun k M2 => if k = true then (fe τ1 M2).W fun y M3 => M3[M1.length]? = some (.lst acc) ∧ I (i + 1) (acc ++ [y]) (M3.set M1.length (.lst (acc ++ [y]))) else M2[M1.length]? = some (.lst acc) ∧ I (i + 1) acc M2) ∧
    (∀ acc M, I xs.length acc M → M[M1.length]? = some (.lst acc) → Q (.lst M1.length) M)) : (eLc fi t ft fe own τ M).W Q := by with_unfolding_all exact (w_bind (h.imp fun src M1 ⟨xs, I, e, hz, h0, h1, h2, h3⟩ => w_lcA xs I h1 h2 hz h3 _ 0 [] _ (by rw [e]; omega) (Nat.zero_le _) (Nat.zero_le _) (by simp) h0))
theorem w_iSeqT {f : EF} {P : Src → Store → Prop} (h : (f τ M).W fun a M1 => ∃ xs, a = .tup xs ∧ P (.snap xs) M1) : (iSeq f τ M).W P := by with_unfolding_all exact (w_bind (h.imp fun _ _ ⟨xs, e, h⟩ => by subst e; exact h))
theorem w_iSeqL {f : EF} {P : Src → Store → Prop} (h : (f τ M).W fun a M1 => ∃ l xs, a = .lst l ∧ listAt M1 l = some xs ∧ P (.dyn l) M1) : (iSeq f τ M).W P := by with_unfolding_all exact (w_bind (h.imp fun _ _ ⟨l, xs, e, e2, h⟩ => by subst e; unfold srcOf; dsimp only; rw [e2]; exact h))
theorem w_rng1 {f : EFs} {P : Src → Store → Prop} (h : (f τ M).W fun as M1 => ∃ n : Nat, as = [.int n] ∧ n ≤ 1000000 ∧ P (.rng 0 n) M1) : (iRng1 f τ M).W P := by with_unfolding_all exact (w_bind (h.imp fun _ _ ⟨n, e, e2, h⟩ => by
  subst e
  unfold rngOf1
  dsimp only
  rw [if_pos (by constructor <;> omega)]
  exact h))
theorem w_enumT {f : EFs} {P : Src → Store → Prop} (h : (f τ M).W fun as M1 => ∃ xs, as = [.tup xs] ∧ P (.snap (pairsFrom 0 xs)) M1) : (iEnumA f τ M).W P := by with_unfolding_all exact (w_bind (h.imp fun _ _ ⟨xs, e, h⟩ => by subst e; exact h))
end
/-! ### stores -/
/-- M's cells stand in M', save at r -/
def Fr (r : Option Nat) (M M' : Store) : Prop := M.length ≤ M'.length ∧ ∀ i c, some i ≠ r → M[i]? = some c → M'[i]? = some c
abbrev Pre : Store → Store → Prop := Fr none
section
variable {r : Option Nat} {M M' M'' : Store} {c : Cell} {l : Nat}
theorem Fr.refl : Fr r M M := ⟨Nat.le_refl _, fun _ _ _ h => h⟩
theorem Fr.trans (a : Fr r M M') (b : Fr r M' M'') : Fr r M M'' := ⟨Nat.le_trans a.1 b.1, fun i c n h => b.2 i c n (a.2 i c n h)⟩
theorem Fr.of (a : Pre M M') : Fr r M M' := ⟨a.1, fun i c _ h => a.2 i c (by simp) h⟩
theorem Fr.app (a : Fr r M M') (t : List Cell) : Fr r M (M' ++ t) := ⟨by rw [List.length_append]; have := a.1; omega, fun i c n h => by
  have h := a.2 i c n h
  rw [List.getElem?_append_left (List.getElem?_eq_some_iff.mp h).1]
  exact h⟩
theorem Fr.set (a : Fr r M M') (h : M.length ≤ l) : Fr r M (M'.set l c) := ⟨by rw [List.length_set]; exact a.1, fun i d n e => by
  have : i < M.length := (List.getElem?_eq_some_iff.mp e).1
  rw [List.getElem?_set_ne (by omega)]
  exact a.2 i d n e⟩
theorem Fr.setr (a : Fr (some l) M M') : Fr (some l) M (M'.set l c) := ⟨by rw [List.length_set]; exact a.1, fun i d n e => by
  rw [List.getElem?_set_ne (fun z => n (by rw [z]))]
  exact a.2 i d n e⟩
theorem Pre.at (a : Pre M M') {i : Nat} {d : Cell} (h : M[i]? = some d) : M'[i]? = some d := a.2 i d (by simp) h
theorem Fr.at (a : Fr r M M') {i : Nat} {d : Cell} (h : M[i]? = some d) (n : some i ≠ r) : M'[i]? = some d := a.2 i d n h
theorem Fr.lt (a : Fr r M M') {l : Nat} (h : M'.length ≤ l) : M.length ≤ l := Nat.le_trans a.1 h
theorem at_new : (M ++ [c])[M.length]? = some c := by simp
theorem at_set {d : Cell} (h : M[l]? = some d) : (M.set l c)[l]? = some c := List.getElem?_set_self (List.getElem?_eq_some_iff.mp h).1
theorem at_ne {i : Nat} {d : Cell} (n : i ≠ l) (h : M[i]? = some d) : (M.set l c)[i]? = some d := by rw [List.getElem?_set_ne (fun z => n z.symm)]; exact h
theorem at_app {i : Nat} {d : Cell} {t : List Cell} (h : M[i]? = some d) : (M ++ t)[i]? = some d := by rw [List.getElem?_append_left (List.getElem?_eq_some_iff.mp h).1]; exact h
theorem at_lt {i : Nat} {d : Cell} (h : M[i]? = some d) : i < M.length := (List.getElem?_eq_some_iff.mp h).1
theorem listAt_of {xs : List A} (h : M[l]? = some (.lst xs)) : listAt M l = some xs := by unfold listAt; rw [h]; rfl
theorem listAt_frz {xs : List A} (h : M[l]? = some (.frz xs)) : listAt M l = some xs := by unfold listAt; rw [h]; rfl
end
/-! ### ops -/
section
variable {M : Store} {xs ys : List A} {x y : A} {l : Nat}
theorem atI_nat {α : Type} {xs : List α} {i : Nat} {x : α} (h : xs[i]? = some x) : atI xs (i : Int) = some x := by
  unfold atI ixN
  have : i < xs.length := (List.getElem?_eq_some_iff.mp h).1
  rw [if_pos (by omega), if_pos (by omega)]
  simpa using h
theorem ix_tup {i : Nat} (h : xs[i]? = some x) : oIx (.tup xs) (.int i) M = some (x, M) := by
  show (atI xs (i : Int)).map (·, M) = _
  rw [atI_nat h]
  rfl
theorem ix_lst {i : Nat} (hl : listAt M l = some xs) (h : xs[i]? = some x) : oIx (.lst l) (.int i) M = some (x, M) := by
  show (listAt M l).bind (fun xs => (atI xs (i : Int)).map (·, M)) = _
  rw [hl]
  show (atI xs (i : Int)).map (·, M) = _
  rw [atI_nat h]
  rfl
theorem append_ok (hl : M[l]? = some (.lst xs)) (h : xs.length < 16777216) : oAppend (.lst l) [y] M = some (.non, M.set l (.lst (xs ++ [y]))) := by
  unfold oAppend
  dsimp only
  rw [hl]
  dsimp only
  rw [if_pos (by rw [show sizeLine = 16777216 from rfl]; exact h)]
theorem isL_of (h : M[l]? = some (.lst xs)) : isL M (.lst l) = true := by
  show (listAt M l).isSome = true
  rw [listAt_of h]
  rfl
theorem len_lst (h : listAt M l = some xs) : oLenN [.lst l] M = some (.int (xs.length : Nat), M) := by
  show (listAt M l).map _ = _
  rw [h]
  rfl
theorem tuple_lst (h : listAt M l = some xs) : oTuple [.lst l] M = some (.tup xs, M) := by
  show (listAt M l).map _ = _
  rw [h]
  rfl
end
/-- a list of made things -/
theorem w_lc_map {fi : EI} {t : Tgt} {fe : EF} {own : List Nat} {τ : Sl} {M : Store} {Q : A → Store → Prop} (g : A → A)
    (h : (fi τ M).W fun src M1 => ∃ xs : List A, src.size M1 = xs.length + 1 ∧ xs.length ≤ sizeLine ∧ (∀ M2, Pre M1 M2 → ∀ i, src.at M2 i = some xs[i]?) ∧
      (∀ x M2, x ∈ xs → Pre M1 M2 → ∃ τ1, t.set x (wipeA τ own) = some τ1 ∧ (fe τ1 M2).W fun y M3 => y = g x ∧ Pre M2 M3) ∧
      (∀ l M2, M1.length ≤ l → Pre M1 M2 → M2[l]? = some (.lst (xs.map g)) → Q (.lst l) M2)) : (eLc fi t bYes fe own τ M).W Q := by
  refine w_lc (h.imp fun src M1 ⟨xs, e, hz, hat, hs, hq⟩ => ⟨xs, fun i acc M2 => acc = (xs.take i).map g ∧ Pre M1 M2, e, hz, ⟨by simp, Fr.refl.app _⟩, fun i acc M2 h => hat M2 h.2 i, fun i x acc M2 ex h hl _ => ?_, fun acc M2 h hl => ?_⟩)
  · obtain ⟨τ1, e1, w⟩ := hs x M2 (List.mem_of_getElem? ex) h.2
    refine ⟨τ1, e1, w_yes ?_⟩
    rw [if_pos rfl]
    refine w.imp fun y M3 hy => ⟨Pre.at hy.2 hl, ?_, (h.2.trans hy.2).set (Nat.le_refl _)⟩
    rw [hy.1, h.1, List.take_add_one, ex, List.map_append]
    rfl
  · obtain ⟨rfl, p⟩ := h
    rw [List.take_length] at hl
    exact hq _ _ (Nat.le_refl _) p hl
end AB
local macro_rules | `(tactic| walk_at "ws") => `(tactic| first
  | with_reducible refine AB.w_seq ?_ | with_reducible refine AB.w_sNil ?_ | with_reducible refine AB.w_set ?_ | with_reducible refine AB.w_cons ?_ | with_reducible refine AB.w_nil ?_ | with_reducible refine AB.w_op ?_ | with_reducible refine AB.w_fn ?_ | with_reducible refine AB.w_un ?_
  | ((with_reducible refine AB.w_var (a := ?aa) ?ee ?hh); (case ee => rfl)) | with_reducible refine AB.w_C ?_ | with_reducible refine AB.w_ret ?_ | with_reducible refine AB.w_if ?_ | with_reducible refine AB.w_expr ?_
  | with_reducible refine AB.w_eAnd ?_ | with_reducible refine AB.w_eOr ?_ | with_reducible refine AB.w_eNot ?_ | with_reducible refine AB.w_eIf ?_ | with_reducible refine AB.w_B ?_ | with_reducible refine AB.w_T ?_ | with_reducible refine AB.w_not ?_ | with_reducible refine AB.w_bor ?_ | with_reducible refine AB.w_band ?_ | with_reducible refine AB.w_yes ?_
  | with_reducible refine AB.w_meth ?_ | with_reducible refine AB.w_methN ?_ | with_reducible refine AB.w_chain ?_ | with_reducible refine AB.w_call ?_ | with_reducible refine AB.w_callD ?_ | with_reducible refine AB.w_tup ?_ | with_reducible refine AB.w_lst ?_ | with_reducible refine AB.w_newK ?_ | with_reducible refine AB.w_newT ?_ | with_reducible refine AB.w_newN ?_
  | with_reducible refine AB.w_setL ?_ | with_reducible refine AB.w_dput ?_ | with_reducible refine AB.w_par3 ?_ | with_reducible refine AB.w_par ?_ | with_reducible refine AB.w_mix ?_ | with_reducible refine AB.w_g1 ?_ | with_reducible refine AB.w_lrg ?_ | with_reducible refine AB.w_trg ?_ | with_reducible refine AB.w_retN ?_
  | with_reducible refine AB.w_asg ?_)
/-! AB15: raise of an own exception that bears no field -/
namespace AB
open PySem PySem.Spec PyProof.Rows L2
section
variable {X : Cx} {W : WR} {pos : Pos} {e : Expr}
def sRaise0 (x : Str) : SF := fun τ M => .ex ⟨x, none⟩ τ M
theorem as_raise0 {x : Str} {C : Addr} (hc : X.calm = true) (tk : Takes X W.w) (hm : PMk X e (fun _ H Q => Q (.ref C) none H)) (gC : X.mg x = some (.ref C)) : AS X W (.Raise (some e) none pos) (sRaise0 x) :=
  (ps_raise hc tk hm).pre fun D σ H h => by
    obtain ⟨τ, M, ρ, rs, rm, r⟩ := h
    exact r (.ref C) none σ H ρ (.refl _) (.refl _) rm rs ⟨C, gC, rfl, rfl⟩
end
end AB
/-! PM: itertools.permutations of range(n), as what a for walks over -/
namespace PM
open PySem PySem.Spec PyProof.Rows L2
open Sem (wp)
theorem mro_pm : mroOf (.type "itertools.permutations") = pure [.type "itertools.permutations", .type "object"] := by rw [mroOf_type]; kernel_rfl
theorem lookup_pm_new : typeLookup (.type "itertools.permutations") "__new__" = pure (some (.builtin "itertools.permutations.__new__")) := by rw [typeLookup_type, builtinLookup_eq_fast]; kernel_rfl
theorem slot_pm_init : Slot "itertools.permutations" "__init__" "object.__init__" :=
  .of (owner := "object") (n := "__init__") (by rw [typeLookup_type, builtinLookup_eq_fast]; kernel_rfl) (by decide +kernel) (by decide +kernel) (by decide +kernel)
    (by first | exact .inl (by decide +kernel) | exact .inr (by decide +kernel)) (by rw [isSubtype_type]; kernel_rfl)
theorem sub_pm : isSubtype (.type "itertools.permutations") (.type "itertools.permutations") = pure true := by rw [isSubtype_type]; kernel_rfl
theorem called_pm : TypeCalled "itertools.permutations" "itertools.permutations.__new__" "object.__init__" :=
  ⟨by decide +kernel, by decide +kernel, ⟨_, _, mro_pm⟩, madeBy_type mro_pm lookup_pm_new (by decide +kernel), by decide +kernel, sub_pm, slot_pm_init⟩
theorem typeCall_pm_1 (a : Value) : checkTypeCall "itertools.permutations" ⟨[a], []⟩ = pure () := by kernel_rfl
theorem newCall_pm_1 (a : Value) : checkBuiltinCall "itertools.permutations.__new__" ⟨[.type "itertools.permutations", a], []⟩ = pure () := by kernel_rfl
theorem entry_pm_new : entryFor table "itertools.permutations.__new__" = some Builtin.«itertools.permutations.__new__» := entryFor_of_tree (by kernel_rfl)
theorem slot_pm_iter : Slot "itertools.permutations" "__iter__" "itertools.permutations.__iter__" :=
  .of (owner := "itertools.permutations") (n := "__iter__") (by rw [typeLookup_type, builtinLookup_eq_fast]; kernel_rfl) (by decide +kernel) (by decide +kernel) (by decide +kernel)
    (by first | exact .inl (by decide +kernel) | exact .inr (by decide +kernel)) sub_pm
theorem slot_pm_next : Slot "itertools.permutations" "__next__" "itertools.permutations.__next__" :=
  .of (owner := "itertools.permutations") (n := "__next__") (by rw [typeLookup_type, builtinLookup_eq_fast]; kernel_rfl) (by decide +kernel) (by decide +kernel) (by decide +kernel)
    (by first | exact .inl (by decide +kernel) | exact .inr (by decide +kernel)) sub_pm
theorem entry_pm_iter : entryFor table "itertools.permutations.__iter__" = some Builtin.«dict_keyiterator.__iter__» :=
  entryFor_alias (id' := "dict_keyiterator.__iter__") (by kernel_rfl) (by first | rfl | decide +kernel | (unfold String.splitOn; simp +decide [String.splitOnAux])) (by decide +kernel) (by kernel_rfl)
theorem entry_pm_next : entryFor table "itertools.permutations.__next__" = some Builtin.«itertools.permutations.__next__» := entryFor_of_tree (by kernel_rfl)
theorem owner_pm : Manifest.owners.lookup (String.ofList ("itertools.permutations".toList.reverse).reverse) = some Manifest.sig_itertools_permutations := by kernel_rfl
theorem args_pm_iter (a : Value) : argsOk "itertools.permutations.__iter__" ⟨[a], []⟩ := by
  unfold argsOk; rw [signature?_of (id := "itertools.permutations.__iter__") (n := ['_', '_', 'r', 'e', 't', 'i', '_', '_']) (o := "itertools.permutations".toList.reverse) (by kernel_rfl) owner_pm]; kernel_rfl
theorem args_pm_next (a : Value) : argsOk "itertools.permutations.__next__" ⟨[a], []⟩ := by
  unfold argsOk; rw [signature?_of (id := "itertools.permutations.__next__") (n := ['_', '_', 't', 'x', 'e', 'n', '_', '_']) (o := "itertools.permutations".toList.reverse) (by kernel_rfl) owner_pm]; kernel_rfl
theorem noDict_pm : typeHasDict (.type "itertools.permutations") = false := by decide +kernel
/-- how many orders come -/
def fct : Nat → Nat
  | 1 => 1
  | 2 => 2
  | 3 => 6
  | _ => 0
/-- the places behind i steps -/
def ix : Nat → Nat → List Nat
  | 1, 0 => [0]
  | 2, 0 => [0, 1]
  | 2, 1 => [1, 0]
  | 3, 0 => [0, 1, 2]
  | 3, 1 => [0, 2, 1]
  | 3, 2 => [1, 0, 2]
  | 3, 3 => [1, 2, 0]
  | 3, 4 => [2, 0, 1]
  | 3, 5 => [2, 1, 0]
  | _, _ => []
def cy : Nat → Nat → List Nat
  | 1, 0 => [1]
  | 2, 0 => [2, 1]
  | 2, 1 => [1, 1]
  | 3, 0 => [3, 2, 1]
  | 3, 1 => [3, 1, 1]
  | 3, 2 => [2, 2, 1]
  | 3, 3 => [2, 1, 1]
  | 3, 4 => [1, 2, 1]
  | 3, 5 => [1, 1, 1]
  | _, _ => []
/-- the numbers that stand in the record -/
@[irreducible] def nums (n i : Nat) : List Value := ((ix n i).map fun j : Nat => rawInt (j : Int)) ++ ((cy n i).map fun j : Nat => rawInt (j : Int))
/-- the record, i orders having come -/
def rec (n i : Nat) (pool : Addr) (last : Value) : Array Value := ([.ref pool, rawInt (if i = 0 then 0 else 1), rawInt (n : Int), last] ++ nums n (i - 1)).toArray
/-- the pool: 0 to n - 1 -/
@[irreducible] def poolV (ts : List Tok) : List Value := (ts.zipIdx).map fun p => .int (p.2 : Int) p.1
def At (h : Heap) (it pool : Addr) (n i : Nat) : Prop := ∃ (last : Value) (ts : List Tok), ts.length = n ∧ pool ≠ it ∧ h.get? it = some { cls := .type "itertools.permutations", dict := none, data := .fields (rec n i pool last), slots := #[] } ∧
  h.get? pool = some { cls := .type "tuple", dict := none, data := .seq (poolV ts).toArray, slots := #[] }
section
variable {prog : Program} {w : World} {A : Around} {E : Value → Shared → Prop} {s : Shared}
theorem pm_iter {it pool : Addr} {n i : Nat} {Q : Value → Shared → Prop} (hit : At s.heap it pool n i) (h : Q (.ref it) s) : wpAny (model prog w) A (pyIter (.ref it)) Q E s := by
  obtain ⟨last, ts, _, _, hit, _⟩ := hit
  have hT : s.TypeIs (.ref it) "itertools.permutations" := ⟨_, hit, rfl⟩
  refine wpAny_pyIter_slot hT slot_pm_iter (wpAny_call_entry slot_pm_iter hT entry_pm_iter ?_ (args_pm_iter _))
  show wpAny _ _ (ret (.ref it)) _ _ s
  exact wpAny_pure ⟨_, rfl, "itertools.permutations", _, hT, slot_pm_next.lookup, h⟩
end
end PM
namespace PM
open PySem PySem.Spec PyProof.Rows L2
open Sem (wp)
section
variable {prog : Program} {w : World} {A : Around} {E : Value → Shared → Prop} {s : Shared}
/-- the order that comes next, as it is laid -/
def row (n i : Nat) (ts : List Tok) : List Value := (ix n i).map fun j => (poolV ts).toArray.getD j .none
theorem poolV_len (ts : List Tok) : (poolV ts).length = ts.length := by unfold poolV; simp
abbrev pmO (r : Array Value) : Obj := { cls := .type "itertools.permutations", dict := none, data := .fields r, slots := #[] }
theorem at_next {h' : Heap} {it pool t : Addr} {n i : Nat} {ts : List Tok} {r : Array Value} (hl : ts.length = n) (hne : pool ≠ it) (hr : r = rec n (i + 1) pool (.ref t))
    (h1 : h'.get? it = some (pmO r)) (h2 : h'.get? pool = some { cls := .type "tuple", dict := none, data := .seq (poolV ts).toArray, slots := #[] }) : At h' it pool n (i + 1) :=
  ⟨.ref t, ts, hl, hne, hr ▸ h1, h2⟩
theorem fin_row2 {it : Addr} {r : Array Value} {us us' : List Value} {last : Value} {Q : Option Value → Shared → Prop} (he : us = us') (hit : s.heap.get? it = some (pmO r)) (h3 : r[3]? = some last) (hu : us'.length ≤ 3)
    (hQ : ∀ h' t, t = s.heap.objs.size → h'.get? it = some (pmO (r.setIfInBounds 3 (.ref t))) → (∀ b o, b ≠ it → s.heap.get? b = some o → h'.get? b = some o) → h'.get? t = some { cls := .type "tuple", data := .seq us'.toArray } → Q (some (.ref t)) { s with heap := h' }) :
    wpAny (model prog w) A.in1 (newTuple us) (fun t s' => wpAny (model prog w) A.in1 (do
      let before ← field (.ref it) 3
      setField (.ref it) 3 t
      letGo [before] [t]
      ret t) (fun fin s' => ∃ v, fin = Fin.done (.ret v) ∧ Q (some v) s') E s') E s := by
  subst he
  obtain ⟨hp0, g, d, tk, os⟩ := s
  have h3s : 3 < r.size := (Array.getElem?_eq_some_iff.mp h3).1
  have nit : it ≠ hp0.objs.size := Nat.ne_of_lt (Heap.lt_size (show hp0.get? it = some (pmO r) from hit))
  unfold newTuple
  refine wpAny_newObj_type ?_ (by show us.toArray.size ≤ sizeLine; rw [List.size_toArray, sizeLine_eq]; omega)
  have hit1 := Heap.get?_push_of_some { cls := .type "tuple", data := .seq us.toArray } (show hp0.get? it = some (pmO r) from hit)
  refine wpAny_bind (wpAny_field hit1 rfl h3 ?_)
  refine wpAny_bind (wpAny_setField hit1 rfl h3s ?_)
  refine wpAny_bind (wpAny_letGo ?_)
  refine wpAny_pure ⟨_, rfl, hQ _ _ rfl (Heap.get?_update_self _ hit1 rfl) (fun b o hb ho => (Heap.get?_update_ne _ _ _ _ hb).trans (Heap.get?_push_of_some _ ho)) ?_⟩
  exact (Heap.get?_update_ne _ _ _ _ nit.symm).trans (Heap.get?_push_size _ rfl)
/-- what an order's coming brings -/
def Came (s : Shared) (it pool : Addr) (n i : Nat) (Q : Option Value → Shared → Prop) : Prop :=
  ∀ h' ts t, t = s.heap.objs.size → ts.length = n → At h' it pool n (i + 1) → (∀ b o, b ≠ it → s.heap.get? b = some o → h'.get? b = some o) → h'.get? t = some { cls := .type "tuple", data := .seq (row n i ts).toArray } → Q (some (.ref t)) { s with heap := h' }
theorem item10 {it pool : Addr} {Q : Option Value → Shared → Prop} (hit : At s.heap it pool 1 0) (hQ : Came s it pool 1 0 Q) : wpAny (model prog w) A (callSpecial? (.ref it) "__next__") Q E s := by
  obtain ⟨last, ts, hl, hne, hit, hp⟩ := hit
  have hT : s.TypeIs (.ref it) "itertools.permutations" := ⟨_, hit, rfl⟩
  refine wpAny_callSpecial?_slot (name := Str.ofString "__next__") hT slot_pm_next (wpAny_call_entry slot_pm_next hT entry_pm_next ?_ (args_pm_next _))
  obtain ⟨hp0, g, d, tk, os⟩ := s
  have hl0 := hl
  match ts, hl with
  | [t0], _ =>
  unfold Builtin.«itertools.permutations.__next__»
  repeat (first
    | (with_reducible refine wpAny_field hit rfl (by rfl) ?_)
    | with_reducible refine wpAny_loadPart_at hit ?_
    | with_reducible refine wpAny_loadPart_at hp ?_
    | wp_step
    | dsimp only)
  have hit1 : (hp0.update it (Obj.mapFields fun x => x.setIfInBounds 1 (rawInt 1))).get? it = some (pmO (([.ref pool, rawInt 1, rawInt (1 : Nat), last] ++ nums 1 0).toArray)) := (Heap.get?_update_self _ hit rfl).trans (by simp [rec, Obj.mapFields])
  refine fin_row2 (us' := row 1 0 [t0]) (by unfold row rec nums; rfl) hit1 (last := last) rfl (by simp [row, ix]) fun h' t ht h1 k h2 => ?_
  have k' : ∀ b o, b ≠ it → hp0.get? b = some o → h'.get? b = some o := fun b o hb ho => k b o hb ((Heap.get?_update_ne _ _ _ _ hb).trans ho)
  exact hQ h' [t0] t (ht.trans (Heap.size_update ..)) hl0 (at_next (t := t) hl0 hne (by simp [rec]) h1 (k' _ _ hne hp)) k' h2
theorem item20 {it pool : Addr} {Q : Option Value → Shared → Prop} (hit : At s.heap it pool 2 0) (hQ : Came s it pool 2 0 Q) : wpAny (model prog w) A (callSpecial? (.ref it) "__next__") Q E s := by
  obtain ⟨last, ts, hl, hne, hit, hp⟩ := hit
  have hT : s.TypeIs (.ref it) "itertools.permutations" := ⟨_, hit, rfl⟩
  refine wpAny_callSpecial?_slot (name := Str.ofString "__next__") hT slot_pm_next (wpAny_call_entry slot_pm_next hT entry_pm_next ?_ (args_pm_next _))
  obtain ⟨hp0, g, d, tk, os⟩ := s
  have hl0 := hl
  match ts, hl with
  | [t0, t1], _ =>
  unfold Builtin.«itertools.permutations.__next__»
  repeat (first
    | (with_reducible refine wpAny_field hit rfl (by rfl) ?_)
    | with_reducible refine wpAny_loadPart_at hit ?_
    | with_reducible refine wpAny_loadPart_at hp ?_
    | wp_step
    | dsimp only)
  have hit1 : (hp0.update it (Obj.mapFields fun x => x.setIfInBounds 1 (rawInt 1))).get? it = some (pmO (([.ref pool, rawInt 1, rawInt (2 : Nat), last] ++ nums 2 0).toArray)) := (Heap.get?_update_self _ hit rfl).trans (by simp [rec, Obj.mapFields])
  refine fin_row2 (us' := row 2 0 [t0, t1]) (by unfold row rec nums; rfl) hit1 (last := last) rfl (by simp [row, ix]) fun h' t ht h1 k h2 => ?_
  have k' : ∀ b o, b ≠ it → hp0.get? b = some o → h'.get? b = some o := fun b o hb ho => k b o hb ((Heap.get?_update_ne _ _ _ _ hb).trans ho)
  exact hQ h' [t0, t1] t (ht.trans (Heap.size_update ..)) hl0 (at_next (t := t) hl0 hne (by simp [rec]) h1 (k' _ _ hne hp)) k' h2
theorem item21 {it pool : Addr} {Q : Option Value → Shared → Prop} (hit : At s.heap it pool 2 1) (hQ : Came s it pool 2 1 Q) : wpAny (model prog w) A (callSpecial? (.ref it) "__next__") Q E s := by
  obtain ⟨last, ts, hl, hne, hit, hp⟩ := hit
  have hT : s.TypeIs (.ref it) "itertools.permutations" := ⟨_, hit, rfl⟩
  refine wpAny_callSpecial?_slot (name := Str.ofString "__next__") hT slot_pm_next (wpAny_call_entry slot_pm_next hT entry_pm_next ?_ (args_pm_next _))
  obtain ⟨hp0, g, d, tk, os⟩ := s
  have hl0 := hl
  match ts, hl with
  | [t0, t1], _ =>
  unfold Builtin.«itertools.permutations.__next__»
  repeat (first
    | (with_reducible refine wpAny_field hit rfl (by rfl) ?_)
    | with_reducible refine wpAny_loadPart_at hit ?_
    | with_reducible refine wpAny_loadPart_at hp ?_
    | wp_step
    | dsimp only)
  split
  case h_1 idx cyc hx =>
    have e2 : some (idx, cyc) = some (ix 2 1, cy 2 1) := hx.symm.trans (by kernel_rfl)
    cases e2
    clear hx
    refine wpAny_bind ?_
    unfold Builtin.Itertools.itSetNumbersFrom
    refine wpAny_updateFields hit rfl ?_ (by show ((rec 2 1 pool last).extract 0 4 ++ _).size ≤ _; simp [rec, nums, ix, cy, sizeLine])
    have hit1 : (hp0.update it (Obj.mapFields fun fs => fs.extract 0 4 ++ (List.map (fun n : Nat => rawInt (n : Int)) (ix 2 1 ++ cy 2 1)).toArray)).get? it = some (pmO (([.ref pool, rawInt 1, rawInt (2 : Nat), last] ++ nums 2 1).toArray)) :=
      (Heap.get?_update_self _ hit rfl).trans (by simp [rec, nums, ix, cy, Obj.mapFields])
    refine wpAny_bind (fin_row2 (us' := row 2 1 [t0, t1]) (by rfl) hit1 (last := last) rfl (by simp [row, ix]) fun h' t ht h1 k h2 => ?_)
    have k' : ∀ b o, b ≠ it → hp0.get? b = some o → h'.get? b = some o := fun b o hb ho => k b o hb ((Heap.get?_update_ne _ _ _ _ hb).trans ho)
    exact hQ h' [t0, t1] t (ht.trans (Heap.size_update ..)) hl0 (at_next (t := t) hl0 hne (by simp [rec]) h1 (k' _ _ hne hp)) k' h2
  case h_2 hx =>
    exact absurd (hx.symm.trans (show _ = some (ix 2 1, cy 2 1) by kernel_rfl)) (fun z => nomatch z)
theorem item30 {it pool : Addr} {Q : Option Value → Shared → Prop} (hit : At s.heap it pool 3 0) (hQ : Came s it pool 3 0 Q) : wpAny (model prog w) A (callSpecial? (.ref it) "__next__") Q E s := by
  obtain ⟨last, ts, hl, hne, hit, hp⟩ := hit
  have hT : s.TypeIs (.ref it) "itertools.permutations" := ⟨_, hit, rfl⟩
  refine wpAny_callSpecial?_slot (name := Str.ofString "__next__") hT slot_pm_next (wpAny_call_entry slot_pm_next hT entry_pm_next ?_ (args_pm_next _))
  obtain ⟨hp0, g, d, tk, os⟩ := s
  have hl0 := hl
  match ts, hl with
  | [t0, t1, t2], _ =>
  unfold Builtin.«itertools.permutations.__next__»
  repeat (first
    | (with_reducible refine wpAny_field hit rfl (by rfl) ?_)
    | with_reducible refine wpAny_loadPart_at hit ?_
    | with_reducible refine wpAny_loadPart_at hp ?_
    | wp_step
    | dsimp only)
  have hit1 : (hp0.update it (Obj.mapFields fun x => x.setIfInBounds 1 (rawInt 1))).get? it = some (pmO (([.ref pool, rawInt 1, rawInt (3 : Nat), last] ++ nums 3 0).toArray)) := (Heap.get?_update_self _ hit rfl).trans (by simp [rec, Obj.mapFields])
  refine fin_row2 (us' := row 3 0 [t0, t1, t2]) (by unfold row rec nums; rfl) hit1 (last := last) rfl (by simp [row, ix]) fun h' t ht h1 k h2 => ?_
  have k' : ∀ b o, b ≠ it → hp0.get? b = some o → h'.get? b = some o := fun b o hb ho => k b o hb ((Heap.get?_update_ne _ _ _ _ hb).trans ho)
  exact hQ h' [t0, t1, t2] t (ht.trans (Heap.size_update ..)) hl0 (at_next (t := t) hl0 hne (by simp [rec]) h1 (k' _ _ hne hp)) k' h2
theorem item31 {it pool : Addr} {Q : Option Value → Shared → Prop} (hit : At s.heap it pool 3 1) (hQ : Came s it pool 3 1 Q) : wpAny (model prog w) A (callSpecial? (.ref it) "__next__") Q E s := by
  obtain ⟨last, ts, hl, hne, hit, hp⟩ := hit
  have hT : s.TypeIs (.ref it) "itertools.permutations" := ⟨_, hit, rfl⟩
  refine wpAny_callSpecial?_slot (name := Str.ofString "__next__") hT slot_pm_next (wpAny_call_entry slot_pm_next hT entry_pm_next ?_ (args_pm_next _))
  obtain ⟨hp0, g, d, tk, os⟩ := s
  have hl0 := hl
  match ts, hl with
  | [t0, t1, t2], _ =>
  unfold Builtin.«itertools.permutations.__next__»
  repeat (first
    | (with_reducible refine wpAny_field hit rfl (by rfl) ?_)
    | with_reducible refine wpAny_loadPart_at hit ?_
    | with_reducible refine wpAny_loadPart_at hp ?_
    | wp_step
    | dsimp only)
  split
  case h_1 idx cyc hx =>
    have e2 : some (idx, cyc) = some (ix 3 1, cy 3 1) := hx.symm.trans (by kernel_rfl)
    cases e2
    clear hx
    refine wpAny_bind ?_
    unfold Builtin.Itertools.itSetNumbersFrom
    refine wpAny_updateFields hit rfl ?_ (by show ((rec 3 1 pool last).extract 0 4 ++ _).size ≤ _; simp [rec, nums, ix, cy, sizeLine])
    have hit1 : (hp0.update it (Obj.mapFields fun fs => fs.extract 0 4 ++ (List.map (fun n : Nat => rawInt (n : Int)) (ix 3 1 ++ cy 3 1)).toArray)).get? it = some (pmO (([.ref pool, rawInt 1, rawInt (3 : Nat), last] ++ nums 3 1).toArray)) :=
      (Heap.get?_update_self _ hit rfl).trans (by simp [rec, nums, ix, cy, Obj.mapFields])
    refine wpAny_bind (fin_row2 (us' := row 3 1 [t0, t1, t2]) (by rfl) hit1 (last := last) rfl (by simp [row, ix]) fun h' t ht h1 k h2 => ?_)
    have k' : ∀ b o, b ≠ it → hp0.get? b = some o → h'.get? b = some o := fun b o hb ho => k b o hb ((Heap.get?_update_ne _ _ _ _ hb).trans ho)
    exact hQ h' [t0, t1, t2] t (ht.trans (Heap.size_update ..)) hl0 (at_next (t := t) hl0 hne (by simp [rec]) h1 (k' _ _ hne hp)) k' h2
  case h_2 hx =>
    exact absurd (hx.symm.trans (show _ = some (ix 3 1, cy 3 1) by kernel_rfl)) (fun z => nomatch z)
theorem item32 {it pool : Addr} {Q : Option Value → Shared → Prop} (hit : At s.heap it pool 3 2) (hQ : Came s it pool 3 2 Q) : wpAny (model prog w) A (callSpecial? (.ref it) "__next__") Q E s := by
  obtain ⟨last, ts, hl, hne, hit, hp⟩ := hit
  have hT : s.TypeIs (.ref it) "itertools.permutations" := ⟨_, hit, rfl⟩
  refine wpAny_callSpecial?_slot (name := Str.ofString "__next__") hT slot_pm_next (wpAny_call_entry slot_pm_next hT entry_pm_next ?_ (args_pm_next _))
  obtain ⟨hp0, g, d, tk, os⟩ := s
  have hl0 := hl
  match ts, hl with
  | [t0, t1, t2], _ =>
  unfold Builtin.«itertools.permutations.__next__»
  repeat (first
    | (with_reducible refine wpAny_field hit rfl (by rfl) ?_)
    | with_reducible refine wpAny_loadPart_at hit ?_
    | with_reducible refine wpAny_loadPart_at hp ?_
    | wp_step
    | dsimp only)
  split
  case h_1 idx cyc hx =>
    have e2 : some (idx, cyc) = some (ix 3 2, cy 3 2) := hx.symm.trans (by kernel_rfl)
    cases e2
    clear hx
    refine wpAny_bind ?_
    unfold Builtin.Itertools.itSetNumbersFrom
    refine wpAny_updateFields hit rfl ?_ (by show ((rec 3 2 pool last).extract 0 4 ++ _).size ≤ _; simp [rec, nums, ix, cy, sizeLine])
    have hit1 : (hp0.update it (Obj.mapFields fun fs => fs.extract 0 4 ++ (List.map (fun n : Nat => rawInt (n : Int)) (ix 3 2 ++ cy 3 2)).toArray)).get? it = some (pmO (([.ref pool, rawInt 1, rawInt (3 : Nat), last] ++ nums 3 2).toArray)) :=
      (Heap.get?_update_self _ hit rfl).trans (by simp [rec, nums, ix, cy, Obj.mapFields])
    refine wpAny_bind (fin_row2 (us' := row 3 2 [t0, t1, t2]) (by rfl) hit1 (last := last) rfl (by simp [row, ix]) fun h' t ht h1 k h2 => ?_)
    have k' : ∀ b o, b ≠ it → hp0.get? b = some o → h'.get? b = some o := fun b o hb ho => k b o hb ((Heap.get?_update_ne _ _ _ _ hb).trans ho)
    exact hQ h' [t0, t1, t2] t (ht.trans (Heap.size_update ..)) hl0 (at_next (t := t) hl0 hne (by simp [rec]) h1 (k' _ _ hne hp)) k' h2
  case h_2 hx =>
    exact absurd (hx.symm.trans (show _ = some (ix 3 2, cy 3 2) by kernel_rfl)) (fun z => nomatch z)
theorem item33 {it pool : Addr} {Q : Option Value → Shared → Prop} (hit : At s.heap it pool 3 3) (hQ : Came s it pool 3 3 Q) : wpAny (model prog w) A (callSpecial? (.ref it) "__next__") Q E s := by
  obtain ⟨last, ts, hl, hne, hit, hp⟩ := hit
  have hT : s.TypeIs (.ref it) "itertools.permutations" := ⟨_, hit, rfl⟩
  refine wpAny_callSpecial?_slot (name := Str.ofString "__next__") hT slot_pm_next (wpAny_call_entry slot_pm_next hT entry_pm_next ?_ (args_pm_next _))
  obtain ⟨hp0, g, d, tk, os⟩ := s
  have hl0 := hl
  match ts, hl with
  | [t0, t1, t2], _ =>
  unfold Builtin.«itertools.permutations.__next__»
  repeat (first
    | (with_reducible refine wpAny_field hit rfl (by rfl) ?_)
    | with_reducible refine wpAny_loadPart_at hit ?_
    | with_reducible refine wpAny_loadPart_at hp ?_
    | wp_step
    | dsimp only)
  split
  case h_1 idx cyc hx =>
    have e2 : some (idx, cyc) = some (ix 3 3, cy 3 3) := hx.symm.trans (by kernel_rfl)
    cases e2
    clear hx
    refine wpAny_bind ?_
    unfold Builtin.Itertools.itSetNumbersFrom
    refine wpAny_updateFields hit rfl ?_ (by show ((rec 3 3 pool last).extract 0 4 ++ _).size ≤ _; simp [rec, nums, ix, cy, sizeLine])
    have hit1 : (hp0.update it (Obj.mapFields fun fs => fs.extract 0 4 ++ (List.map (fun n : Nat => rawInt (n : Int)) (ix 3 3 ++ cy 3 3)).toArray)).get? it = some (pmO (([.ref pool, rawInt 1, rawInt (3 : Nat), last] ++ nums 3 3).toArray)) :=
      (Heap.get?_update_self _ hit rfl).trans (by simp [rec, nums, ix, cy, Obj.mapFields])
    refine wpAny_bind (fin_row2 (us' := row 3 3 [t0, t1, t2]) (by rfl) hit1 (last := last) rfl (by simp [row, ix]) fun h' t ht h1 k h2 => ?_)
    have k' : ∀ b o, b ≠ it → hp0.get? b = some o → h'.get? b = some o := fun b o hb ho => k b o hb ((Heap.get?_update_ne _ _ _ _ hb).trans ho)
    exact hQ h' [t0, t1, t2] t (ht.trans (Heap.size_update ..)) hl0 (at_next (t := t) hl0 hne (by simp [rec]) h1 (k' _ _ hne hp)) k' h2
  case h_2 hx =>
    exact absurd (hx.symm.trans (show _ = some (ix 3 3, cy 3 3) by kernel_rfl)) (fun z => nomatch z)
theorem item34 {it pool : Addr} {Q : Option Value → Shared → Prop} (hit : At s.heap it pool 3 4) (hQ : Came s it pool 3 4 Q) : wpAny (model prog w) A (callSpecial? (.ref it) "__next__") Q E s := by
  obtain ⟨last, ts, hl, hne, hit, hp⟩ := hit
  have hT : s.TypeIs (.ref it) "itertools.permutations" := ⟨_, hit, rfl⟩
  refine wpAny_callSpecial?_slot (name := Str.ofString "__next__") hT slot_pm_next (wpAny_call_entry slot_pm_next hT entry_pm_next ?_ (args_pm_next _))
  obtain ⟨hp0, g, d, tk, os⟩ := s
  have hl0 := hl
  match ts, hl with
  | [t0, t1, t2], _ =>
  unfold Builtin.«itertools.permutations.__next__»
  repeat (first
    | (with_reducible refine wpAny_field hit rfl (by rfl) ?_)
    | with_reducible refine wpAny_loadPart_at hit ?_
    | with_reducible refine wpAny_loadPart_at hp ?_
    | wp_step
    | dsimp only)
  split
  case h_1 idx cyc hx =>
    have e2 : some (idx, cyc) = some (ix 3 4, cy 3 4) := hx.symm.trans (by kernel_rfl)
    cases e2
    clear hx
    refine wpAny_bind ?_
    unfold Builtin.Itertools.itSetNumbersFrom
    refine wpAny_updateFields hit rfl ?_ (by show ((rec 3 4 pool last).extract 0 4 ++ _).size ≤ _; simp [rec, nums, ix, cy, sizeLine])
    have hit1 : (hp0.update it (Obj.mapFields fun fs => fs.extract 0 4 ++ (List.map (fun n : Nat => rawInt (n : Int)) (ix 3 4 ++ cy 3 4)).toArray)).get? it = some (pmO (([.ref pool, rawInt 1, rawInt (3 : Nat), last] ++ nums 3 4).toArray)) :=
      (Heap.get?_update_self _ hit rfl).trans (by simp [rec, nums, ix, cy, Obj.mapFields])
    refine wpAny_bind (fin_row2 (us' := row 3 4 [t0, t1, t2]) (by rfl) hit1 (last := last) rfl (by simp [row, ix]) fun h' t ht h1 k h2 => ?_)
    have k' : ∀ b o, b ≠ it → hp0.get? b = some o → h'.get? b = some o := fun b o hb ho => k b o hb ((Heap.get?_update_ne _ _ _ _ hb).trans ho)
    exact hQ h' [t0, t1, t2] t (ht.trans (Heap.size_update ..)) hl0 (at_next (t := t) hl0 hne (by simp [rec]) h1 (k' _ _ hne hp)) k' h2
  case h_2 hx =>
    exact absurd (hx.symm.trans (show _ = some (ix 3 4, cy 3 4) by kernel_rfl)) (fun z => nomatch z)
theorem item35 {it pool : Addr} {Q : Option Value → Shared → Prop} (hit : At s.heap it pool 3 5) (hQ : Came s it pool 3 5 Q) : wpAny (model prog w) A (callSpecial? (.ref it) "__next__") Q E s := by
  obtain ⟨last, ts, hl, hne, hit, hp⟩ := hit
  have hT : s.TypeIs (.ref it) "itertools.permutations" := ⟨_, hit, rfl⟩
  refine wpAny_callSpecial?_slot (name := Str.ofString "__next__") hT slot_pm_next (wpAny_call_entry slot_pm_next hT entry_pm_next ?_ (args_pm_next _))
  obtain ⟨hp0, g, d, tk, os⟩ := s
  have hl0 := hl
  match ts, hl with
  | [t0, t1, t2], _ =>
  unfold Builtin.«itertools.permutations.__next__»
  repeat (first
    | (with_reducible refine wpAny_field hit rfl (by rfl) ?_)
    | with_reducible refine wpAny_loadPart_at hit ?_
    | with_reducible refine wpAny_loadPart_at hp ?_
    | wp_step
    | dsimp only)
  split
  case h_1 idx cyc hx =>
    have e2 : some (idx, cyc) = some (ix 3 5, cy 3 5) := hx.symm.trans (by kernel_rfl)
    cases e2
    clear hx
    refine wpAny_bind ?_
    unfold Builtin.Itertools.itSetNumbersFrom
    refine wpAny_updateFields hit rfl ?_ (by show ((rec 3 5 pool last).extract 0 4 ++ _).size ≤ _; simp [rec, nums, ix, cy, sizeLine])
    have hit1 : (hp0.update it (Obj.mapFields fun fs => fs.extract 0 4 ++ (List.map (fun n : Nat => rawInt (n : Int)) (ix 3 5 ++ cy 3 5)).toArray)).get? it = some (pmO (([.ref pool, rawInt 1, rawInt (3 : Nat), last] ++ nums 3 5).toArray)) :=
      (Heap.get?_update_self _ hit rfl).trans (by simp [rec, nums, ix, cy, Obj.mapFields])
    refine wpAny_bind (fin_row2 (us' := row 3 5 [t0, t1, t2]) (by rfl) hit1 (last := last) rfl (by simp [row, ix]) fun h' t ht h1 k h2 => ?_)
    have k' : ∀ b o, b ≠ it → hp0.get? b = some o → h'.get? b = some o := fun b o hb ho => k b o hb ((Heap.get?_update_ne _ _ _ _ hb).trans ho)
    exact hQ h' [t0, t1, t2] t (ht.trans (Heap.size_update ..)) hl0 (at_next (t := t) hl0 hne (by simp [rec]) h1 (k' _ _ hne hp)) k' h2
  case h_2 hx =>
    exact absurd (hx.symm.trans (show _ = some (ix 3 5, cy 3 5) by kernel_rfl)) (fun z => nomatch z)
theorem stop1 {it pool : Addr} {Q : Option Value → Shared → Prop} (hh : A.handled = none) (hit : At s.heap it pool 1 1)
    (hE : ∀ h' e, (∀ b o, b ≠ it → s.heap.get? b = some o → h'.get? b = some o) → (∃ o, h'.get? e = some o ∧ o.cls = .type "StopIteration") → E (.ref e) { s with heap := h' }) : wpAny (model prog w) A (callSpecial? (.ref it) "__next__") Q E s := by
  obtain ⟨last, ts, hl, hne, hit, hp⟩ := hit
  have hT : s.TypeIs (.ref it) "itertools.permutations" := ⟨_, hit, rfl⟩
  refine wpAny_callSpecial?_slot (name := Str.ofString "__next__") hT slot_pm_next (wpAny_call_entry slot_pm_next hT entry_pm_next ?_ (args_pm_next _))
  obtain ⟨hp0, g, d, tk, os⟩ := s
  have hl0 := hl
  match ts, hl with
  | [t0], _ =>
  unfold Builtin.«itertools.permutations.__next__»
  repeat (first
    | (with_reducible refine wpAny_field hit rfl (by rfl) ?_)
    | with_reducible refine wpAny_loadPart_at hit ?_
    | with_reducible refine wpAny_loadPart_at hp ?_
    | wp_step
    | dsimp only)
  split
  case h_1 idx cyc hx =>
    have e2 : some (idx, cyc) = none := hx.symm.trans (by kernel_rfl)
    cases e2
  case h_2 hx =>
    refine wpAny_bind (wpAny_setField hit rfl (by simp [rec]) ?_)
    unfold Builtin.Itertools.itStop
    refine wpAny_bind ?_
    simp only [newExc, newTuple]
    refine wpAny_bind (wpAny_newObj_type ?_ (by size_fits))
    refine wpAny_bind (m := firstArgMember _ _) (wpAny_of_eq (a := Value.none) (by first | rfl | (simp only [firstArgMember]; rfl)) ?_)
    refine wpAny_newObj_type ?_ (by size_fits)
    simp only [raiseNew]
    refine wpAny_bind (wpAny_handled ?_)
    first | rw [show A.in1.handled = none from hh] | rw [hh]
    refine wpAny_bind (wpAny_pure (wpAny_throw ?_))
    exact hE _ _ (((Heap.SameBut.update ..).extBut.push _).push _) ⟨_, Heap.get?_push_size _ rfl, rfl⟩
theorem stop2 {it pool : Addr} {Q : Option Value → Shared → Prop} (hh : A.handled = none) (hit : At s.heap it pool 2 2)
    (hE : ∀ h' e, (∀ b o, b ≠ it → s.heap.get? b = some o → h'.get? b = some o) → (∃ o, h'.get? e = some o ∧ o.cls = .type "StopIteration") → E (.ref e) { s with heap := h' }) : wpAny (model prog w) A (callSpecial? (.ref it) "__next__") Q E s := by
  obtain ⟨last, ts, hl, hne, hit, hp⟩ := hit
  have hT : s.TypeIs (.ref it) "itertools.permutations" := ⟨_, hit, rfl⟩
  refine wpAny_callSpecial?_slot (name := Str.ofString "__next__") hT slot_pm_next (wpAny_call_entry slot_pm_next hT entry_pm_next ?_ (args_pm_next _))
  obtain ⟨hp0, g, d, tk, os⟩ := s
  have hl0 := hl
  match ts, hl with
  | [t0, t1], _ =>
  unfold Builtin.«itertools.permutations.__next__»
  repeat (first
    | (with_reducible refine wpAny_field hit rfl (by rfl) ?_)
    | with_reducible refine wpAny_loadPart_at hit ?_
    | with_reducible refine wpAny_loadPart_at hp ?_
    | wp_step
    | dsimp only)
  split
  case h_1 idx cyc hx =>
    have e2 : some (idx, cyc) = none := hx.symm.trans (by kernel_rfl)
    cases e2
  case h_2 hx =>
    refine wpAny_bind (wpAny_setField hit rfl (by simp [rec]) ?_)
    unfold Builtin.Itertools.itStop
    refine wpAny_bind ?_
    simp only [newExc, newTuple]
    refine wpAny_bind (wpAny_newObj_type ?_ (by size_fits))
    refine wpAny_bind (m := firstArgMember _ _) (wpAny_of_eq (a := Value.none) (by first | rfl | (simp only [firstArgMember]; rfl)) ?_)
    refine wpAny_newObj_type ?_ (by size_fits)
    simp only [raiseNew]
    refine wpAny_bind (wpAny_handled ?_)
    first | rw [show A.in1.handled = none from hh] | rw [hh]
    refine wpAny_bind (wpAny_pure (wpAny_throw ?_))
    exact hE _ _ (((Heap.SameBut.update ..).extBut.push _).push _) ⟨_, Heap.get?_push_size _ rfl, rfl⟩
theorem stop3 {it pool : Addr} {Q : Option Value → Shared → Prop} (hh : A.handled = none) (hit : At s.heap it pool 3 6)
    (hE : ∀ h' e, (∀ b o, b ≠ it → s.heap.get? b = some o → h'.get? b = some o) → (∃ o, h'.get? e = some o ∧ o.cls = .type "StopIteration") → E (.ref e) { s with heap := h' }) : wpAny (model prog w) A (callSpecial? (.ref it) "__next__") Q E s := by
  obtain ⟨last, ts, hl, hne, hit, hp⟩ := hit
  have hT : s.TypeIs (.ref it) "itertools.permutations" := ⟨_, hit, rfl⟩
  refine wpAny_callSpecial?_slot (name := Str.ofString "__next__") hT slot_pm_next (wpAny_call_entry slot_pm_next hT entry_pm_next ?_ (args_pm_next _))
  obtain ⟨hp0, g, d, tk, os⟩ := s
  have hl0 := hl
  match ts, hl with
  | [t0, t1, t2], _ =>
  unfold Builtin.«itertools.permutations.__next__»
  repeat (first
    | (with_reducible refine wpAny_field hit rfl (by rfl) ?_)
    | with_reducible refine wpAny_loadPart_at hit ?_
    | with_reducible refine wpAny_loadPart_at hp ?_
    | wp_step
    | dsimp only)
  split
  case h_1 idx cyc hx =>
    have e2 : some (idx, cyc) = none := hx.symm.trans (by kernel_rfl)
    cases e2
  case h_2 hx =>
    refine wpAny_bind (wpAny_setField hit rfl (by simp [rec]) ?_)
    unfold Builtin.Itertools.itStop
    refine wpAny_bind ?_
    simp only [newExc, newTuple]
    refine wpAny_bind (wpAny_newObj_type ?_ (by size_fits))
    refine wpAny_bind (m := firstArgMember _ _) (wpAny_of_eq (a := Value.none) (by first | rfl | (simp only [firstArgMember]; rfl)) ?_)
    refine wpAny_newObj_type ?_ (by size_fits)
    simp only [raiseNew]
    refine wpAny_bind (wpAny_handled ?_)
    first | rw [show A.in1.handled = none from hh] | rw [hh]
    refine wpAny_bind (wpAny_pure (wpAny_throw ?_))
    exact hE _ _ (((Heap.SameBut.update ..).extBut.push _).push _) ⟨_, Heap.get?_push_size _ rfl, rfl⟩
theorem pm_item {it pool : Addr} {Q : Option Value → Shared → Prop} : ∀ n i, i < fct n → At s.heap it pool n i → Came s it pool n i Q → wpAny (model prog w) A (callSpecial? (.ref it) "__next__") Q E s
  | 1, 0, _, a, b => item10 a b
  | 2, 0, _, a, b => item20 a b
  | 2, 1, _, a, b => item21 a b
  | 3, 0, _, a, b => item30 a b
  | 3, 1, _, a, b => item31 a b
  | 3, 2, _, a, b => item32 a b
  | 3, 3, _, a, b => item33 a b
  | 3, 4, _, a, b => item34 a b
  | 3, 5, _, a, b => item35 a b
  | 1, _ + 1, h, _, _ => absurd h (by simp [fct])
  | 2, _ + 2, h, _, _ => absurd h (by simp [fct])
  | 3, _ + 6, h, _, _ => absurd h (by simp [fct])
  | 0, _, h, _, _ => absurd h (by simp [fct])
  | _ + 4, _, h, _, _ => absurd h (by simp [fct])
theorem pm_stop {it pool : Addr} {Q : Option Value → Shared → Prop} (hh : A.handled = none) : ∀ n, 1 ≤ n → n ≤ 3 → At s.heap it pool n (fct n) →
    (∀ h' e, (∀ b o, b ≠ it → s.heap.get? b = some o → h'.get? b = some o) → (∃ o, h'.get? e = some o ∧ o.cls = .type "StopIteration") → E (.ref e) { s with heap := h' }) → wpAny (model prog w) A (callSpecial? (.ref it) "__next__") Q E s
  | 1, _, _, a, b => stop1 hh a b
  | 2, _, _, a, b => stop2 hh a b
  | 3, _, _, a, b => stop3 hh a b
end
end PM
namespace PM
open PySem PySem.Spec PyProof.Rows L2
open Sem (wp)
theorem At.keep {h h' : Heap} {it pool : Addr} {n i : Nat} (a : At h it pool n i) (k : ∀ b ∈ [it, pool], ∀ o, h.get? b = some o → h'.get? b = some o) : At h' it pool n i := by
  obtain ⟨l, ts, h1, h2, h3, h4⟩ := a
  exact ⟨l, ts, h1, h2, k _ (by simp) _ h3, k _ (by simp) _ h4⟩
/-- the order, as values -/
def rowV (n i : Nat) : List V := (ix n i).map fun j : Nat => V.int (j : Int)
theorem ix_low : ∀ n i, ∀ j ∈ ix n i, j < n := by
  intro n i
  unfold ix
  split <;> simp
theorem row_vals {n i : Nat} {ts : List Tok} (hl : ts.length = n) : Vals (rowV n i) (row n i ts) := by
  have low := ix_low n i
  unfold rowV row
  generalize ix n i = l at low ⊢
  induction l with
  | nil => exact .nil
  | cons j l ih =>
    refine .cons ?_ (ih fun k hk => low k (List.mem_cons_of_mem _ hk))
    have hj : j < ts.length := by rw [hl]; exact low j (List.mem_cons_self ..)
    refine ⟨ts[j], ?_⟩
    unfold poolV
    simp [Array.getD, hj]
theorem row_len {n i : Nat} (ts : List Tok) : (row n i ts).length ≤ 3 := by
  unfold row ix
  split <;> simp
/-- what a for walks over -/
def ItPm (n : Nat) : It :=
  { go := fun i _ => i < fct n, yld := fun i H x H' => ∃ a, x = .ref a ∧ H a = none ∧ H' = upd H a (.tup (rowV n i)), stop := fun i _ => fct n ≤ i }
theorem turn_pm {P : Program} {w : World} {K : PySem.W.Frag} {tg : Expr} {n : Nat} (h1 : 1 ≤ n) (h3 : n ≤ 3) (it pool : Addr) : Turn P w K tg (ItPm n) [it, pool] it (fun i h => At h it pool n i ∧ i ≤ fct n) where
  mem := by simp
  obj := by
    intro i h a b hb
    replace a := a.1
    obtain ⟨l, ts, _, _, e1, e2⟩ := a
    have e : b = it ∨ b = pool := by simpa using hb
    rcases e with rfl | rfl
    · exact ⟨_, e1, fun v z => by cases z⟩
    · exact ⟨_, e2, fun v z => by cases z⟩
  keep := fun i h h' a k => ⟨a.1.keep k, a.2⟩
  item := by
    intro X hP hw hK hc i pins s σ H E I hf st hg
    subst hP hw hK
    replace st := st.1
    unfold pyNext
    refine wpAny_bind (wpAny_attempt (pm_item n i hg st fun h' ts t ht hl a' k hT => ?_))
    have na : t ≠ it := fun z => by
      obtain ⟨l, ts', _, _, e1, _⟩ := st
      have := Heap.lt_size e1
      rw [← z, ht] at this; exact absurd this (Nat.lt_irrefl _)
    have hm : ∀ b o, b ∉ [it, pool] → s.heap.get? b = some o → h'.get? b = some o := fun b o hb => k b o (fun z => hb (by simp [z]))
    have new : ObjOk X.prog X.w (upd H t (.tup (rowV n i))) h' t (.tup (rowV n i)) :=
      ⟨by have := row_len (n := n) (i := i) ts; have e := (row_vals (i := i) hl).length; rw [e, sizeLine_eq]; omega, row n i ts, row_vals hl, ⟨_, hT, rfl, _, rfl⟩⟩
    have I1 : Inv X pins σ (upd H t (.tup (rowV n i))) { s with heap := h', toks := s.toks } := I.turnedNew (ch := [it, pool]) hm hf (Nat.le_of_eq ht.symm) new
    refine wpAny_pure ⟨_, rfl, ?_⟩
    obtain ⟨l, ts', _, _, e1, _⟩ := id a'
    refine go_of (show h'.get? it = some _ from e1) rfl rfl (by decide) ?_
    refine ⟨.ref t, _, I1, rfl, ⟨t, rfl, I.hok.fresh (Nat.le_of_eq ht.symm), rfl⟩, ⟨a', hg⟩, fun b hb => ?_⟩
    have nb : b ≠ t := fun z => by
      obtain ⟨l, ts', _, _, e1, e2⟩ := st
      have e : b = it ∨ b = pool := by simpa using hb
      have lt : b < s.heap.objs.size := by
        rcases e with rfl | rfl
        · exact Heap.lt_size e1
        · exact Heap.lt_size e2
      rw [z, ht] at lt; exact absurd lt (Nat.lt_irrefl _)
    rw [upd_ne nb]; exact (hf b hb).1
  done := by
    intro X hP hw hK hc i pins s σ H E I hf st hg
    subst hP hw hK
    have hg : i = fct n := Nat.le_antisymm st.2 hg
    replace st := st.1
    subst hg
    unfold pyNext
    refine wpAny_bind (wpAny_attempt (pm_stop (I.ok.hd hc) n h1 h3 st fun h' e k hx => ?_))
    obtain ⟨f0, f1, f2, f3, f4, f5⟩ := hf it (by simp)
    obtain ⟨o, ho, hcl⟩ := hx
    have hTe : (⟨h', s.gens, s.drawn, s.toks, s.os⟩ : Shared).TypeIs (.ref e) "StopIteration" := ⟨_, ho, hcl⟩
    refine wpAny_bind (wpAny_isInstance (b := true) hTe (by rw [isSubtype_type]; kernel_rfl) ?_)
    exact wpAny_pure ⟨rfl, I.turned (t' := s.toks) k f0 f1 f3 f4 f5⟩
  self := fun A i s Q E st h => pm_iter st.1 h
end PM
namespace PM
open PySem PySem.Spec PyProof.Rows L2
open Sem (wp)
theorem bind_pm (v : Value) : Builtin.Itertools.itBindNamed "permutations" ["iterable", "r"] 1 2 [v] [] = (pure [some v, none] : Sem (List (Option Value))) := by first | kernel_rfl | rfl
theorem plain_pm_new : plainId "itertools.permutations.__new__" = true := by decide +kernel
theorem str_pm : ("itertools." ++ "permutations" : String) = "itertools.permutations" := by decide +kernel
theorem pool_of : ∀ {n : Nat} {acc : Array Value}, ItemsOf (fun i v => ∃ t, v = .int (0 + (i : Nat) * 1) t) acc n → ∃ ts : List Tok, ts.length = n ∧ acc.toList = poolV ts := by
  intro n acc hi
  refine ⟨acc.toList.map fun v => match v with | .int _ t => t | _ => 0, by rw [List.length_map, Array.length_toList]; exact hi.1, ?_⟩
  refine List.ext_getElem? fun i => ?_
  unfold poolV
  rw [List.getElem?_map, List.getElem?_zipIdx, List.getElem?_map]
  cases e : acc.toList[i]? with
  | none => rfl
  | some v =>
    obtain ⟨t, rfl⟩ := hi.2 i v (by rw [← e, Array.getElem?_toList])
    simp
theorem laid_pm {h : Heap} {n : Nat} {ts : List Tok} {r : Array Value} (hl : ts.length = n) (hr : r = rec n 0 h.objs.size .none) :
    At ((h.push { cls := .type "tuple", data := .seq (poolV ts).toArray }).push { cls := .type "itertools.permutations", dict := none, data := .fields r }) (h.push { cls := .type "tuple", data := .seq (poolV ts).toArray }).objs.size h.objs.size n 0 := by
  refine ⟨.none, ts, hl, ?_, ?_, ?_⟩
  · rw [Heap.size_push]; exact Nat.ne_of_lt (Nat.lt_succ_self _)
  · subst hr
    exact Heap.get?_push_size _ rfl
  · exact Heap.get?_push_of_some _ (Heap.get?_push_size _ rfl)
section
variable {prog : Program} {w : World} {A : Around} {E : Value → Shared → Prop} {R : Result → Shared → Prop} {s : Shared} {r : Addr} {b : Int} {t u v : Tok} {n : Nat}
theorem code_pm_new {Q : Value → Shared → Prop} (hh : A.handled = none) (hr : IsRange s.heap r 0 (n : Int) 1 t u v) (h1 : 1 ≤ n) (h3 : n ≤ 3)
    (h : ∀ (hm h' : Heap) (tk : Nat) (it pool : Addr), (∀ b o, s.heap.get? b = some o → hm.get? b = some o) → (∀ b o, hm.get? b = some o → h'.get? b = some o) → hm.objs.size ≤ it → hm.objs.size ≤ pool → At h' it pool n 0 → Q (.ref it) { s with heap := h', toks := tk }) :
    wpAny (model prog w) A (Builtin.«itertools.permutations.__new__» ⟨[.type "itertools.permutations", .ref r], []⟩) (fun fin s' => ∃ v, fin = Fin.done (.ret v) ∧ Q v s') E s := by
  obtain ⟨hp, g, d, tk, os⟩ := s
  have hsub := sub_pm
  have hdic := noDict_pm
  have hTI : (⟨hp, g, d, tk, os⟩ : Shared).TypeIs (.ref r) "range" := ⟨_, hr, rfl⟩
  have hsz : Builtin.Range.rangeSize 0 (n : Int) 1 = (n : Int) := (rangeSize_nat 0 (n : Int)).trans (by omega)
  have hsm : Builtin.Range.small 0 (n : Int) 1 = true := small_one (by omega) (by omega) (by omega) (by omega)
  unfold Builtin.«itertools.permutations.__new__»
  repeat (first
    | (with_reducible refine collect_range hh hr hsm hsz (Nat.le_trans h3 (by decide)) ?_)
    | (with_reducible refine wpAny_of_eq sub_pm ?_)
    | (with_reducible refine wpAny_of_eq (bind_pm _) ?_)
    | wp_step
    | (rw [str_pm])
    | simp only [List.head?_cons, Option.some_or, List.getElem?_cons_succ, List.getElem?_cons_zero, List.length_cons, List.length_nil, List.forIn_nil]
    | dsimp only)
  intro h' tk' acc hk hi
  obtain ⟨ts, hl, ea⟩ := pool_of hi
  rw [ea]
  have len : (poolV ts).length = n := (poolV_len ts).trans hl
  show wpAny _ _ (pure ((poolV ts).length : Int) >>= _) _ _ _
  refine wpAny_bind (wpAny_pure ?_)
  rw [len]
  rw [if_neg (by omega)]
  rw [if_neg (show ¬ (Builtin.Itertools.itTooMany (n : Int) = true) by rcases (by omega : n = 1 ∨ n = 2 ∨ n = 3) with rfl | rfl | rfl <;> decide)]
  unfold newTuple
  refine wpAny_bind (wpAny_newObj_type ?_ (by show (poolV ts).toArray.size ≤ sizeLine; rw [List.size_toArray, len, sizeLine_eq]; omega))
  unfold Builtin.Itertools.itNewRecord
  rw [hdic]
  refine wpAny_bind (m := if (!false) = true then _ else _) ?_
  rw [if_pos (by decide)]
  refine wpAny_newObj_type ?_ (by show Array.size _ ≤ _; simp [sizeLine]; omega)
  refine wpAny_pure ⟨_, rfl, h h' _ tk' _ h'.objs.size hk (fun b o e => ?_) ?_ (Nat.le_refl _) (laid_pm hl ?_)⟩
  · exact Heap.get?_push_of_some _ (Heap.get?_push_of_some _ e)
  · show h'.objs.size ≤ (h'.push _).objs.size
    rw [Heap.size_push]; exact Nat.le_succ _
  · rcases (by omega : n = 1 ∨ n = 2 ∨ n = 3) with rfl | rfl | rfl <;> (unfold rec nums; rfl)
theorem call_pm {Q : Value → Shared → Prop} (hh : A.handled = none) (hr : IsRange s.heap r 0 (n : Int) 1 t u v) (h1 : 1 ≤ n) (h3 : n ≤ 3)
    (h : ∀ (hm h' : Heap) (tk : Nat) (it pool : Addr), (∀ b o, s.heap.get? b = some o → hm.get? b = some o) → (∀ b o, hm.get? b = some o → h'.get? b = some o) → hm.objs.size ≤ it → hm.objs.size ≤ pool → At h' it pool n 0 → Q (.ref it) { s with heap := h', toks := tk }) :
    wpAny (model prog w) A (call (.type "itertools.permutations") [.ref r]) Q E s := by
  refine callType_codes (Q₁ := fun obj s₁ => s₁.TypeIs obj "itertools.permutations" ∧ Q obj s₁) called_pm (typeCall_pm_1 _) F.entry_object_init ?_ fun obj s₁ h₁ => ?_
  · refine codeAny_of_tree ?_
    show wpAny _ A.in1.in1 (do checkBuiltinCall "itertools.permutations.__new__" ⟨[.type "itertools.permutations", .ref r], []⟩; again (.builtin "itertools.permutations.__new__" ⟨[.type "itertools.permutations", .ref r], []⟩)) _ _ s
    refine wpAny_bind (wpAny_of_eq (newCall_pm_1 _) (wpAny_pure ⟨plainId_quiet plain_pm_new _, codeAny_builtin entry_pm_new ?_⟩))
    rw [Around.under_plainId plain_pm_new _]
    refine wpAny_mono (code_pm_new (A := A.in1.in1) (Q := fun v s' => s'.TypeIs v "itertools.permutations" ∧ Q v s') hh hr h1 h3 fun hm h' tk it pool k1 k2 l1 l2 a => (show (⟨h', s.gens, s.drawn, tk, s.os⟩ : Shared).TypeIs (.ref it) "itertools.permutations" ∧ Q (.ref it) ⟨h', s.gens, s.drawn, tk, s.os⟩ from ⟨?_, h hm h' tk it pool k1 k2 l1 l2 a⟩)) (fun fin s' hf => ?_) fun _ _ z => z
    · obtain ⟨l, ts, _, _, e1, _⟩ := a
      exact ⟨_, e1, rfl⟩
    · obtain ⟨v, rfl, q⟩ := hf
      exact q
  · exact ⟨h₁.1, F.args_object_init_2 obj _, object_init_meets called_pm.init.lookup called_pm.made (by decide) prog w A.in1 _ s₁ ⟨h₁.1, rfl, h₁.2⟩⟩
end
end PM
/-! AB16: what stands written at the module's top: tuples of texts, a table of such -/
namespace AB
open PySem PySem.Spec PyProof.Rows L2
/-- at a: a written tuple of texts -/
def KTup (K : PySem.W.Frag) (a : Addr) (ts : List Str) : Prop := ∃ (o : Obj) (its : Array Value) (n : Nat), K.lookup a = some o ∧ o.cls = .type "tuple" ∧ o.data = .seq its n ∧ its.size ≤ sizeLine ∧ Vals (ts.map V.str) its.toList
theorem KTup.sq {K : PySem.W.Frag} {a : Addr} {ts : List Str} (k : KTup K a ts) (H : Hp) : SqT K H a (ts.map V.str) := .inr k
/-- at d: a written table from texts to such -/
def KTab (K : PySem.W.Frag) (w : World) (d : Addr) (tbl : List (Str × List Str)) : Prop := (∃ es n, KDict K w d es n) ∧ ∀ z ts, tbl.lookup z = some ts → ∃ p, PySem.W.nsIn K d z = some (some (.ref p)) ∧ KTup K p ts
abbrev relK (K : PySem.W.Frag) : Rel (List Str) V := fun _ _ ts v => ∃ a, v = .ref a ∧ KTup K a ts
abbrev EK := Sl → Store → EO (List Str)
def AK (X : Cx) (W : WR) (e : Expr) (f : EK) : Prop := PE X e (tG (X.gx W.Tb) W (relK X.K) f)
section
variable {X : Cx} {W : WR} {pos : Pos} {a b : Expr} {f g : EF} {fk : EK}
def kC (ts : List Str) : EK := fun _ M => .ok ts M
theorem ak_nm {x : Str} {u : Addr} {ts : List Str} (hm : X.mg x = some (.ref u)) (k : KTup X.K u ts) (hg : Gl X x := by rfl) (hd : (x == ("__debug__" : Str)) = false := by decide) : AK X W (.Name x pos) (kC ts) := by
  refine (pe_glob hg hm (x := x) (v := V.ref u) rfl hd).pre fun σ H Q h => ?_
  obtain ⟨τ, M, ρ, rs, rm, r⟩ := h
  exact r.okv (.refl _) (.refl _) rm ⟨u, rfl, k⟩
def kAt (tbl : List (Str × List Str)) (k : A) (M : Store) : EO (List Str) := match k with
  | .str z => match tbl.lookup z with
    | some ts => .ok ts M
    | none => .bad
  | _ => .bad
def kIx (tbl : List (Str × List Str)) (g : EF) : EK := fun τ M => (g τ M).bind (kAt tbl)
theorem ix_kd {d : Addr} {es : Array DictEntry} {n : Nat} (D : KDict X.K X.w d es n) : IxR X (fun x y H Q => ∃ (z : Str) (u0 : Value) (v0 : V), x = .ref d ∧ y = .str z ∧ PySem.W.nsIn X.K d z = some (some u0) ∧ RelV v0 u0 ∧ Q v0 H) := by
  intro value slice pins s σ H x y v u Q I rx ry h hs
  obtain ⟨z, u0, v0, rfl, rfl, e, r, q⟩ := h
  cases rx
  exact tail_any (kd_type D I) PySem.F.slot_dict_getitem.lookup (op_item_kd D pins s σ H (.ref d) (.str z) (.ref d) u Q I rfl ry ⟨z, u0, v0, rfl, rfl, e, r, q⟩) hs
theorem ak_ix {x : Str} {d : Addr} {p : Pos} {tbl : List (Str × List Str)} (hm : X.mg x = some (.ref d)) (k : KTab X.K X.w d tbl) (hb : AE X W b g) (hg : Gl X x := by rfl) (hd : (x == ("__debug__" : Str)) = false := by decide) (hs : PlainIx b := by intro _ _; rfl) : AK X W (.Subscript (.Name x p) b pos) (kIx tbl g) := by
  obtain ⟨⟨es, n, D⟩, kt⟩ := k
  refine (pe_ix (ix_kd D) (pe_glob hg hm (x := x) (v := V.ref d) rfl hd) hb hs).pre fun σ H Q h => ?_
  refine (seqG Is h).imp fun y H1 h1 => ?_
  obtain ⟨τ, M, ρ, c, rs, rm, i, r⟩ := h1
  unfold kAt at r
  dsimp only at r
  split at r
  · rename_i z
    cases i
    split at r
    · rename_i ts e
      obtain ⟨p, e1, e2⟩ := kt z ts e
      exact ⟨z, .ref p, .ref p, rfl, rfl, e1, rfl, r.okv (.refl _) (.refl _) rm ⟨p, rfl, e2⟩⟩
    · exact r.elim
  · exact r.elim
/-- x in a written tuple -/
def inK (neg : Bool) (c : A) (ts : List Str) (M : Store) : EO A := match flat? c with
  | some v => .ok (.bl (if neg then !inV v (ts.map V.str) else inV v (ts.map V.str))) M
  | none => .bad
def eInK (neg : Bool) (f : EF) (g : EK) : EF := fun τ M => (f τ M).bind fun a M1 => (g τ M1).bind fun ts M2 => inK neg a ts M2
theorem inK_tK {neg : Bool} {σ : L2.St} {H : Hp} {Q : VK} (h : tG (X.gx W.Tb) W Is (eInK neg f fk) σ H Q) : tG (X.gx W.Tb) W Is f σ H fun x H1 => tG (X.gx W.Tb) W (relK X.K) fk σ H1 fun y H2 => rIn X.K neg x y H2 Q := by
  refine (seqG Is h).imp fun x H1 h1 => ?_
  refine (seqK Is Is.ext (relK X.K) h1).imp fun y H2 h2 => ?_
  obtain ⟨τ, M, ρ, c, ts, rs, rm, i, ⟨u, ey, k⟩, r⟩ := h2
  subst ey
  unfold inK at r
  split at r
  · rename_i v e
    obtain ⟨rfl, fl⟩ := flat_ok i e
    exact ⟨u, _, rfl, .inr (k.sq _), fl, by simp [flatV], r.okv (.refl _) (.refl _) rm (.bl _)⟩
  · exact r.elim
theorem ae_inK (ha : AE X W a f) (hb : AK X W b fk) (hm : behindInMarks .In b = false := by with_unfolding_all rfl) : AE X W (.Compare a [.In] [b] pos) (eInK false f fk) := (pe_cmpR op_in_seq ha hb hm).pre fun _ _ _ h => inK_tK h
theorem ae_ninK (ha : AE X W a f) (hb : AK X W b fk) (hm : behindInMarks .NotIn b = false := by with_unfolding_all rfl) : AE X W (.Compare a [.NotIn] [b] pos) (eInK true f fk) := (pe_cmpR op_notIn_seq ha hb hm).pre fun _ _ _ h => inK_tK h
theorem at_inK (ha : AE X W a f) (hb : AK X W b fk) (hm : behindInMarks .In b = false := by with_unfolding_all rfl) : AT X W (.Compare a [.In] [b] pos) (eB (eInK false f fk)) := (pt_cmpR op_in_seq ha hb hm).pre fun _ _ _ h => inK_tK (bool_tK h)
theorem at_ninK (ha : AE X W a f) (hb : AK X W b fk) (hm : behindInMarks .NotIn b = false := by with_unfolding_all rfl) : AT X W (.Compare a [.NotIn] [b] pos) (eB (eInK true f fk)) := (pt_cmpR op_notIn_seq ha hb hm).pre fun _ _ _ h => inK_tK (bool_tK h)
/-- x in a written table: yes, for a key that stands there -/
def inT (neg : Bool) (tbl : List (Str × List Str)) (c : A) (M : Store) : EO A := match c with
  | .str z => match tbl.lookup z with
    | some _ => .ok (.bl (!neg)) M
    | none => .bad
  | _ => .bad
def eInT (neg : Bool) (tbl : List (Str × List Str)) (f : EF) : EF := fun τ M => (f τ M).bind (inT neg tbl)
theorem inT_tK {neg : Bool} {tbl : List (Str × List Str)} {d : Addr} (kt : ∀ z ts, tbl.lookup z = some ts → ∃ p, PySem.W.nsIn X.K d z = some (some (.ref p)) ∧ KTup X.K p ts) {σ : L2.St} {H : Hp} {Q : VK} (h : tG (X.gx W.Tb) W Is (eInT neg tbl f) σ H Q) :
    tG (X.gx W.Tb) W Is f σ H fun x H1 => ∃ (z : Str) (r : Option Value), x = .str z ∧ V.ref d = .ref d ∧ PySem.W.nsIn X.K d z = some r ∧ Q (.bl (if neg then !r.isSome else r.isSome)) H1 := by
  refine (seqG Is h).imp fun x H1 h1 => ?_
  obtain ⟨τ, M, ρ, c, rs, rm, i, r⟩ := h1
  unfold inT at r
  dsimp only at r
  split at r
  · rename_i z
    cases i
    split at r
    · rename_i ts e
      obtain ⟨p, e1, _⟩ := kt z ts e
      refine ⟨z, _, rfl, rfl, e1, ?_⟩
      cases neg
      · exact r.okv (.refl _) (.refl _) rm (.bl _)
      · exact r.okv (.refl _) (.refl _) rm (.bl _)
    · exact r.elim
  · exact r.elim
theorem ae_inT {x : Str} {d : Addr} {p : Pos} {tbl : List (Str × List Str)} (hm : X.mg x = some (.ref d)) (k : KTab X.K X.w d tbl) (ha : AE X W a f) (hg : Gl X x := by rfl) (hd : (x == ("__debug__" : Str)) = false := by decide) (hb : behindInMarks .In (.Name x p) = false := by with_unfolding_all rfl) : AE X W (.Compare a [.In] [.Name x p] pos) (eInT false tbl f) := by
  obtain ⟨⟨es, n, D⟩, kt⟩ := k
  refine (pe_cmpR (op_in_kd D) ha (pe_glob hg hm (x := x) (v := V.ref d) rfl hd) hb).pre fun σ H Q h => inT_tK kt h
theorem ae_ninT {x : Str} {d : Addr} {p : Pos} {tbl : List (Str × List Str)} (hm : X.mg x = some (.ref d)) (k : KTab X.K X.w d tbl) (ha : AE X W a f) (hg : Gl X x := by rfl) (hd : (x == ("__debug__" : Str)) = false := by decide) (hb : behindInMarks .NotIn (.Name x p) = false := by with_unfolding_all rfl) : AE X W (.Compare a [.NotIn] [.Name x p] pos) (eInT true tbl f) := by
  obtain ⟨⟨es, n, D⟩, kt⟩ := k
  refine (pe_cmpR (op_notIn_kd D) ha (pe_glob hg hm (x := x) (v := V.ref d) rfl hd) hb).pre fun σ H Q h => inT_tK kt h
theorem at_ninT {x : Str} {d : Addr} {p : Pos} {tbl : List (Str × List Str)} (hm : X.mg x = some (.ref d)) (k : KTab X.K X.w d tbl) (ha : AE X W a f) (hg : Gl X x := by rfl) (hd : (x == ("__debug__" : Str)) = false := by decide) (hb : behindInMarks .NotIn (.Name x p) = false := by with_unfolding_all rfl) : AT X W (.Compare a [.NotIn] [.Name x p] pos) (eB (eInT true tbl f)) := by
  obtain ⟨⟨es, n, D⟩, kt⟩ := k
  refine (pt_cmpR (op_notIn_kd D) ha (pe_glob hg hm (x := x) (v := V.ref d) rfl hd) hb).pre fun σ H Q h => inT_tK kt (bool_tK h)
/-- for x in a written tuple -/
def iK (fk : EK) : EI := fun τ M => (fk τ M).bind fun ts M1 => .ok (.snap (ts.map A.str)) M1
theorem srcJ_k {w : Amb} {ρ : List Addr} {H : Hp} {ts : List Str} {u : Addr} (k : KTup w.K u ts) : SrcJ w ρ H (.snap (ts.map A.str)) (Itt w.K u) := by
  intro ρ2 H2 M2 i x g m
  have h2 := k.sq H2
  cases e : ts[i]? with
  | none =>
    simp only [Src.at, List.getElem?_map, e, Option.map_none]
    exact ⟨_, h2, by rw [List.length_map]; exact List.getElem?_eq_none_iff.mp e⟩
  | some t =>
    simp only [Src.at, List.getElem?_map, e, Option.map_some]
    refine ⟨⟨_, .str t, h2, by rw [List.getElem?_map, e]; rfl⟩, fun v H3 ⟨eH, hw⟩ => ?_⟩
    subst eH
    have := hw _ h2
    rw [List.getElem?_map, e] at this
    obtain rfl := Option.some.inj this
    exact ⟨.refl _, m, .str _⟩
theorem ai_K {tg : Expr} (h : AK X W a fk) : AI X W tg a (iK fk) := (pi_tup h).pre fun σ H R h => by
  refine (seqG (relK X.K) h).imp fun x H1 h1 => ?_
  obtain ⟨τ, M, ρ, ts, rs, rm, ⟨u, ex, k⟩, r⟩ := h1
  exact ⟨u, ex, ⟨_, k.sq _⟩, RE.okv (a := Src.snap (ts.map A.str)) (M := M) (rel := relJ (X.am W.Tb)) r (.refl _) (.refl _) rm (srcJ_k k)⟩
/-- d.get(k, x) -/
def isDk (M : Store) (l : Nat) : Bool := match M[l]? with
  | some (.dK _) => true
  | some (.dT _) => true
  | _ => false
theorem isDk_ok {w : Amb} {ρ : List Addr} {H : Hp} {M : Store} (m : RM w ρ H M) {l : Nat} {b : Addr} (hb : ρ[l]? = some b) (h : isDk M l = true) : IsD H b := by
  unfold isDk at h
  split at h
  · rename_i kvs e
    obtain ⟨vs, h1, _⟩ := m.at_ l b _ hb e
    exact .inl ⟨_, .inl h1⟩
  · rename_i kvs e
    obtain ⟨vs, h1, _⟩ := m.at_ l b _ hb e
    exact .inr ⟨_, .inl h1⟩
  · cases h
def getK (l : Nat) (k v : A) (M3 : Store) : EO A := match dGet M3 l k with
  | some o => .ok (o.getD v) M3
  | none => .bad
def get2K (fk fv : EF) (τ : Sl) (d : A) (M1 : Store) : EO A := match d with
  | .dct l => if isDk M1 l = true then (fk τ M1).bind fun k M2 => (fv τ M2).bind (getK l k) else .bad
  | _ => .bad
def eGet2 (fd fk fv : EF) : EF := fun τ M => (fd τ M).bind (get2K fk fv τ)
theorem ae_get2 {o e v : Expr} {fd fe fv : EF} {apos cpos : Pos} (hu : X.A.units + 1 < cLine) (ho : AE X W o fd) (he : AE X W e fe) (hf : AE X W v fv) (m : M2 X o "get" apos e v cpos := by exact ⟨rfl, rfl, rfl, rfl⟩) : AE X W (.Call (.Attribute o "get" apos) [e, v] [] cpos) (eGet2 fd fe fv) := (pe_dget2 hu ho he hf m).pre fun σ H Q h => by
  refine (seqG Is h).imp fun x H1 h1 => ?_
  obtain ⟨τ, M, ρ, c, rs, rm, i, r⟩ := h1
  unfold get2K at r
  cases c with
  | dct l =>
    cases i with
    | dct hl =>
      dsimp only at r
      split at r
      · rename_i hd
        refine ⟨_, rfl, isDk_ok rm hl hd, τ, M, ρ, rs, rm, ?_⟩
        cases e1 : fe τ M with
        | ok k M2 =>
          rw [e1] at r
          intro y H2 ρ2 x2 g2 m2 i2
          refine ⟨τ, M2, ρ2, rs.mono x2 g2, m2, ?_⟩
          have r : RE (X.gx W.Tb) W σ ρ H1 Is ((fv τ M2).bind (getK l k)) Q := r
          cases e2 : fv τ M2 with
          | ok v M3 =>
            rw [e2] at r
            intro z H3 ρ3 x3 g3 m3 i3
            have r : RE (X.gx W.Tb) W σ ρ H1 Is (getK l k v M3) Q := r
            unfold getK at r
            split at r
            · rename_i o' e3
              rcases dGet_ok m3 ((x2.trans x3).get hl) (i2.mono x3 g3) e3 with ⟨rfl, q⟩ | ⟨a', v', rfl, q, i4⟩
              · exact ⟨none, q, r.okv (x2.trans x3) (g2.trans g3) m3 i3⟩
              · exact ⟨some v', q, r.okv (x2.trans x3) (g2.trans g3) m3 i4⟩
            · exact r.elim
          | ex en M3 => rw [e2] at r; exact RE.mono (o := EO.ex en M3) r x2 g2
          | bad => rw [e2] at r; exact r.elim
        | ex en M2 => rw [e1] at r; exact r
        | bad => rw [e1] at r; exact r.elim
      · exact r.elim
  | _ => exact r.elim
end
end AB
/-! AB17: sorted of messages: tuples of a word and, perhaps, a number or a tuple of numbers -/
namespace SM
open PySem PySem.Spec PyProof.Rows SX
inductive Rst where
  | one | num (i : Int) | tup (ns : List Int)
  deriving DecidableEq
abbrev Msg := Str × Rst
def encN (l : List Nat) (r : List Int) : List Int := match l with
  | [] => 0 :: r
  | c :: cs => ((c : Int) + 1) :: encN cs r
def Rst.key : Rst → List Int
  | .one => []
  | .num i => [0, i]
  | .tup ns => 1 :: ns
def key (m : Msg) : List Int := encN m.1.cps.toList m.2.key
def fits : Rst → Rst → Bool
  | .num _, .tup _ => false
  | .tup _, .num _ => false
  | _, _ => true
/-- the two can be compared -/
def compat (m m' : Msg) : Bool := !(m.1 == m'.1) || fits m.2 m'.2
theorem enc_lt : ∀ (xs ys : List Nat) (r r' : List Int), ltL (encN xs r) (encN ys r') = if xs = ys then ltL r r' else decide (xs < ys)
  | [], [], r, r' => by simp only [encN]; rw [ltL_yes rfl]; simp
  | [], y :: ys, r, r' => by
    simp only [encN]
    rw [ltL_no (by omega), if_neg (by simp)]
    rw [decide_eq_true (by omega : (0 : Int) < (y : Int) + 1)]
    exact (decide_eq_true (by simp)).symm
  | x :: xs, [], r, r' => by
    simp only [encN]
    rw [ltL_no (by omega), if_neg (by simp), decide_eq_false (by omega)]
    exact (decide_eq_false (by simp)).symm
  | x :: xs, y :: ys, r, r' => by
    simp only [encN]
    by_cases e : x = y
    · subst e
      rw [ltL_yes rfl, enc_lt xs ys]
      by_cases e2 : xs = ys
      · subst e2; simp
      · rw [if_neg e2, if_neg (by simpa using e2)]
        exact decide_eq_decide.mpr (by simp [List.cons_lt_cons_iff])
    · rw [ltL_no (by omega), if_neg (by simp [e])]
      exact decide_eq_decide.mpr (by simp [List.cons_lt_cons_iff, e])
theorem enc_inj : ∀ {xs ys : List Nat} {r r' : List Int}, encN xs r = encN ys r' → xs = ys ∧ r = r'
  | [], [], r, r', h => by simp only [encN] at h; cases h; exact ⟨rfl, rfl⟩
  | [], y :: ys, r, r', h => by simp only [encN, List.cons.injEq] at h; omega
  | x :: xs, [], r, r', h => by simp only [encN, List.cons.injEq] at h; omega
  | x :: xs, y :: ys, r, r', h => by
    simp only [encN, List.cons.injEq] at h
    obtain ⟨e1, e2⟩ := enc_inj h.2
    exact ⟨by rw [e1]; congr 1; omega, e2⟩
theorem key_inj {m m' : Msg} (h : key m = key m') : m = m' := by
  obtain ⟨w, r⟩ := m
  obtain ⟨w', r'⟩ := m'
  obtain ⟨e1, e2⟩ := enc_inj h
  have e1 : w = w' := PySem.W.str_of_cps e1
  subst e1
  have e2 : r.key = r'.key := e2
  cases r <;> cases r' <;> simp_all [Rst.key]
def ins (x : Msg) : List Msg → List Msg
  | [] => [x]
  | y :: ys => if ltL (key y) (key x) = true then y :: ins x ys else x :: y :: ys
def sortM : List Msg → List Msg
  | [] => []
  | x :: xs => ins x (sortM xs)
theorem ins_key (x : Msg) : ∀ ys, (ins x ys).map key = SX.ins (key x) (ys.map key)
  | [] => rfl
  | y :: ys => by
    simp only [ins, List.map_cons, SX.ins]
    split
    · rw [List.map_cons, ins_key x ys]
    · rfl
theorem sort_key : ∀ xs, (sortM xs).map key = SX.sortL (xs.map key)
  | [] => rfl
  | x :: xs => by
    simp only [sortM, List.map_cons, SX.sortL]
    rw [ins_key, sort_key xs]
theorem map_inj {α β : Type} {f : α → β} (hf : ∀ a b, f a = f b → a = b) : ∀ {xs ys : List α}, xs.map f = ys.map f → xs = ys
  | [], [], _ => rfl
  | [], _ :: _, h => by simp at h
  | _ :: _, [], h => by simp at h
  | x :: xs, y :: ys, h => by
    simp only [List.map_cons, List.cons.injEq] at h
    rw [hf _ _ h.1, map_inj hf h.2]
section
variable {prog : Program} {w : World} {A : Around} {E : Value → Shared → Prop} {s : Shared}
/-- a message's second part -/
inductive IsR (h : Heap) : List Value → Rst → Prop
  | one : IsR h [] .one
  | num (i : Int) (t : Tok) : IsR h [.int i t] (.num i)
  | tup {b : Addr} {xs : Array Value} {ns : List Int} : IsTup h b xs → IntsAre xs.toList ns → IsR h [.ref b] (.tup ns)
def IsM (h : Heap) (v : Value) (m : Msg) : Prop := ∃ a o xs n t r, v = .ref a ∧ h.get? a = some o ∧ o.cls = .type "tuple" ∧ o.data = .seq xs n ∧ xs.toList = .str m.1 t :: r ∧ IsR h r m.2
theorem IsR.keeps {h h' : Heap} {r : List Value} {m : Rst} (x : IsR h r m) (k : ∀ b o, h.get? b = some o → o.cls = .type "tuple" → h'.get? b = some o) : IsR h' r m := by
  cases x with
  | one => exact .one
  | num i t => exact .num i t
  | tup h1 h2 =>
    obtain ⟨o, e, c, d⟩ := h1
    exact .tup ⟨o, k _ _ e c, c, d⟩ h2
theorem IsM.keeps {h h' : Heap} {v : Value} {m : Msg} (x : IsM h v m) (k : ∀ b o, h.get? b = some o → o.cls = .type "tuple" → h'.get? b = some o) : IsM h' v m := by
  obtain ⟨a, o, xs, n, t, r, e, ho, hc, hd, hx, i⟩ := x
  exact ⟨a, o, xs, n, t, r, e, k a o ho hc, hc, hd, hx, i.keeps k⟩
theorem lexLt_ltL : ∀ xs ys : List Int, HT.lexLt xs ys = ltL xs ys
  | [], [] => rfl
  | [], _ :: _ => rfl
  | _ :: _, [] => rfl
  | x :: xs, y :: ys => by
    unfold HT.lexLt ltL
    rw [lexLt_ltL xs ys]
theorem reads_ints {h : Heap} : ∀ {vs : List Value} {ns : List Int}, IntsAre vs ns → ReadsAll h vs (ns.map PyData.int) []
  | _, _, .nil => .nil
  | _, _, .cons x t r => .cons (as := []) (bs := []) (.int x t) (reads_ints r)
theorem alike_ints : ∀ ns ms : List Int, PySem.W.alikeAll (ns.map PyData.int) (ms.map PyData.int) = true
  | [], _ => by simp [PySem.W.alikeAll]
  | _ :: _, [] => by simp [PySem.W.alikeAll]
  | n :: ns, m :: ms => by simp [PySem.W.alikeAll, PySem.W.alike, alike_ints ns ms]
theorem eqv_ints : ∀ ns ms : List Int, PyData.eqvAll (ns.map PyData.int) (ms.map PyData.int) = decide (ns = ms)
  | [], [] => by simp [PyData.eqvAll]
  | [], _ :: _ => by simp [PyData.eqvAll]
  | _ :: _, [] => by simp [PyData.eqvAll]
  | n :: ns, m :: ms => by
    rw [List.map_cons, List.map_cons, PySem.W.eqv_all_cons, eqv_ints ns ms]
    exact Bool.eq_iff_iff.mpr (by simp [PyData.eqv])
theorem depth_ints : ∀ ns : List Int, PyData.depthAll (ns.map PyData.int) = 0
  | [] => rfl
  | n :: ns => by rw [List.map_cons, PyData.depthAll, depth_ints ns]; rfl
theorem lex_rst (hu : A.units + 4 < cLine) {r r' : List Value} {m m' : Rst} (h1 : IsR s.heap r m) (h2 : IsR s.heap r' m') (hf : fits m m' = true) (fin : Bool) (hfin : fin = decide (r.length + 1 < r'.length + 1)) :
    PySem.W.KatLex prog w A true fin (fun c s' => s' = s ∧ c = ltL m.key m'.key) (r.zip r') 1 s := by
  subst hfin
  cases h1 with
  | one =>
    cases h2 with
    | one => exact PySem.W.kat_nil ⟨rfl, rfl⟩
    | num j u => exact PySem.W.kat_nil ⟨rfl, rfl⟩
    | tup a b => exact PySem.W.kat_nil ⟨rfl, rfl⟩
  | num i t =>
    cases h2 with
    | one => exact PySem.W.kat_nil ⟨rfl, rfl⟩
    | tup a b => simp [fits] at hf
    | num j u =>
      refine PySem.W.kat_cons (SeqAt.EqAt.int_int i t j u prog w _ _ ?_)
      refine PySem.W.kat_go (fun e1 => ?_) (fun e1 => ?_)
      · have ex : i = j := by simpa using e1
        refine PySem.W.kat_yes (PySem.W.kat_nil ⟨rfl, ?_⟩)
        show _ = ltL [0, i] [0, j]
        rw [ltL_yes rfl, ltL_yes ex]; rfl
      · have ex : ¬ i = j := by simpa using e1
        refine PySem.W.kat_no (PySem.W.kat_one _ _ (PyProof.Rows.lt_int (show s = s ∧ decide (i < j) = ltL [0, i] [0, j] from ⟨rfl, ?_⟩)))
        rw [ltL_yes rfl, ltL_no ex]
  | tup a b =>
    cases h2 with
    | one => exact PySem.W.kat_nil ⟨rfl, rfl⟩
    | num j u => simp [fits] at hf
    | tup a' b' =>
      rename_i p xs ns p' ys ms
      obtain ⟨o, e, c, nn, d⟩ := id a
      obtain ⟨o', e', c', nn', d'⟩ := id a'
      have ra : Reads s.heap (.ref p) (.tuple (ns.map PyData.int)) [] := .tuple e c d (reads_ints b)
      have rb : Reads s.heap (.ref p') (.tuple (ms.map PyData.int)) [] := .tuple e' c' d' (reads_ints b')
      have q := PySem.W.eqAt_alike _ _ A s _ _ _ _ ra rb (by simp [PySem.W.alike, alike_ints]) (by
        have : min (PyData.depth (.tuple (ns.map PyData.int))) (PyData.depth (.tuple (ms.map PyData.int))) ≤ 1 := by
          rw [PyData.depth, depth_ints]; exact Nat.min_le_left _ _
        omega)
      have ev : PyData.eqv (.tuple (ns.map PyData.int)) (.tuple (ms.map PyData.int)) = decide (ns = ms) := by rw [← eqv_ints]; rfl
      rw [ev] at q
      refine PySem.W.kat_cons (q prog w _ _ ?_)
      refine PySem.W.kat_go (fun e1 => ?_) (fun e1 => ?_)
      · have ex : ns = ms := of_decide_eq_true e1
        refine PySem.W.kat_yes (PySem.W.kat_nil ⟨rfl, ?_⟩)
        show _ = ltL (1 :: ns) (1 :: ms)
        rw [ltL_yes rfl, ex]
        cases hz : ltL ms ms with
        | false => exact decide_eq_false (by simp)
        | true => exact absurd (ltL_asym hz) (by rw [hz]; decide)
      · refine PySem.W.kat_no (PySem.W.kat_one _ _ (HT.lt_tupInts a a' b b' (by omega) (show s = s ∧ HT.lexLt ns ms = ltL (1 :: ns) (1 :: ms) from ⟨rfl, ?_⟩)))
        rw [ltL_yes rfl, lexLt_ltL]
theorem lex_msg (hu : A.units + 4 < cLine) {v v' : Value} {m m' : Msg} (h1 : IsM s.heap v m) (h2 : IsM s.heap v' m') (hf : compat m m' = true) :
    wpAny (model prog w) A (keyLt' (tuples' true) v v') (fun c s' => s' = s ∧ c = ltL (key m) (key m')) E s := by
  obtain ⟨a, o, xs, n, t, r, rfl, ho, hc, hd, hx, i1⟩ := h1
  obtain ⟨a', o', xs', n', t', r', rfl, ho', hc', hd', hx', i2⟩ := h2
  refine PySem.W.kat_lt ho hd ho' hd' ?_
  have e1 : xs.size = r.length + 1 := by rw [← Array.length_toList, hx]; rfl
  have e2 : xs'.size = r'.length + 1 := by rw [← Array.length_toList, hx']; rfl
  rw [hx, hx', e1, e2, List.zip_cons_cons]
  refine PySem.W.kat_cons (SeqAt.EqAt.str_str m.1 t m'.1 t' prog w _ _ ?_)
  refine PySem.W.kat_go (fun e1 => ?_) (fun e1 => ?_)
  · have ex : m.1 = m'.1 := by simpa using e1
    refine PySem.W.kat_yes ?_
    have hf2 : fits m.2 m'.2 = true := by
      unfold compat at hf
      rw [ex] at hf
      simpa using hf
    have ek : ltL (key m) (key m') = ltL m.2.key m'.2.key := by
      unfold key
      rw [enc_lt, ex, if_pos rfl]
    rw [ek]
    exact lex_rst hu i1 i2 hf2 _ rfl
  · have ex : ¬ m.1 = m'.1 := by simpa using e1
    have ek : ltL (key m) (key m') = decide (m.1.cps.toList < m'.1.cps.toList) := by
      unfold key
      rw [enc_lt, if_neg fun z => ex (PySem.W.str_of_cps z)]
    rw [ek]
    exact PySem.W.kat_no (PyProof.Rows.oneLt_str (show s = s ∧ _ = _ from ⟨rfl, rfl⟩))
theorem swo_M (k : Value → List Int) : SrtO.Swo fun v u => ltL (k v) (k u) := SX.swo_L k
theorem msg_firsts {k : Value → Msg} : ∀ {vs : List Value} {h : Heap}, (∀ v ∈ vs, IsM h v (k v)) → ∃ fs, PySem.W.KatTups h vs fs ∧ fs.length = vs.length ∧ ∀ f ∈ fs, ∃ x t, f = Value.str x t
  | [], h, _ => ⟨[], .nil, rfl, fun _ z => by cases z⟩
  | v :: vs, h, hp => by
    obtain ⟨fs, h1, h2, h3⟩ := msg_firsts (vs := vs) fun u hu => hp u (List.mem_cons_of_mem _ hu)
    obtain ⟨a, o, xs, n, t, r, e, ho, hc, hd, hx, i⟩ := hp v List.mem_cons_self
    subst e
    refine ⟨Value.str (k (.ref a)).1 t :: fs, .cons ho hc hd (by rw [← Array.getElem?_toList, hx]; rfl) h1, by simp [h2], fun g hg => ?_⟩
    rcases List.mem_cons.mp hg with rfl | hg
    · exact ⟨_, t, rfl⟩
    · exact h3 g hg
theorem msg_sortable (hu : A.units + 4 < cLine) {a : Addr} {vs : List Value} {k : Value → Msg} (h0 : 0 < vs.length) (hp : ∀ v ∈ vs, IsM s.heap v (k v)) (hf : ∀ v ∈ vs, ∀ u ∈ vs, compat (k v) (k u) = true) (ha : ∀ o, s.heap.get? a = some o → o.cls ≠ .type "tuple") : SrtO.SortableO prog w A s a vs fun v u => ltL (key (k v)) (key (k u)) := by
  intro h' keep
  have hp' : ∀ v ∈ vs, IsM h' v (k v) := fun v hm => (hp v hm).keeps fun b o e c => keep b o (fun z => by subst z; exact ha o e c) e
  obtain ⟨fs, h1, h2, h3⟩ := msg_firsts hp'
  refine ⟨tuples' true, fun Q E hq => ?_, fun p q hm hm' => ?_⟩
  · refine PySem.W.kat_kind (T := .type "str") h1 (by omega) (fun f hm => ?_) (by rfl) ?_
    · obtain ⟨x, t, rfl⟩ := h3 f hm
      exact PySem.W.Looks.now
    · have e : (Value.type "str" != Value.type "tuple") = true := by first | decide +kernel | rfl | decide
      rw [e]
      exact hq
  · exact lex_msg (s := { s with heap := h' }) hu (hp' _ hm) (hp' _ hm') (hf _ hm _ hm')
end
end SM
namespace AB
open PySem PySem.Spec PyProof.Rows L2 SM
def rstA : Rst → List A
  | .one => []
  | .num i => [.int i]
  | .tup ns => [.tup (ns.map A.int)]
def msgA (m : Msg) : A := .tup (.str m.1 :: rstA m.2)
def rst? : List A → Option Rst
  | [] => some .one
  | [.int i] => some (.num i)
  | [.tup xs] => (ints? xs).map .tup
  | _ => none
def msgs? : List A → Option (List Msg)
  | [] => some []
  | .tup (.str w :: r) :: q => match rst? r, msgs? q with
    | some m, some l => some ((w, m) :: l)
    | _, _ => none
  | _ :: _ => none
theorem rst_of {r : List A} {m : Rst} (e : rst? r = some m) : r = rstA m := by
  unfold rst? at e
  split at e
  · cases e; rfl
  · cases e; rfl
  · rename_i xs
    cases e1 : ints? xs with
    | none => rw [e1] at e; cases e
    | some is => rw [e1] at e; cases e; rw [ints_of e1]; rfl
  · cases e
theorem msgs_of : ∀ {as : List A} {q : List Msg}, msgs? as = some q → as = q.map msgA
  | [], q, e => by cases e; rfl
  | a :: as, q, e => by
    unfold msgs? at e
    split at e
    · rename_i h; cases h
    · rename_i w r q' h
      cases h
      split at e
      · rename_i m l e1 e2
        cases e
        rw [List.map_cons, ← msgs_of e2, msgA, rst_of e1]
      · cases e
    · cases e
/-- sorted: whole numbers' tuples, messages, at most one thing -/
def oSortM : On := fun as M => match as with
  | [.lst l] => match listAt M l with
    | some xs => match tups? xs with
      | some q => some (.lst M.length, M ++ [.lst ((SX.sortL q).map tupI)])
      | none => match msgs? xs with
        | some q => if q.all (fun m => q.all fun m' => compat m m') = true then some (.lst M.length, M ++ [.lst ((sortM q).map msgA)]) else none
        | none => none
    | none => none
  | _ => none
/-- the message that a tracked tuple holds -/
def mOf (H : Hp) : Value → Msg
  | .ref a => match H a with
    | some (.tup [.str w]) => (w, .one)
    | some (.tup [.str w, .int i]) => (w, .num i)
    | some (.tup [.str w, .ref b]) => match H b with
      | some (.tup vs) => (w, .tup (vs.filterMap fun v => match v with
        | .int i => some i
        | _ => none))
      | _ => (w, .one)
    | _ => (⟨#[]⟩, .one)
  | _ => (⟨#[]⟩, .one)
theorem ints_filter (ns : List Int) : (ns.map V.int).filterMap (fun v => match v with
        | .int i => some i
        | _ => none) = ns := by
  induction ns with
  | nil => rfl
  | cons n ns ih => simp [ih]
theorem msgA_is {ρ : List Addr} {H : Hp} {m : Msg} {v : V} (i : Is ρ H (msgA m) v) : ∃ a, v = .ref a ∧ mOf H (.ref a) = m ∧ ∃ r, H a = some (.tup (.str m.1 :: r)) ∧ (∀ hp P w, HOk P w H hp → ∀ u, Vals r u → IsR hp u m.2) := by
  obtain ⟨w, r⟩ := m
  unfold msgA at i
  cases i with
  | tup h is =>
    rename_i a vs
    refine ⟨a, rfl, ?_⟩
    cases is with
    | cons i1 is =>
      cases i1
      cases r with
      | one =>
        cases is
        exact ⟨by simp [mOf, h], [], h, fun hp P w' ok u r => by cases r; exact .one⟩
      | num j =>
        cases is with
        | cons i2 is =>
          cases is; cases i2
          refine ⟨by simp [mOf, h], _, h, fun hp P w' ok u r => ?_⟩
          cases r with
          | cons r1 r2 => cases r2; obtain ⟨t, rfl⟩ := r1; exact .num j t
      | tup ns =>
        cases is with
        | cons i2 is =>
          cases is
          cases i2 with
          | tup hb ib =>
            rw [IsAll.ints ib] at hb
            refine ⟨by simp only [mOf, h, hb, ints_filter], _, h, fun hp P w' ok u r => ?_⟩
            cases r with
            | cons r1 r2 =>
              cases r2; cases r1
              obtain ⟨_, tv, trv, it⟩ := ok _ _ hb
              exact .tup it (by simpa using intsAre_of trv)
section
variable {X : Cx}
theorem cr_sortM (hu : X.A.units + 64 < cLine) : CallR X (.builtin "sorted") (rn (X.am Tb) oSortM) := by
  intro pins s σ H xs us Q I r h
  obtain ⟨as, M, ρ, is, m, ro⟩ := h
  unfold oSortM at ro
  split at ro
  · rename_i l
    split at ro
    · rename_i ys el
      split at ro
      · rename_i q eq
        refine cr_sortedTI pins s σ H xs us Q I r ⟨_, M, ρ, is, m, ?_⟩
        unfold oSorted
        simp only [el, eq]
        exact ro
      · split at ro
        · rename_i q eq
          split at ro
          · rename_i hcomp
            cases is with
            | cons i1 is =>
              cases is
              cases i1 with
              | lst hl =>
                have e0 := msgs_of eq
                subst e0
                obtain ⟨vs, hs, iv⟩ := m.list hl el
                obtain ⟨its, rv, hL, hz⟩ := I.list hs
                rw [Vals.ref1 r]
                have items : ∀ (q : List Msg) (vs : List V) (its : List Value), IsAll ρ H (q.map msgA) vs → Vals vs its → its.map (mOf H) = q ∧ ∀ u ∈ its, IsM s.heap u (mOf H u) ∧ ∃ v, RelV v u ∧ Is ρ H (msgA (mOf H u)) v := by
                  intro q
                  induction q with
                  | nil => intro vs its i r; cases i; cases r; exact ⟨rfl, fun _ z => (by cases z)⟩
                  | cons n q ih =>
                    intro vs its i r
                    cases i with
                    | cons i1 i2 =>
                      cases r with
                      | cons r1 r2 =>
                        obtain ⟨a2, a3⟩ := ih _ _ i2 r2
                        obtain ⟨a, rfl, em, r0, ha, hr⟩ := msgA_is i1
                        cases r1
                        refine ⟨by rw [List.map_cons, em, a2], fun u hu => ?_⟩
                        rcases List.mem_cons.mp hu with rfl | hu
                        · refine ⟨?_, V.ref a, (show RelV (V.ref a) (Value.ref a) from rfl), by rw [em]; exact i1⟩
                          rw [em]
                          obtain ⟨_, tv, trv, o, h1, h2, nn, h3⟩ := I.hok _ _ ha
                          cases trv with
                          | cons t1 t2 =>
                            obtain ⟨t, rfl⟩ := t1
                            exact ⟨a, o, _, nn, t, _, rfl, h1, h2, h3, rfl, hr _ _ _ I.hok _ t2⟩
                        · exact a3 u hu
                obtain ⟨hk, hp⟩ := items q vs its iv rv
                have hall : ∀ v ∈ its, ∀ u ∈ its, compat (mOf H v) (mOf H u) = true := by
                  intro v hv u hu
                  have h1 := List.all_eq_true.mp hcomp (mOf H v) (by rw [← hk]; exact List.mem_map_of_mem hv)
                  exact List.all_eq_true.mp h1 (mOf H u) (by rw [← hk]; exact List.mem_map_of_mem hu)
                refine SrtO.sorted_ord (SM.swo_M fun v => key (mOf H v)) hL.isList (by rw [← rv.length]; exact hz) (fun h2 h₁ a' ha kk => ?_) fun out h1 h2 => ?_
                · refine SM.msg_sortable (s := { s with heap := h₁ }) (by show X.A.units + 1 + 1 + 4 < cLine; omega) (by omega) (fun v hm => (hp v hm).1.keeps fun b o e _ => (kk b o e).2) hall fun o e => ?_
                  have e' : some o = some (seqObj "list" its.toArray 0) := e.symm.trans ha
                  cases e'
                  intro c
                  exact absurd (Value.type.inj c) (by decide)
                · obtain ⟨ep, he'⟩ := PyProof.Rows.sortedAll_at s.heap its out.toArray
                  have outs : ∀ (l : List Value), (∀ u ∈ l, u ∈ its) → ∃ vs : List V, Vals vs l ∧ IsAll ρ H ((l.map (mOf H)).map msgA) vs := by
                    intro l
                    induction l with
                    | nil => intro _; exact ⟨[], .nil, .nil⟩
                    | cons u l ih =>
                      intro hm
                      obtain ⟨vs, v1, v2⟩ := ih fun x hx => hm x (List.mem_cons_of_mem _ hx)
                      obtain ⟨_, v, rv', iv'⟩ := hp u (hm u List.mem_cons_self)
                      exact ⟨v :: vs, .cons rv' v1, .cons iv' v2⟩
                  obtain ⟨ws, w1, w2⟩ := outs out fun u hu => h2.perm.mem_iff.mp hu
                  have esort : out.map (mOf H) = sortM q := by
                    refine map_inj (fun _ _ => key_inj) ?_
                    rw [sort_key]
                    refine SX.up_unique ?_ (SX.sortL_up _) ?_
                    · rw [List.map_map]; exact List.pairwise_map.mpr h1
                    · have := (h2.perm.map (mOf H)).map key
                      rw [hk] at this
                      exact this.trans (SX.sortL_perm _).symm
                  rw [esort] at w2
                  have hlen : ws.length ≤ sizeLine := by
                    rw [w1.length, h2.perm.length_eq, ← rv.length]; exact hz
                  have hnew : H (s.heap.objs.size + 1) = none := I.hok.fresh (Nat.le_succ _)
                  exact ⟨.ref _, upd H (s.heap.objs.size + 1) (.lst ws), I.laid (t' := s.toks) (fun _ _ => PyProof.Rows.sortedAll_old) (Nat.le_succ _) ⟨hlen, out, ep, w1, he'⟩, rfl, ro.newL m w2 hnew⟩
          · exact ro.elim
        · exact ro.elim
    · exact ro.elim
  · exact ro.elim
end
end AB
/-! AB18: displays of several keys; the place of data in a list; orders -/
namespace AB
open PySem PySem.Spec PyProof.Rows L2
section
variable {X : Cx} {W : WR} {pos : Pos} {e : Expr} {f : EF} {fs : EFs}
/-! ### {k: v, ..} -/
abbrev relPs : Rel (List (A × A)) (List (V × V)) := fun ρ H as ps => IsAll ρ H (as.map (·.1)) (ps.map (·.1)) ∧ IsAll ρ H (as.map (·.2)) (ps.map (·.2))
abbrev EPs := Sl → Store → EO (List (A × A))
def APs (X : Cx) (W : WR) (pos : Pos) (ks : List (Option Expr)) (vs : List Expr) (fp : EPs) : Prop := ∃ trs, PPs X pos ks vs trs ∧ ∀ σ H Q, tG (X.gx W.Tb) W relPs fp σ H Q → tPairs trs σ H Q
def pNil : EPs := fun _ M => .ok [] M
def pCons (fk fv : EF) (fp : EPs) : EPs := fun τ M => (fk τ M).bind fun k M1 => (fv τ M1).bind fun v M2 => (fp τ M2).bind fun ps M3 => .ok ((k, v) :: ps) M3
theorem aps_nil : APs X W pos [] [] pNil := ⟨[], pps_nil, fun σ H Q h => by
  obtain ⟨τ, M, ρ, rs, rm, r⟩ := h
  exact r.okv (.refl _) (.refl _) rm ⟨.nil, .nil⟩⟩
theorem aps_cons {k v : Expr} {ks : List (Option Expr)} {vs : List Expr} {fk fv : EF} {fp : EPs} (hk : AE X W k fk) (hv : AE X W v fv) (hr : APs X W pos ks vs fp) : APs X W pos (some k :: ks) (v :: vs) (pCons fk fv fp) := by
  obtain ⟨trs, hp, ht⟩ := hr
  refine ⟨_, pps_cons hk hv hp, fun σ H Q h => ?_⟩
  show tG (X.gx W.Tb) W Is fk σ H fun x H1 => tG (X.gx W.Tb) W Is fv σ H1 fun y H2 => tPairs trs σ H2 fun ps H3 => Q ((x, y) :: ps) H3
  refine (seqG Is h).imp fun x H1 h1 => ?_
  obtain ⟨τ, M, ρ, c, rs, rm, i, r⟩ := h1
  refine ⟨τ, M, ρ, rs, rm, ?_⟩
  dsimp only at r
  cases e1 : fv τ M with
  | ok v M2 =>
    rw [e1] at r
    intro y H2 ρ2 x2 g2 m2 i2
    refine ht _ _ _ ⟨τ, M2, ρ2, rs.mono x2 g2, m2, ?_⟩
    have r : RE (X.gx W.Tb) W σ ρ H1 relPs ((fp τ M2).bind fun ps M3 => .ok ((c, v) :: ps) M3) Q := r
    cases e2 : fp τ M2 with
    | ok ps M3 =>
      rw [e2] at r
      intro qs H3 ρ3 x3 g3 m3 i3
      exact RE.okv (a := (c, v) :: ps) (b := (x, y) :: qs) (M := M3) (rel := relPs) r (x2.trans x3) (g2.trans g3) m3 ⟨.cons ((i.mono x2 g2).mono x3 g3) i3.1, .cons (i2.mono x3 g3) i3.2⟩
    | ex en M3 => rw [e2] at r; exact RE.mono (o := EO.ex en M3) r x2 g2
    | bad => rw [e2] at r; exact r.elim
  | ex en M2 => rw [e1] at r; exact r
  | bad => rw [e1] at r; exact r.elim
def keyed? : List (A × A) → Option (List (Key × A))
  | [] => some []
  | (k, v) :: r => match key? k, keyed? r with
    | some j, some q => some ((j, v) :: q)
    | _, _ => none
def mergeA (kvs : List (Key × A)) (more : List (Key × A)) : List (Key × A) := more.foldl (fun acc kv => putA acc kv.1 kv.2) kvs
def dispN (l : Nat) (ps : List (A × A)) (M3 : Store) : EO A := match M3[l]?, keyed? ps with
  | some (.dK []), some q => if q.length ≤ 15 then .ok (.dct l) (M3.set l (.dK (mergeA [] q))) else .bad
  | _, _ => .bad
def eDispN (fp : EPs) : EF := fun τ M => (fp τ (M ++ [.dK []])).bind (dispN M.length)
theorem keyed_ok {ρ : List Addr} {H : Hp} : ∀ {as : List (A × A)} {ps : List (V × V)} {q : List (Key × A)}, relPs ρ H as ps → keyed? as = some q → ∃ kvs : List (Key × V), ps = kvs.map (fun kv => (kV kv.1, kv.2)) ∧ kvs.length = q.length ∧
    ∀ {acc : List (Key × A)} {vs : List V}, IsAll ρ H (acc.map (·.2)) vs → ∃ ws, mergeK ((acc.map (·.1)).zip vs) kvs = ((mergeA acc q).map (·.1)).zip ws ∧ IsAll ρ H ((mergeA acc q).map (·.2)) ws
  | [], [], q, _, e => by
    cases e
    exact ⟨[], rfl, rfl, fun i => ⟨_, rfl, i⟩⟩
  | [], _ :: _, q, ⟨i, _⟩, e => by cases i
  | _ :: _, [], q, ⟨i, _⟩, e => by cases i
  | (k, v) :: as, (x, y) :: ps, q, ⟨i1, i2⟩, e => by
    unfold keyed? at e
    cases i1 with
    | cons j1 i1 =>
      cases i2 with
      | cons j2 i2 =>
        split at e
        · rename_i j q' e1 e2
          cases e
          obtain ⟨kvs, h1, h2, h3⟩ := keyed_ok ⟨i1, i2⟩ e2
          refine ⟨(j, y) :: kvs, by rw [List.map_cons, ← h1, ← key_ok j1 e1], by simp [h2], fun {acc vs} i => ?_⟩
          obtain ⟨ws, e3, i3⟩ := put_ok j j2 i
          obtain ⟨us, e4, i4⟩ := h3 i3
          refine ⟨us, ?_, i4⟩
          show mergeK (putK ((acc.map (·.1)).zip vs) j y) kvs = _
          rw [e3]; exact e4
        · cases e
theorem ae_dispN {ks : List (Option Expr)} {vs : List Expr} {fp : EPs} (h : APs X W pos ks vs fp) (hall : ks.all (·.isSome) = true := by rfl) (hl : ks.length = vs.length := by rfl) (h0 : ks ≠ [] := by intro z; cases z) (h15 : ks.length ≤ 15 := by decide) : AE X W (.Dict ks vs pos) (eDispN fp) := by
  obtain ⟨trs, hp, ht⟩ := h
  refine (pe_disp hp hall hl h0 h15).pre fun σ H Q h => ?_
  obtain ⟨τ, M, ρ, rs, rm, r⟩ := h
  intro p hp
  have g0 : Grow H (upd H p (.dK [])) := .new hp
  have m0 : RM (X.am W.Tb) (ρ ++ [p]) (upd H p (.dK [])) (M ++ [.dK []]) := rm.push hp ⟨[], upd_same, .nil⟩
  have r := RE.mono r (.snoc ρ p) g0
  have hl0 : (ρ ++ [p])[M.length]? = some p := by rw [← rm.len]; simp
  unfold eDispN at r
  refine ht _ _ _ ⟨τ, _, _, rs.mono (.snoc ρ p) g0, m0, ?_⟩
  cases e1 : fp τ (M ++ [.dK []]) with
  | ok ps M2 =>
    rw [e1] at r
    intro qs H2 ρ2 x2 g2 m2 i2
    have r := RE.mono r x2 g2
    have hb : ρ2[M.length]? = some p := x2.get hl0
    have r : RE (X.gx W.Tb) W σ ρ2 H2 Is (dispN M.length ps M2) Q := r
    unfold dispN at r
    split at r
    · rename_i q ec ek
      split at r
      · rename_i h15
        obtain ⟨vs, hq, iz⟩ := m2.at_ _ _ _ hb ec
        have hH : H2 p = some (.dK []) := by cases iz; exact hq
        obtain ⟨kvs, k1, k2, k3⟩ := keyed_ok i2 ek
        obtain ⟨ws, k4, k5⟩ := k3 (acc := []) (vs := []) .nil
        have g4 := m2.growSet (o := .dK (mergeK [] kvs)) hb ec
        refine ⟨hH, kvs, k1, by omega, ?_⟩
        refine r.okv (.refl _) g4 (m2.set hb ec ⟨ws, ?_, k5.mono (.refl _) g4⟩) (.dct hb)
        rw [upd_same]; exact congrArg (fun z => some (HO.dK z)) k4
      · exact r.elim
    · exact r.elim
  | ex en M2 => rw [e1] at r; exact r
  | bad => rw [e1] at r; exact r.elim
/-! ### l.index(x), data -/
def ixData (d : PyData) : List PyData → Nat → Option Nat
  | [], _ => none
  | x :: xs, j => if PyData.eqv x d = true then some j else ixData d xs (j + 1)
theorem ixData_ok {d : PyData} : ∀ {xs : List PyData} {j n : Nat}, ixData d xs j = some n → ∃ k z, n = j + k ∧ xs[k]? = some z ∧ PyData.eqv z d = true ∧ ∀ (m : Nat) (z' : PyData), m < k → xs[m]? = some z' → PyData.eqv z' d = false
  | [], _, _, e => by cases e
  | x :: xs, j, n, e => by
    unfold ixData at e
    split at e
    · rename_i h; cases e
      exact ⟨0, x, rfl, rfl, h, fun m z' hm => absurd hm (Nat.not_lt_zero m)⟩
    · rename_i h
      obtain ⟨k, z, e1, e2, e3, e4⟩ := ixData_ok e
      refine ⟨k + 1, z, by omega, by simpa using e2, e3, fun m z' hm hz => ?_⟩
      cases m with
      | zero => simp at hz; subst hz; simpa using h
      | succ m => exact e4 m z' (by omega) (by simpa using hz)
def oIndexD : OM := fun x as M => match x, as with
  | .lst l, [y] => match datS M (.lst l), datS M y with
    | some (.list ds), some d => (ixData d ds 0).map fun j => (.int (j : Nat), M)
    | _, _ => none
  | _, _ => none
theorem mt_indexDA (hu : X.A.units + 65 < cLine) : MtR X "list.index" (rm (X.am W.Tb) oIndexD) := by
  intro pins s σ H x xs v us Q I rx rxs h
  obtain ⟨a, as, M, ρ, ia, is, m, ro⟩ := h
  unfold oIndexD at ro
  split at ro
  · rename_i l y
    cases is with
    | cons i1 is =>
      cases is
      split at ro
      · rename_i ds d e1 e2
        obtain ⟨h1, s1⟩ := datS_ok m ia e1
        obtain ⟨h2, s2⟩ := datS_ok m i1 e2
        cases ia with
        | lst hl =>
          cases e3 : ixData d ds 0 with
          | none => rw [e3] at ro; exact ro.elim
          | some j =>
            rw [e3] at ro
            obtain ⟨k, z, q1, q2, q3, q4⟩ := ixData_ok e3
            have : j = k := by omega
            subst this
            exact mt_indexD hu pins s σ H _ _ v us Q I rx rxs ⟨_, _, d, ds, j, z, rfl, rfl, h1, h2, s1, s2, q2, q3, q4, RO.val (ρ := ρ) (M := M) ro m (.int _)⟩
      · exact ro.elim
  · exact ro.elim
theorem ae_indexD {a : Expr} {apos cpos : Pos} (hu : X.A.units + 65 < cLine) (ho : AE X W a f) (ha : AA X W [e] fs) (hbase : attributeBase a "index" X.env (eval a X.env) = eval a X.env := by rfl)
    (hfew : ((backTo cpos (starEach [e] X.env)).all (fun x => !x.1) && (backToKw cpos (keywordEach [] X.env)).all (fun x => x.1.isSome)
      && decide ([e].length + ([] : List Keyword).length + (if ([] : List Keyword).isEmpty then 0 else 1) < 30)) = true := by rfl)
    (hline : (apos.endLine == cpos.line) = true := by rfl) (hs : starEach [e] X.env = (false, eval e X.env) :: starEach [] X.env := by rfl) (hplain : (backTo cpos (starEach [] X.env)).any (·.1) = false := by rfl) :
    AE X W (.Call (.Attribute a "index" apos) [e] [] cpos) (eMeth oIndexD f fs) := ae_meth PySem.F.slot_list_index PySem.F.type_list_index (mt_indexDA hu) ho ha hbase hfew hline hs hplain
/-! ### for .. in permutations(range(n)) -/
def permA (n : Nat) : List A := (List.range (PM.fct n)).map fun i => .tup ((PM.ix n i).map fun j : Nat => A.int (j : Int))
def permOf (p : Int × Int) (M : Store) : EO Src := if p.1 = 0 ∧ 1 ≤ p.2 ∧ p.2 ≤ 3 then .ok (.snap (permA p.2.toNat)) M else .bad
def iPerm (fr : ER) : EI := fun τ M => (fr τ M).bind permOf
theorem rowV_is {ρ : List Addr} {H : Hp} (n i : Nat) : IsAll ρ H ((PM.ix n i).map fun j : Nat => A.int (j : Int)) (PM.rowV n i) := by
  unfold PM.rowV
  generalize PM.ix n i = l
  induction l with
  | nil => exact .nil
  | cons j l ih => exact .cons (.int _) ih
theorem srcJ_pm {w : Amb} {ρ : List Addr} {H : Hp} {n : Nat} : SrcJ w ρ H (.snap (permA n)) (PM.ItPm n) := by
  intro ρ2 H2 M2 i x g m
  by_cases hi : i < PM.fct n
  · have e : (permA n)[i]? = some (.tup ((PM.ix n i).map fun j : Nat => A.int (j : Int))) := by unfold permA; simp [hi]
    simp only [Src.at, e]
    refine ⟨hi, fun v H3 ⟨a, e1, hn, e2⟩ => ?_⟩
    subst e1 e2
    exact ⟨.new hn, m.new hn, .tup upd_same (rowV_is n i)⟩
  · have e : (permA n)[i]? = none := by unfold permA; simp; omega
    simp only [Src.at, e]
    exact Nat.le_of_not_lt hi
theorem ai_perm {tg : Expr} {x : Str} {p : Pos} {fr : ER} (hc : X.calm = true) (hm : X.mg x = some (.type "itertools.permutations")) (he : AR X W e fr) (hg : Gl X x := by rfl) (hd : (x == ("__debug__" : Str)) = false := by decide) (na : starEach [e] X.env = (false, eval e X.env) :: starEach [] X.env := by rfl) :
    AI X W tg (.Call (.Name x p) [e] [] pos) (iPerm fr) := ⟨fun pins s σ H R I h => by
  have h1 := seqG relR h
  refine Call_ (ld_glob I hg hm (PyProof.Rows.callWith_type1 (args_cons (thn (he pins s σ H (fun a b H1 => tK (X.gx W.Tb) W relR (relJ (X.am W.Tb)) (fun τ => permOf) σ R (a, b) H1) I h1) fun xv s1 ⟨r, a, b, t, u, v, H1, ex, hr, I1, q⟩ => args_nil ?_) na) na) hd)
  obtain ⟨τ, M, ρ, c, rs, rm, i, r⟩ := q
  have i : c = (a, b) := i
  subst i ex
  have r2 : RE (X.gx W.Tb) W σ ρ H1 (relJ (X.am W.Tb)) (if a = 0 ∧ 1 ≤ b ∧ b ≤ 3 then .ok (.snap (permA b.toNat)) M else .bad) R := r
  clear r
  split at r2
  · rename_i hz
    obtain ⟨rfl, h1, h3⟩ := hz
    obtain ⟨n, rfl⟩ : ∃ n : Nat, b = (n : Int) := ⟨b.toNat, by omega⟩
    refine PM.call_pm (I1.ok.hd hc) hr (by omega) (by omega) fun hm h' tk it pool k1 k2 l1 l2 at0 => ?_
    have Im : Inv X pins σ H1 { s1 with heap := hm, toks := tk } := I1.kept (t' := tk) k1
    have I2 : Inv X pins σ H1 { s1 with heap := h', toks := tk } := I1.kept (t' := tk) fun b o e => k2 b o (k1 b o e)
    refine PM.pm_iter (s := { s1 with heap := h', toks := tk }) at0 ?_
    refine ⟨it, [it, pool], _, _, H1, rfl, I2, PM.turn_pm (by omega) (by omega) it pool, ⟨at0, Nat.zero_le _⟩, fun b hb => ?_, RE.okv (a := Src.snap (permA n)) (M := M) (rel := relJ (X.am W.Tb)) r2 (.refl _) (.refl _) rm srcJ_pm⟩
    have e : b = it ∨ b = pool := by simpa using hb
    have hle : hm.objs.size ≤ b := by
      rcases e with rfl | rfl
      · exact l1
      · exact l2
    have f := Im.fpOk (b := b) (H' := H1) hle (Im.hok.fresh hle)
    exact f
  · exact r2.elim⟩
end
end AB
/-! AB19: dicts whose keys are tuples of anything: d[k], {k: v for ..} -/
namespace AB
open PySem PySem.Spec PyProof.Rows L2
section
variable {X : Cx} {W : WR} {pos : Pos} {a b : Expr} {f g : EF} {pins : List (Addr × Obj)} {σ : L2.St} {H : Hp} {s : Shared} {ρ : List Addr} {M M' : Store} {E : Value → Shared → Prop}
/-! ### d[k] -/
def oNget : O2 := fun x k M => match x with
  | .dct d => match M[d]?, nkey? k with
    | some (.dN kvs), some (.tup js) => if (NestedKey.tup js).depth ≤ 8 then (valA kvs (.tup js)).map fun v => (v, M) else none
    | _, _ => none
  | _ => none
theorem n_get {d : Nat} {p : Addr} {kvs : List (NestedKey × A)} {js : List NestedKey} {kb : Addr} {v : A} {Q : Value → Shared → Prop} (hu : X.A.units + 9 < cLine) (I : L2.Inv X pins σ H s) (m : RM (X.am W.Tb) ρ H M) (hp : ρ[d]? = some p) (hc : M[d]? = some (.dN kvs))
    (ik : Is ρ H (ofN (.tup js)) (.ref kb)) (hd : (NestedKey.tup js).depth ≤ 8) (hv : valA kvs (.tup js) = some v) (q : ∀ u s' y, L2.Inv X pins σ H s' → Is ρ H v y → RelV y u → Q u s') :
    s.TypeIs (.ref p) "dict" ∧ wpAny (model X.prog X.w) X.A (getItem (.ref p) (.ref kb)) Q E s := by
  obtain ⟨bs, vs, us', hh, iks, ivs, dp, rv, l1, l3, hsz, hsm, hnd, D⟩ := nest_dict I m hp hc
  have keyIs : (nestedKind X.prog X.w).is s.heap (.tup js) kb := ⟨nested_of I.hok _ _ _ ik rfl, hd⟩
  rcases rowsN_at (k := .tup js) l1 ivs rv with ⟨e1, _⟩ | ⟨z, zv, b', u', e1, e2, iz, rz⟩
  · rw [hv] at e1; cases e1
  · rw [hv] at e1; cases e1
    refine ⟨D.typeIs, wpAny_getItem_heap (by show X.A.units + 1 + 8 < cLine; omega) keyIs D e2 (q _ _ _ (I.tok _) iz rz)⟩
theorem ae_nget (hu : X.A.units + 9 < cLine) (ha : AE X W a f) (hb : AE X W b g) (hs : NoSl b := by intro _ _; rfl) : AE X W (.Subscript a b pos) (eOp oNget f g) := ⟨fun pins s σ H Q I h => by
  have h := op_tK h
  refine subD_of PySem.F.slot_dict_getitem.lookup hs (thn (ha.run pins s σ H _ I h) fun u s1 ⟨x, H1, I1, rx, q1⟩ => thn (hb.run pins s1 σ H1 _ I1 q1) fun iv s2 ⟨y, H2, I2, ry, c, k, M, ρ, ic, ik, m, ro⟩ => ?_)
  unfold oNget at ro
  cases c with
  | dct d =>
    dsimp only at ro
    split at ro
    · rename_i kvs js ec ek
      split at ro
      · rename_i hd
        cases ev : valA kvs (.tup js) with
        | none => rw [ev] at ro; exact ro.elim
        | some v =>
          rw [ev] at ro
          cases ic with
          | dct hp =>
            cases rx
            have ik : Is ρ H2 (ofN (.tup js)) y := by rw [nkey_of _ _ ek]; exact ik
            obtain ⟨kb, rfl⟩ : ∃ kb, y = .ref kb := by simp only [ofN] at ik; cases ik with | tup h1 h2 => exact ⟨_, rfl⟩
            cases ry
            exact n_get hu I2 m hp ec ik hd ev fun u s' y I' iy ry => ⟨y, H2, I', ry, RO.val (ρ := ρ) (M := M) ro m iy⟩
      · exact ro.elim
    · exact ro.elim
  | _ => exact ro.elim⟩
/-! ### d[k] = v, a new key -/
def nPut (M : Store) (l : Nat) (k y : A) : Option Store := match M[l]?, nkey? k with
  | some (.dN kvs), some (.tup js) => if (NestedKey.tup js).depth ≤ 8 ∧ kvs.length < sizeLine ∧ (valA kvs (.tup js)).isNone = true then some (M.set l (.dN (kvs ++ [(.tup js, y)]))) else none
  | _, _ => none
theorem n_put {l : Nat} {p : Addr} {k y : A} {kv yv : V} {u1 u2 : Value} {Q : Unit → Shared → Prop} (hu : X.A.units + 9 < cLine) (I : L2.Inv X pins σ H s) (m : RM (X.am W.Tb) ρ H M) (hp : ρ[l]? = some p) (ik : Is ρ H k kv) (iy : Is ρ H y yv) (rk : RelV kv u1) (ry : RelV yv u2)
    (e : nPut M l k y = some M') (q : ∀ H' s', L2.Inv X pins σ H' s' → Grow H H' → RM (X.am W.Tb) ρ H' M' → (∀ b, b ≠ p → H' b = H b) → Q () s') : wpAny (model X.prog X.w) X.A (dictSet p u1 u2) Q E s := by
  unfold nPut at e
  split at e
  · rename_i kvs js ec ek
    split at e
    · rename_i hz
      obtain ⟨z1, z2, z3⟩ := hz
      cases e
      have ik : Is ρ H (ofN (.tup js)) kv := by rw [nkey_of _ _ ek]; exact ik
      obtain ⟨kb, rfl⟩ : ∃ kb, kv = .ref kb := by simp only [ofN] at ik; cases ik with | tup h1 h2 => exact ⟨_, rfl⟩
      cases rk
      obtain ⟨bs, vs, us', hh, iks, ivs, dp, rv, l1, l3, hsz, hsm, hnd, D⟩ := nest_dict I m hp ec
      have keyIs : (nestedKind X.prog X.w).is s.heap (.tup js) kb := ⟨nested_of I.hok _ _ _ ik rfl, z1⟩
      have rl : (rowsN (kvs.map (·.1)) bs us').length = kvs.length := by rw [rowsN_len (by simpa using l1) (by simpa using l3)]; simp
      have hno : atKey (rowsN (kvs.map (·.1)) bs us') (.tup js) = none := by
        rcases rowsN_at (k := .tup js) l1 ivs rv with ⟨_, e2⟩ | ⟨z, zv, b', u', e1, _⟩
        · exact e2
        · rw [e1] at z3; cases z3
      refine wpAny_dictSet_heap (hsz := by rw [rl]; exact hsz) (knd := nestedKind X.prog X.w) (by show X.A.units + 8 < cLine; omega) keyIs D fun h' D' sb => ?_
      have hk1 : (kvs.map (·.1)).length = bs.length := by simpa using l1
      have hv1 : (kvs.map (·.1)).length = us'.length := by simpa using l3
      rw [storedH_new hno, ← rowsN_append hk1 hv1] at D'
      obtain ⟨o, es, ep, ho, hx, hdt, he, _, hn2⟩ := D'
      have zk : (kvs.map (·.1) ++ [NestedKey.tup js]).zip (bs ++ [kb]) = ((kvs ++ [(NestedKey.tup js, y)]).map (·.1)).zip (bs ++ [kb]) := by rw [List.map_append]; rfl
      have lk : (kvs.map (·.1) ++ [NestedKey.tup js]).length = (bs ++ [kb]).length := by simp [l1]
      have fstk : ((kvs.map (·.1) ++ [NestedKey.tup js]).zip (bs ++ [kb])).map (·.1) = kvs.map (·.1) ++ [NestedKey.tup js] := map_zip_fst lk
      have new : ObjOk X.prog X.w (upd H p (nestO X.w p ((kvs.map (·.1) ++ [NestedKey.tup js]).zip (bs ++ [kb])) (vs ++ [yv]))) h' p (nestO X.w p ((kvs.map (·.1) ++ [NestedKey.tup js]).zip (bs ++ [kb])) (vs ++ [yv])) := by
        refine ⟨⟨?_, hsm, ?_, ?_, us' ++ [u2], rv.append (.cons ry .nil), o, es, ep, ho, hx, hdt, he.trans rowsN_entries.symm⟩, ⟨o, ho⟩, ?_⟩
        · simp only [List.length_zip, List.length_append, List.length_map, List.length_singleton]; omega
        · have := rv.length
          simp only [List.length_zip, List.length_append, List.length_map, List.length_singleton]; omega
        · rw [fstk]
          rw [rowsN_keys lk (by simp [l3])] at hn2
          exact hn2
        · rintro h1 h2 ⟨q1, q2, q3, q4, us, q5, o, es, ep, q6, q7⟩ k
          exact ⟨q1, q2, q3, q4, us, q5, o, es, ep, k o q6, q7⟩
      have I2 := I.write (e := p) (t' := s.toks + (nestedKind X.prog X.w).draws (.tup js)) (by rw [hh]; trivial) (.inl rfl) (fun b u hb hu' => (sb.2 b hb).trans hu') ⟨o, ho⟩ new
      have g := m.growSet (o := nestO X.w p ((kvs.map (·.1) ++ [NestedKey.tup js]).zip (bs ++ [kb])) (vs ++ [yv])) hp ec
      refine q _ _ I2 g (m.set hp ec ⟨bs ++ [kb], vs ++ [yv], by rw [upd_same, zk], ?_, ?_, ?_⟩) fun b hb => upd_ne hb
      · rw [List.map_append, List.map_append]
        exact (iks.mono (.refl _) g).append (.cons (ik.mono (.refl _) g) .nil)
      · rw [List.map_append]
        exact (ivs.mono (.refl _) g).append (.cons (iy.mono (.refl _) g) .nil)
      · intro kv hkv
        rcases List.mem_append.mp hkv with q | q
        · exact dp kv q
        · simp at q; subst q; exact z1
    · cases e
  · cases e
/-! ### {k: v for .. in ..} -/
def dcA (src : Src) (t : Tgt) (ft : EFb) (fk fe : EF) (l : Nat) (τ : Sl) : Nat → Nat → Store → EO A
  | 0, _, _ => .bad
  | n + 1, i, M => match src.at M i with
    | none => .bad
    | some none => .ok (.dct l) M
    | some (some x) => match t.set x τ with
      | none => .bad
      | some τ1 => match ft τ1 M with
        | .ok true M1 => match fk τ1 M1 with
          | .ok k M2 => match fe τ1 M2 with
            | .ok y M3 => match nPut M3 l k y with
              | some M4 => dcA src t ft fk fe l τ n (i + 1) M4
              | none => .bad
            | _ => .bad
          | _ => .bad
        | .ok false M1 => dcA src t ft fk fe l τ n (i + 1) M1
        | _ => .bad
def eDc (fi : EI) (t : Tgt) (ft : EFb) (fk fe : EF) (own : List Nat) : EF := fun τ M => (fi τ M).bind fun src M1 => dcA src t ft fk fe M1.length (wipeA τ own) (src.size M1) 0 (M1 ++ [.dN []])
theorem dc_core_n (own : List (Str × Nat)) {kx vx tg iter : Expr} {ifs : List Expr} {scope : Scope} {fi : EI} {t : Tgt} {ft : EFb} {fk fe : EF} {pos' : Pos} {use : Option (Value → Sem Unit)} {Qf : Value → Shared → Prop} {Q : VK} (hu : X.A.units + 9 < cLine) (hc : X.calm = true) (hN : X.N.Nodup) (ok : BlkOk X.N X.env.scope scope own) (ho : ∀ i ∈ t.own, i ∈ own.map (·.2)) (hi : AI X W tg iter fi)
    (hg : ∀ (s : Shared) (H : Hp) (C : Addr) (cl : List (Str × Addr)) (fp : List Addr), AG (X.blk s H scope (compEnvC scope cl C X.env) fp) tg t) (ht : ∀ (s : Shared) (H : Hp) (C : Addr) (cl : List (Str × Addr)) (fp : List Addr), ATs (X.blk s H scope (compEnvC scope cl C X.env) fp) W.nx ifs ft)
    (hk : ∀ (s : Shared) (H : Hp) (C : Addr) (cl : List (Str × Addr)) (fp : List Addr), AE (X.blk s H scope (compEnvC scope cl C X.env) fp) W.nx kx fk)
    (he : ∀ (s : Shared) (H : Hp) (C : Addr) (cl : List (Str × Addr)) (fp : List Addr), AE (X.blk s H scope (compEnvC scope cl C X.env) fp) W.nx vx fe) (hs : ∀ x, foldedSetIterable iter X.env x = pure x)
    (I : L2.Inv X pins σ H s) (h : tG (X.gx W.Tb) W Is (eDc fi t ft fk fe (own.map (·.2))) σ H Q)
    (hend : ∀ D C s' m H', L2.Inv X pins σ H' s' → Q (.ref D) H' → s'.heap.Ns C m → FpOk X pins H' C → compPost (model X.prog X.w) X.A X.xe use Qf (.ref D) C (.ok .next) s') :
    wpAny (model X.prog X.w) X.A (comprehension (.DictComp kx vx [⟨tg, iter, ifs, 0⟩] scope pos) scope X.env pos' newDict false (eval iter X.env) use) Qf X.xe s := by
  have fr : ∀ y ∈ scope.names, y.2 = .free → ∃ c, X.env.cells.lookup y.1 = some c := by
    intro y hy e
    exact (ok.free y hy e).elim (fun k => I.ok.has _ (.inl k)) fun k => I.ok.has _ (.inr k)
  refine wpAny_comprehension_free (use := use) rfl hs (closure_ok fr) ok.kind (fun y hy e => by rw [ok.uniq y hy, e]) (thn (hi.run pins s σ H _ I (seqG (relJ (X.am W.Tb)) h)) fun xv s1 hx => thn hx fun itv s2 h2 => ?_)
  obtain ⟨it, fp, tn, J, H2, rfl, I2, T, st2, f2, τ, M, ρ, src, rs, rm, ij, r⟩ := h2
  refine wpAny_newObj_type (newEnv_comp ?_)
  -- the new dict
  generalize hD : s2.heap.objs.size = D
  have nD : H2 D = none := I2.hok.fresh (Nat.le_of_eq hD)
  have big : s2.heap.objs.size ≠ sysModules := Ne.symm (Nat.ne_of_lt I2.big)
  generalize hz : ({ s2 with heap := s2.heap.push { cls := .type "dict", data := .dict #[] } } : Shared) = z
  have hzh : z.heap = s2.heap.push { cls := .type "dict", data := .dict #[] } := by rw [← hz]
  have I3 : L2.Inv X pins σ (upd H2 D (nestO X.w D [] [])) z := by
    subst hz hD
    refine I2.laid (a := s2.heap.objs.size) (t' := s2.toks) (fun _ _ q => Heap.get?_push_of_some _ q) (Nat.le_refl _) ⟨⟨Nat.zero_le _, beq_eq_false_iff_ne.mpr big, rfl, List.nodup_nil, [], .nil, _, #[], 0, Heap.get?_push_size _ rfl, ⟨rfl, rfl, rfl⟩, rfl, rfl⟩, ⟨_, Heap.get?_push_size _ rfl⟩, ?_⟩
    rintro h1 h2 ⟨q1, q2, q3, q4, us, q5, o, es, ep, q6, q7⟩ k
    exact ⟨q1, q2, q3, q4, us, q5, o, es, ep, k o q6, q7⟩
  generalize hG : upd H2 D (nestO X.w D [] []) = G at I3
  have g0 : Grow H2 G := by subst hG; exact .new nD
  have m0 : RM (X.am W.Tb) (ρ ++ [D]) G (M ++ [.dN []]) := by
    subst hG
    exact rm.push nD ⟨[], [], upd_same, .nil, .nil, fun _ z => by cases z⟩
  have hl0 : (ρ ++ [D])[M.length]? = some D := by rw [← rm.len]; simp
  have old : ∀ b ∈ fp, b < s2.heap.objs.size := fun b hb => by
    obtain ⟨o, e, _⟩ := T.obj _ _ st2 b hb
    exact Heap.lt_size e
  have fG : ∀ b ∈ fp, FpOk X pins G b ∧ b < z.heap.objs.size := fun b hb => by
    refine ⟨⟨?_, (f2 b hb).2⟩, by rw [hzh, Heap.size_push]; exact Nat.lt_succ_of_lt (old b hb)⟩
    rw [← hG, upd_ne (by rw [← hD]; exact Nat.ne_of_lt (old b hb))]
    exact (f2 b hb).1
  have I4 := block_start I3 ok hN fG
  have stz : tn 0 z.heap := T.keep _ _ _ st2 fun b _ o e => by rw [hzh]; exact Heap.get?_push_of_some _ e
  have ag := hg z G z.heap.objs.size (cellsFrom (z.heap.objs.size + 1) scope.names (cloFrom X.env.cells scope.names [])) fp
  have at' := ht z G z.heap.objs.size (cellsFrom (z.heap.objs.size + 1) scope.names (cloFrom X.env.cells scope.names [])) fp
  have ak := hk z G z.heap.objs.size (cellsFrom (z.heap.objs.size + 1) scope.names (cloFrom X.env.cells scope.names [])) fp
  have av := he z G z.heap.objs.size (cellsFrom (z.heap.objs.size + 1) scope.names (cloFrom X.env.cells scope.names [])) fp
  show codeAny _ _ (.compStart (.DictComp kx vx [⟨tg, iter, ifs, 0⟩] scope pos) 0 (.ref it) (.ref D) (compEnvC scope (cellsFrom (z.heap.objs.size + 1) scope.names (cloFrom X.env.cells scope.names [])) z.heap.objs.size X.env)) (compPost (model X.prog X.w) X.A X.xe use Qf (.ref D) z.heap.objs.size) { z with heap := pushCells (z.heap.push { cls := .type "dict", data := .dict #[] }) scope.names }
  generalize hce : compEnvC scope (cellsFrom (z.heap.objs.size + 1) scope.names (cloFrom X.env.cells scope.names [])) z.heap.objs.size X.env = ce at I4 ag at' ak av ⊢
  have ceL : ce.locals = z.heap.objs.size := by subst hce; rfl
  generalize hy : ({ z with heap := pushCells (z.heap.push { cls := .type "dict", data := .dict #[] }) scope.names } : Shared) = y at I4 ⊢
  have sty : tn 0 y.heap := T.keep _ _ _ stz fun b _ o e => by rw [← hy]; exact pushCells_keeps _ _ _ _ (Heap.get?_push_of_some _ e)
  have nG : ∀ b ∈ fp, G b = none := fun b hb => (fG b hb).1.1
  have r : RE (X.gx W.Tb) W σ ρ H2 Is (dcA src t ft fk fe M.length (wipeA τ (own.map (·.2))) (src.size M) 0 (M ++ [.dN []])) Q := r
  generalize hM : M.length = l at r hl0
  generalize M ++ [Cell.dN []] = M0 at r m0
  have fpo : ∀ {σ' : L2.St} {H' : Hp} {s' : Shared}, L2.Inv (X.blk z G scope ce fp) [] σ' H' s' → (∀ b ∈ fp, H' b = none) → ∀ b ∈ fp, FpOk (X.blk z G scope ce fp) [] H' b := by
    intro σ' H' s' I' hn b hb
    refine ⟨hn b hb, (I'.ok.exf b hb).1, I'.ok.exfs b hb, .inl hb, fun x c e => (I'.ok.exf b hb).2 x c e, fun p hp => ?_⟩
    exact absurd (show p ∈ ([] : List (Addr × Obj)) ++ [] from hp) (by simp)
  have loop : codeAny (model X.prog X.w) X.A (.compLoop (.DictComp kx vx [⟨tg, iter, ifs, 0⟩] scope pos) 0 (.ref it) (.ref D) ce) (compPost (model X.prog X.w) X.A X.xe use Qf (.ref D) z.heap.objs.size) y := by
    refine compLoop_anyD (fun n s' => ∃ i H' M' ρ', L2.Inv (X.blk z G scope ce fp) [] (L2.wipe σ (own.map (·.2))) H' s' ∧ tn i s'.heap ∧ (∀ b ∈ fp, H' b = none) ∧ Ext (ρ ++ [D]) ρ' ∧ Grow H2 H' ∧ RM (X.am W.Tb) ρ' H' M' ∧ RE (X.gx W.Tb) W σ ρ' H' Is (dcA src t ft fk fe l (wipeA τ (own.map (·.2))) n i M') Q)
      ?_ (src.size M) ⟨0, G, M0, ρ ++ [D], I4, sty, nG, .refl _, g0, m0, RE.mono r (.snoc _ _) g0⟩
    rintro n s5 ⟨i, H5, M5, ρ5, I5, st5, n5, x5, g5, m5, r5⟩
    have xx : Ext ρ ρ5 := (Ext.snoc ρ D).trans x5
    cases n with
    | zero => exact r5.elim
    | succ n =>
      unfold dcA at r5
      have jj := ij ρ5 H5 M5 i xx g5 m5
      cases ea : src.at M5 i with
      | none => rw [ea] at r5; exact r5.elim
      | some o =>
        cases o with
        | none =>
          rw [ea] at r5 jj
          have td := T.done (X.blk z G scope ce fp) rfl rfl rfl hc i [] s5 _ H5 (fun _ _ => False) I5 (fpo I5 n5) st5 jj
          refine thnF td fun rr s6 ⟨hr, I6⟩ => ?_
          subst hr
          have I7 : L2.Inv X pins σ H5 s6 := I3.call' (ch := fp) I6.os I6.base I6.hok I6.bare fun b hb => by
            obtain ⟨⟨f0, f1, f2, f3, f4, f5⟩, _⟩ := fG b hb
            exact ⟨f3, f1, f4, f5⟩
          have nC : H5 z.heap.objs.size = none := by
            have q : H5 ce.locals = none := I6.free
            rwa [ceL] at q
          obtain ⟨mm, hn, _⟩ := I6.loc
          have hn : s6.heap.Ns ce.locals mm := hn
          rw [ceL] at hn
          exact hend D z.heap.objs.size s6 mm H5 I7 (RE.okv (a := A.dct l) (M := M5) (rel := Is) r5 (.refl _) (.refl _) m5 (.dct (x5.get hl0))) hn (I3.fpOk (Nat.le_refl _) nC)
        | some a =>
          rw [ea] at r5 jj
          obtain ⟨go, yy⟩ := jj
          dsimp only at r5
          have ti := T.item (X.blk z G scope ce fp) rfl rfl rfl hc i [] s5 _ H5 (fun _ _ => False) I5 (fpo I5 n5) st5 go
          refine thnF ti fun rr s6 ⟨u, hr, h6⟩ => ?_
          subst hr
          refine thnF h6 fun _ s7 ⟨x, H7, I7, r7, y7, st7, n7⟩ => ?_
          obtain ⟨g7, m7, ia⟩ := yy x H7 y7
          have P7 := I7.pinned (fpo I7 n7) (T.obj _ _ st7)
          have g57 := g5.trans g7
          cases et : t.set a (wipeA τ (own.map (·.2))) with
          | none => rw [et] at r5; exact r5.elim
          | some τ1 =>
            rw [et] at r5
            dsimp only at r5
            have r5 := RE.mono r5 (.refl _) g7
            refine thnF (ag.run _ s7 _ H7 x u (fun σ1 H' => H' = H7 ∧ RS W.nx ρ5 H7 τ1 σ1 ∧ L2.wipe σ1 (own.map (·.2)) = L2.wipe σ (own.map (·.2))) P7 r7 ?_) fun _ s8 ⟨σ1, H8, I8, e8, rs1, ew⟩ => ?_
            · refine ⟨a, wipeA τ (own.map (·.2)), ρ5, τ1, ia, ((rs.mono xx g57).wipe _).s, et, fun σ1 q1 sb => ⟨rfl, ⟨(rs.mono xx g57).ext, (rs.mono xx g57).grow, q1⟩, ?_⟩⟩
              rw [sb.wipe ho]
              exact wipe_wipe σ _
            subst e8
            -- a turn's end
            have fin : ∀ {s' : Shared} {H' : Hp} {M' : Store} {ρ' : List Addr}, L2.Inv (X.blk z G scope ce fp) ([] ++ pinsAt fp s7.heap) σ1 H' s' → Ext (ρ ++ [D]) ρ' → Grow H2 H' → RM (X.am W.Tb) ρ' H' M' → RE (X.gx W.Tb) W σ ρ' H' Is (dcA src t ft fk fe l (wipeA τ (own.map (·.2))) n (i + 1) M') Q →
                ∃ m, m < n + 1 ∧ ∃ i H' M' ρ', L2.Inv (X.blk z G scope ce fp) [] (L2.wipe σ (own.map (·.2))) H' s' ∧ tn i s'.heap ∧ (∀ b ∈ fp, H' b = none) ∧ Ext (ρ ++ [D]) ρ' ∧ Grow H2 H' ∧ RM (X.am W.Tb) ρ' H' M' ∧ RE (X.gx W.Tb) W σ ρ' H' Is (dcA src t ft fk fe l (wipeA τ (own.map (·.2))) m i M') Q := by
              intro s' H' M' ρ' I' x' g' m' r'
              have pin' : ∀ b ∈ fp, ∀ o, s7.heap.get? b = some o → s'.heap.get? b = some o ∧ H' b = none := fun b hb o e => by
                have q := I'.pin (b, o) (List.mem_append_right _ (List.mem_append_right _ (mem_pinsAt hb e)))
                exact ⟨q.1, q.2.1⟩
              refine ⟨n, Nat.lt_succ_self n, i + 1, H', M', ρ', (I'.unpinned (pins := [])).weak (by rw [← ew, wipe_length]) (fun j v e => ?_), T.keep _ _ _ st7 (fun b hb o e => (pin' b hb o e).1), fun b hb => ?_, x', g', m', r'⟩
              · rw [← ew] at e
                exact (wipe_some e).1
              · obtain ⟨o, e, _⟩ := T.obj _ _ st7 b hb
                exact (pin' b hb o e).2
            refine thnF (at'.run _ s8 σ1 H8 (fun k H' => ∃ M' ρ', ft τ1 M5 = .ok k M' ∧ Ext ρ5 ρ' ∧ Grow H8 H' ∧ RM (X.am W.Tb) ρ' H' M') I8 ?_) fun k s9 ⟨H9, I9, M9, ρ9, e9, x9, g9, m9⟩ => ?_
            · refine ⟨τ1, M5, ρ5, rs1, m7, ?_⟩
              cases e1 : ft τ1 M5 with
              | ok k M1 =>
                intro k' H' ρ' x g m ik
                have ik : k = k' := ik
                subst ik
                exact ⟨M1, ρ', rfl, x, g, m⟩
              | ex en M1 => rw [e1] at r5; exact r5.elim
              | bad => rw [e1] at r5; exact r5.elim
            rw [e9] at r5
            cases k with
            | false =>
              simp only [Bool.false_eq_true, if_false]
              dsimp only at r5
              exact fin I9 (x5.trans x9) (g57.trans g9) m9 (RE.mono r5 x9 g9)
            | true =>
              simp only [if_true]
              dsimp only at r5
              refine thnF (ak.run _ s9 σ1 H9 (fun kv H' => ∃ k M' ρ', fk τ1 M9 = .ok k M' ∧ Ext ρ9 ρ' ∧ Grow H9 H' ∧ RM (X.am W.Tb) ρ' H' M' ∧ Is ρ' H' k kv) I9 ?_) fun u1 sa ⟨kv, Ha, Ia, ra, k, Ma, ρa, ea', xa, ga, ma, ik⟩ => ?_
              · refine ⟨τ1, M9, ρ9, rs1.mono x9 g9, m9, ?_⟩
                cases e1 : fk τ1 M9 with
                | ok k M1 =>
                  intro k' H' ρ' x g m ik
                  exact ⟨k, M1, ρ', rfl, x, g, m, ik⟩
                | ex en M1 => rw [e1] at r5; exact r5.elim
                | bad => rw [e1] at r5; exact r5.elim
              rw [ea'] at r5
              dsimp only at r5
              refine thnF (av.run _ sa σ1 Ha (fun yv H' => ∃ y M' ρ', fe τ1 Ma = .ok y M' ∧ Ext ρa ρ' ∧ Grow Ha H' ∧ RM (X.am W.Tb) ρ' H' M' ∧ Is ρ' H' y yv) Ia ?_) fun u2 sb ⟨yv, Hb, Ib, rb, yA, Mb, ρb, eb, xb, gb, mb, iy⟩ => ?_
              · refine ⟨τ1, Ma, ρa, (rs1.mono x9 g9).mono xa ga, ma, ?_⟩
                cases e1 : fe τ1 Ma with
                | ok k M1 =>
                  intro k' H' ρ' x g m ik
                  exact ⟨k, M1, ρ', rfl, x, g, m, ik⟩
                | ex en M1 => rw [e1] at r5; exact r5.elim
                | bad => rw [e1] at r5; exact r5.elim
              rw [eb] at r5
              dsimp only at r5
              cases ep : nPut Mb l k yA with
              | none => rw [ep] at r5; exact r5.elim
              | some Mc =>
                rw [ep] at r5
                dsimp only at r5
                have hbD : ρb[l]? = some D := xb.get (xa.get (x9.get (x5.get hl0)))
                refine n_put (X := X.blk z G scope ce fp) hu Ib mb hbD (ik.mono xb gb) iy ra rb ep fun Hc sc Ic gc mc _ => ?_
                exact fin Ic (x5.trans (x9.trans (xa.trans xb))) ((((g57.trans g9).trans ga).trans gb).trans gc) mc (RE.mono r5 (x9.trans (xa.trans xb)) (((g9.trans ga).trans gb).trans gc))
  exact codeAny_compStart_dict loop (T.self X.A 0 _ _ _ sty loop)
theorem ae_dc (own : List (Str × Nat)) {kx vx tg iter : Expr} {ifs : List Expr} {scope : Scope} {fi : EI} {t : Tgt} {ft : EFb} {fk fe : EF} (hu : X.A.units + 9 < cLine) (hc : X.calm = true) (hN : X.N.Nodup) (ok : BlkOk X.N X.env.scope scope own) (ho : ∀ i ∈ t.own, i ∈ own.map (·.2)) (hi : AI X W tg iter fi)
    (hg : ∀ (s : Shared) (H : Hp) (C : Addr) (cl : List (Str × Addr)) (fp : List Addr), AG (X.blk s H scope (compEnvC scope cl C X.env) fp) tg t) (ht : ∀ (s : Shared) (H : Hp) (C : Addr) (cl : List (Str × Addr)) (fp : List Addr), ATs (X.blk s H scope (compEnvC scope cl C X.env) fp) W.nx ifs ft)
    (hk : ∀ (s : Shared) (H : Hp) (C : Addr) (cl : List (Str × Addr)) (fp : List Addr), AE (X.blk s H scope (compEnvC scope cl C X.env) fp) W.nx kx fk)
    (he : ∀ (s : Shared) (H : Hp) (C : Addr) (cl : List (Str × Addr)) (fp : List Addr), AE (X.blk s H scope (compEnvC scope cl C X.env) fp) W.nx vx fe) (hs : ∀ x, foldedSetIterable iter X.env x = pure x := by intro _; rfl) :
    AE X W (.DictComp kx vx [⟨tg, iter, ifs, 0⟩] scope pos) (eDc fi t ft fk fe (own.map (·.2))) := ⟨fun pins s σ H Q I h => by
  rw [arm_eval_DictComp]
  refine dc_core_n own hu hc hN ok ho hi hg ht hk he hs I h fun D C s' m H' I' q hn f => ⟨m, hn, fun h'' sb => ?_⟩
  obtain ⟨f0, f1, f2, f3, f4, f5⟩ := f
  exact ⟨.ref D, H', I'.turned (t' := s'.toks) (fun b o hb e => (sb.2 b hb).trans e) f0 f1 f3 f4 f5, rfl, q⟩⟩
theorem sw_trueD {kx vx : Expr} {gs : List Comprehension} {scope : Scope} {pos py : Pos} {y : Str} {l : Nat} {env : Env} (hk : env.scope.kind = .function) (hy : env.scope.names.lookup y = some .local) (hl : (py.line == pos.line) = true)
    (ha : (scope.names.any fun (n, k) => n == y && (k == .local || k == .cell)) = false) : swapsWith (.DictComp kx vx gs scope pos) (some (.Name y py)) l env = pure true := by
  have k1 : env.kindOf y = some .local := hy
  have k2 : env.blockKind = .function := by unfold Env.blockKind; rw [hk]; rfl
  unfold swapsWith
  simp only [k2, k1, ha, Expr.pos, hl]
  rfl
theorem as_setDc (i : Nat) (own : List (Str × Nat)) {y : Str} {py spos : Pos} {kx vx tg iter : Expr} {ifs : List Expr} {scope : Scope} {fi : EI} {t : Tgt} {ft : EFb} {fk fe : EF} (hu : X.A.units + 9 < cLine) (hc : X.calm = true) (hN : X.N.Nodup) (hsw : swapsWith (.DictComp kx vx [⟨tg, iter, ifs, 0⟩] scope pos) (some (.Name y py)) spos.line X.env = pure true) (ok : BlkOk X.N X.env.scope scope own) (ho : ∀ i ∈ t.own, i ∈ own.map (·.2)) (hi : AI X W tg iter fi)
    (hg : ∀ (s : Shared) (H : Hp) (C : Addr) (cl : List (Str × Addr)) (fp : List Addr), AG (X.blk s H scope (compEnvC scope cl C X.env) fp) tg t) (ht : ∀ (s : Shared) (H : Hp) (C : Addr) (cl : List (Str × Addr)) (fp : List Addr), ATs (X.blk s H scope (compEnvC scope cl C X.env) fp) W.nx ifs ft)
    (hk : ∀ (s : Shared) (H : Hp) (C : Addr) (cl : List (Str × Addr)) (fp : List Addr), AE (X.blk s H scope (compEnvC scope cl C X.env) fp) W.nx kx fk)
    (he : ∀ (s : Shared) (H : Hp) (C : Addr) (cl : List (Str × Addr)) (fp : List Addr), AE (X.blk s H scope (compEnvC scope cl C X.env) fp) W.nx vx fe) (hy : X.N[i]? = some y := by rfl) (hyl : X.env.scope.names.lookup y = some .local := by rfl) (hs : ∀ x, foldedSetIterable iter X.env x = pure x := by intro _; rfl) :
    AS X W (.Assign [.Name y py] (.DictComp kx vx [⟨tg, iter, ifs, 0⟩] scope pos) spos) (sAsg (.nm i) (eDc fi t ft fk fe (own.map (·.2)))) := ⟨fun pins s σ H D I h => by
  have h1 := asg_tK h
  rw [exec_Assign_Name_used _ _ _ _ hsw]
  refine wpAny_bind (wpAny_standAt (wpAny_bind ?_))
  show wpAny _ X.A (do let _ ← comprehension (.DictComp kx vx [⟨tg, iter, ifs, 0⟩] scope pos) scope X.env (firstIterPos [⟨tg, iter, ifs, 0⟩] pos) newDict false (eval iter X.env) (some (assign (.Name y py) X.env))) _ _ s
  refine wpAny_bind (thn (dc_core_n (Qf := fun _ s' => SP X pins D .next s') own hu hc hN ok ho hi hg ht hk he hs I h1 fun L C s' m H' I' q hn f => ?_) fun _ s' hq => wpAny_pure (wpAny_pure hq))
  show wpAny _ _ (assign (.Name y py) X.env (.ref L)) _ _ _
  obtain ⟨a, τ, ρ, τ', ia, rs, e, q⟩ := q
  simp only [Tgt.set] at e
  cases e
  refine wpAny_assign_Name (store_ok2 (v := V.ref L) I' hN hy (.inl hyl) rfl (fun s2 I2 ⟨b, sb, hb⟩ => ?_) (.inr hyl))
  obtain ⟨f0, f1, f2, f3, f4, f5⟩ := f
  have nb : C ≠ b := by
    rcases hb with z | z
    · rw [z]; exact f1
    · exact fun e => f4 y b z e.symm
  refine ⟨m, hn.sameBut sb nb, fun h3 sb3 => ?_⟩
  refine ⟨_, H', I2.turned (t' := s2.toks) (fun b o hb e => (sb3.2 b hb).trans e) f0 f1 f3 f4 f5, q _ (rs.set ia i) ⟨by simp, fun j hj => ?_⟩⟩
  rw [List.getElem?_set_ne (by intro z; exact hj (by simp [Tgt.own, z]))]⟩
end
end AB
/-! AB20: enumerate(t, start=k), t a tuple -/
namespace EK
open PySem PySem.Spec PyProof.Rows L2
theorem callWith_type_kw {M : Model} {A : Around} {E : Value → Shared → Prop} {s : Shared} {pos : Pos} {T : String} {args : List (Bool × Sem Value)} {kws : List (Option Str × Sem Value)} {Q : Value → Shared → Prop} (hplain : args.any (·.1) = false) (hkw : kws.any (·.1.isNone) = false)
    (h : wpAny M A (evalArgs (.type T) true args kws) (fun z s₁ => wpAny M A (call (.type T) z.pos z.kw) Q E s₁) E s) : wpAny M A (callWith pos (.type T) [] args kws) Q E s := by
  unfold callWith
  refine wpAny_bind (wpAny_holding (thn h fun z s₁ h₁ => wpAny_bind (wpAny_standAt ?_)))
  simp only [hplain, hkw, Bool.or_false]
  exact wpAny_bind (wpAny_pure (wpAny_bind (thn h₁ fun r s₂ hr => wpAny_bind (wpAny_holding (wpAny_point (wpAny_pure hr))))))
theorem enum_end_c {prog : Program} {w : World} {A : Around} {E : Value → Shared → Prop} {s : Shared} {e it l : Addr} {i : Nat} {c : Int} {items : Array Value} {old : Value} {Q : Option Value → Shared → Prop} (hh : A.handled = none)
    (he : IsEnum s.heap e it c old) (hit : s.heap.IsTupleIter it l i) (hl : s.heap.IsTuple l items) (hx : items[i]? = none)
    (hQ : ∀ h', Heap.ExtBut it s.heap h' → Q none { s with heap := h' }) : wpAny (model prog w) A (pyNext (.ref e)) Q E s := by
  have hT : s.TypeIs (.ref e) "enumerate" := ⟨_, he, rfl⟩
  unfold pyNext
  refine wpAny_bind (wpAny_attempt (wpAny_callSpecial?_slot (name := Str.ofString "__next__") hT F.slot_enumerate_next
    (wpAny_call_entry F.slot_enumerate_next hT F.entry_enumerate_next ?_ (F.args_enumerate_next_1 _))))
  show wpAny _ _ (field (.ref e) 2 >>= _) _ _ _
  refine wpAny_bind (wpAny_field he rfl (x := .ref it) rfl ?_)
  refine wpAny_bind (wpAny_nextOf_tuple_end (by first | exact hh | (show A.in1.handled = none; exact hh)) hit hl hx fun h' x he' hx' => ?_)
  obtain ⟨o, ho, hc⟩ := hx'
  refine wpAny_bind (wpAny_isInstance (T := "StopIteration") (b := true) ⟨o, ho, hc⟩ isSubtype_stop ?_)
  exact wpAny_pure (hQ _ he')
def ItK (K : PySem.W.Frag) (a : Addr) (k : Int) : It :=
  ⟨fun i H => ∃ (xs : List V) (x : V), SqT K H a xs ∧ xs[i]? = some x, fun i H v H' => ∃ T x, v = .ref T ∧ H T = none ∧ H' = upd H T (.tup [.int (k + (i : Nat)), x]) ∧ ∀ xs, SqT K H a xs → xs[i]? = some x, fun i H => ∃ xs : List V, SqT K H a xs ∧ xs.length ≤ i⟩
theorem turn_enumK {P : Program} {w : World} {K : PySem.W.Frag} {elts : List Expr} {kk : Nat} {tpos : Pos} (a e it : Addr) (k : Int) :
    Turn P w K (.Tuple elts kk tpos) (ItK K a k) [e, it] e (fun i h => (∃ old, IsEnum h e it (k + ((i : Nat) : Int)) old) ∧ h.IsTupleIter it a i ∧ e ≠ it) where
  mem := by simp
  obj := fun i h st b hb => by
    obtain ⟨⟨old, he⟩, ⟨o, ho, hc, hd⟩, _⟩ := st
    have e' : b = e ∨ b = it := by simpa using hb
    rcases e' with z | z
    · rw [z]; exact ⟨_, he, fun v q => nomatch q⟩
    · rw [z]; exact ⟨o, ho, fun v q => by rw [hd] at q; cases q⟩
  keep := fun i h h' st k => let ⟨⟨old, he⟩, hi, hne⟩ := st; ⟨⟨old, k e (by simp) _ he⟩, hi.at fun o q => k it (by simp) o q, hne⟩
  item := by
    intro X hP hw hK hc i pins s σ H E I hf st hg
    subst hP hw hK
    obtain ⟨⟨old, he⟩, hit, hne⟩ := st
    obtain ⟨xs, x, hq, hx⟩ := hg
    obtain ⟨its, rv, p, hz⟩ := I.tuple hq
    obtain ⟨u, hu, ru⟩ := rv.get hx
    have hel : e < s.heap.objs.size := Heap.lt_size he
    have hil : it < s.heap.objs.size := by obtain ⟨_, q, _⟩ := hit; exact Heap.lt_size q
    obtain ⟨ob, hob, hcb, nb, hdb⟩ := id (show s.heap.IsTuple a its.toArray from p)
    have hae : a ≠ e := fun z => by
      subst z
      rw [he] at hob; cases hob; exact absurd (Value.type.inj hcb) (by decide)
    have hai : a ≠ it := fun z => by
      subst z
      obtain ⟨o2, q1, q2, _⟩ := hit
      rw [q1] at hob; cases hob; rw [q2] at hcb; exact absurd (Value.type.inj hcb) (by decide)
    have D := Draws.tuple (prog := X.prog) (w := X.w) (A := X.A.in1) (I.ok.hd hc) it a hai its.toArray
    have hlt : i < its.toArray.size := by
      have := (List.getElem?_eq_some_iff.mp hu).1
      simpa using this
    refine wpAny_pyNext_enum_itemC (i := i) (c := k + (i : Int)) D he ⟨hit, show s.heap.IsTuple a its.toArray from p⟩ hlt hne (by simp [hne, Ne.symm hae]) fun u' h' tk hu' ho hit' hT hsz hk => ?_
    have hu' : its.toArray[i]? = some u' := hu'
    have eu : u' = u := by
      have q : its.toArray[i]? = some u := by simpa using hu
      rw [q] at hu'; exact (Option.some.inj hu').symm
    subst eu
    refine ⟨_, rfl, wpAny_letOwnedTupleGo_enum (s := { s with heap := h', toks := tk + 1 }) ho fun h'' he' sb => ?_⟩
    have hT2 : h''.get? s.heap.objs.size = some { cls := .type "tuple", data := .seq #[.int (k + i) tk, u'] } := (sb.2 _ (Nat.ne_of_gt hel)).trans hT
    have new : ObjOk X.prog X.w (upd H s.heap.objs.size (.tup [.int (k + (i : Nat)), x])) h'' s.heap.objs.size (.tup [.int (k + (i : Nat)), x]) :=
      ⟨by show 2 ≤ sizeLine; decide, [.int (k + i) tk, u'], .cons ⟨_, rfl⟩ (.cons ru .nil), ⟨_, hT2, rfl, _, rfl⟩⟩
    have I1 : Inv X pins σ (upd H s.heap.objs.size (.tup [.int (k + (i : Nat)), x])) { s with heap := h'', toks := tk + 1 } :=
      I.turnedNew (ch := [e, it]) (fun b ob hb q => (sb.2 b (fun z => hb (by simp [z]))).trans (hk b ob (fun z => hb (by simp [z])) (fun z => hb (by simp [z])) q)) hf (Nat.le_refl _) new
    refine ⟨.ref s.heap.objs.size, _, I1, rfl, ⟨_, x, rfl, I.hok.fresh (Nat.le_refl _), rfl, fun ys hy => by rw [I.tuple_inj hy hq]; exact hx⟩, ⟨⟨u', ?_⟩, hit'.1.at fun o q => (sb.2 it (Ne.symm hne)).trans q, hne⟩, fun b hb => ?_⟩
    · have e1 : k + ((i + 1 : Nat) : Int) = k + (i : Int) + 1 := by omega
      rw [e1]; exact he'
    · have hb' : b < s.heap.objs.size := by
        have e' : b = e ∨ b = it := by simpa using hb
        rcases e' with z | z
        · rw [z]; exact hel
        · rw [z]; exact hil
      rw [upd_ne (Nat.ne_of_lt hb')]
      exact (hf b hb).1
  done := by
    intro X hP hw hK hc i pins s σ H E I hf st hg
    subst hP hw hK
    obtain ⟨⟨old, he⟩, hit, hne⟩ := st
    obtain ⟨xs, hq, hx⟩ := hg
    obtain ⟨its, rv, p, hz⟩ := I.tuple hq
    obtain ⟨f0, f1, f2, f3, f4, f5⟩ := hf it (by simp)
    have hl := rv.length
    exact enum_end_c (I.ok.hd hc) he hit (show s.heap.IsTuple a its.toArray from p) (by simp; omega) fun h' eb => ⟨rfl, I.turned (t' := s.toks) (fun b o hb q => eb b o hb q) f0 f1 f3 f4 f5⟩
  self := fun A i s Q E st h => let ⟨⟨_, he⟩, _⟩ := st; wpAny_pyIter_enum he h
def iEnumK (K : PySem.W.Frag) (ta tk : TE) : TI := fun σ H R => ta σ H fun x H1 => tk σ H1 fun z H2 => ∃ a xs k, x = .ref a ∧ z = .int k ∧ SqT K H2 a xs ∧ -(2 ^ 63) ≤ k ∧ k < 2 ^ 63 ∧ R (ItK K a k) H2
theorem pi_enumK {X : Cx} {e v : Expr} {ta tk : TE} {p pos tpos kpos : Pos} {elts : List Expr} {kk : Nat} (hg : Gl X "enumerate") (hm : X.mg "enumerate" = none) (ha : PE X e ta) (hv : PE X v tk) (hs : starEach [e] X.env = (false, eval e X.env) :: starEach [] X.env := by rfl)
    (hall : (backToKw pos (keywordEach [⟨some "start", v, kpos⟩] X.env)).all (·.1.isSome) = true := by rfl) (hkw : (backToKw pos (keywordEach [⟨some "start", v, kpos⟩] X.env)).any (·.1.isNone) = false := by rfl) (hks : (backToKw pos (keywordEach [⟨some "start", v, kpos⟩] X.env)).filterMap (·.1) = [("start" : Str)] := by rfl) (hpl : (backTo pos (starEach [e] X.env)).any (·.1) = false := by rfl) :
    PI X (.Tuple elts kk tpos) (.Call (.Name "enumerate" p) [e] [⟨some "start", v, kpos⟩] pos) (iEnumK X.K ta tk) := by
  refine ⟨fun pins s σ H R I h => ?_⟩
  refine wpAny_Call_Name_kw (ld_blt I hg hm boot_enumerate (callWith_type_kw hpl hkw (PyProof.Rows.evalArgs_kw2 hall ?_ hs)))
  refine args_cons (thn (ha.run pins s σ H _ I h) fun u1 s1 ⟨x, H1, I1, r1, q1⟩ => args_nil ?_) hs
  refine thn ((L2.pk_cons (nm := some "start") (kpos := kpos) hv L2.pk_nil).run pos pins s1 σ H1 (fun zs H2 => match zs with
    | [z] => ∃ a xs k, x = .ref a ∧ z = .int k ∧ SqT X.K H2 a xs ∧ -(2 ^ 63) ≤ k ∧ k < 2 ^ 63 ∧ R (ItK X.K a k) H2
    | _ => False) I1 q1) fun ws s2 ⟨zs, H2, I2, r2, qq⟩ => ?_
  dsimp only at qq
  split at qq
  case h_2 => exact qq.elim
  rename_i z
  obtain ⟨a, xs, k, ex, ek, hq, k0, k1, q⟩ := qq
  subst ex ek
  rw [hks]
  cases r2 with
  | cons r3 r2 =>
  cases r2
  obtain ⟨tt, rfl⟩ := r3
  cases r1
  obtain ⟨its, rv, p', hz⟩ := I2.tuple hq
  show wpAny _ _ (call (.type "enumerate") [.ref a] [(Str.ofString "start", .int k tt)]) (fun v s1 => wpAny (model X.prog X.w) X.A (pyIter v) (PIE X pins σ (.Tuple elts kk tpos) R) X.xe s1) _ _
  refine enum_begins_start (begins_tuple a its.toArray) (show s2.heap.IsTuple a its.toArray from p') k0 k1 fun h' he hit hsz hk => wpAny_pyIter_enum he ?_
  have I3 : Inv X pins σ H2 { s2 with heap := h' } := I2.kept (t' := s2.toks) hk
  refine ⟨s2.heap.objs.size + 1, [s2.heap.objs.size + 1, s2.heap.objs.size], _, _, H2, rfl, I3, turn_enumK a (s2.heap.objs.size + 1) s2.heap.objs.size k, ⟨⟨.none, by simpa using he⟩, ⟨_, hit, rfl, rfl⟩, Nat.succ_ne_self _⟩, fun b hb => ?_, q⟩
  have e' : b = s2.heap.objs.size + 1 ∨ b = s2.heap.objs.size := by simpa using hb
  have hle : s2.heap.objs.size ≤ b := by
    rcases e' with z | z
    · rw [z]; exact Nat.le_add_right _ _
    · rw [z]; exact Nat.le_refl _
  exact I2.fpOk hle (I2.hok.fresh hle)
end EK
namespace AB
open PySem PySem.Spec PyProof.Rows L2
section
variable {X : Cx} {W : WR} {pos : Pos} {e v : Expr} {f g : EF}
def enumK (a k : A) (M : Store) : EO Src := match a, k with
  | .tup xs, .int k => if 0 ≤ k ∧ k < 1000000 then .ok (.snap (pairsFrom k.toNat xs)) M else .bad
  | _, _ => .bad
def iEnumAK (f g : EF) : EI := fun τ M => (f τ M).bind fun a M1 => (g τ M1).bind fun k M2 => enumK a k M2
theorem srcJ_enk {w : Amb} {ρ : List Addr} {H : Hp} {xs : List A} {vs : List V} {a : Addr} {k : Nat} (ha : H a = some (.tup vs)) (is : IsAll ρ H xs vs) : SrcJ w ρ H (.snap (pairsFrom k xs)) (EK.ItK w.K a (k : Int)) := by
  intro ρ2 H2 M2 i x g m
  have h2 : SqT w.K H2 a vs := .inl (.inl (g _ _ (.tup _) ha))
  cases e : xs[i]? with
  | none =>
    simp only [Src.at, pairsFrom_get, e, Option.map_none]
    exact ⟨vs, h2, by rw [← is.length]; exact List.getElem?_eq_none_iff.mp e⟩
  | some t =>
    simp only [Src.at, pairsFrom_get, e, Option.map_some]
    obtain ⟨v, hv, iv⟩ := is.get e
    refine ⟨⟨vs, v, h2, hv⟩, fun w H3 ⟨T, y, e1, hT, e2, hy⟩ => ?_⟩
    have := hy vs h2
    rw [hv] at this
    obtain rfl := Option.some.inj this
    subst e1 e2
    refine ⟨.new hT, m.new hT, .tup upd_same (.cons ?_ (.cons ((iv.mono x g).mono (.refl _) (.new hT)) .nil))⟩
    have : (k : Int) + (i : Nat) = ((k + i : Nat) : Int) := by omega
    rw [this]
    exact .int _
theorem ai_enumK {p tpos kpos : Pos} {elts : List Expr} {kk : Nat} (hm : X.mg "enumerate" = none) (ha : AE X W e f) (hv : AE X W v g) (hg : Gl X "enumerate" := by rfl) (hs : starEach [e] X.env = (false, eval e X.env) :: starEach [] X.env := by rfl)
    (hall : (backToKw pos (keywordEach [⟨some "start", v, kpos⟩] X.env)).all (·.1.isSome) = true := by rfl) (hkw : (backToKw pos (keywordEach [⟨some "start", v, kpos⟩] X.env)).any (·.1.isNone) = false := by rfl) (hks : (backToKw pos (keywordEach [⟨some "start", v, kpos⟩] X.env)).filterMap (·.1) = [("start" : Str)] := by rfl) (hpl : (backTo pos (starEach [e] X.env)).any (·.1) = false := by rfl) :
    AI X W (.Tuple elts kk tpos) (.Call (.Name "enumerate" p) [e] [⟨some "start", v, kpos⟩] pos) (iEnumAK f g) := (EK.pi_enumK hg hm ha hv hs hall hkw hks hpl).pre fun σ H R h => by
  refine (seqG Is h).imp fun x H1 h1 => ?_
  refine (seqK Is Is.ext Is h1).imp fun y H2 h2 => ?_
  obtain ⟨τ, M, ρ, a, k, rs, rm, i, j, r⟩ := h2
  unfold enumK at r
  split at r
  · rename_i xs k
    split at r
    · rename_i hz
      cases j
      cases i with
      | tup ha ia =>
        refine ⟨_, _, k, rfl, rfl, .inl (.inl ha), by omega, by omega, ?_⟩
        have q := RE.okv (a := Src.snap (pairsFrom k.toNat xs)) (M := M) (rel := relJ (X.am W.Tb)) r (.refl _) (.refl _) rm (srcJ_enk ha ia)
        rwa [show ((k.toNat : Nat) : Int) = k by omega] at q
    · exact r.elim
  · exact r.elim
end
end AB
/-! AB21: len(set(..)) of a list or a tuple of ints -/
namespace AB
open PySem PySem.Spec PyProof.Rows L2
def dd : List Int → List Int
  | [] => []
  | x :: xs => if x ∈ xs then dd xs else x :: dd xs
theorem mem_dd {y : Int} : ∀ {xs : List Int}, y ∈ dd xs ↔ y ∈ xs
  | [] => Iff.rfl
  | x :: xs => by
    unfold dd
    by_cases h : x ∈ xs
    · rw [if_pos h, mem_dd, List.mem_cons]
      exact ⟨.inr, fun z => z.elim (fun e => by rw [e]; exact h) id⟩
    · rw [if_neg h, List.mem_cons, List.mem_cons, mem_dd]
theorem nodup_dd : ∀ xs : List Int, (dd xs).Nodup
  | [] => List.nodup_nil
  | x :: xs => by
    unfold dd
    by_cases h : x ∈ xs
    · rw [if_pos h]; exact nodup_dd xs
    · rw [if_neg h]; exact List.nodup_cons.mpr ⟨fun z => h (mem_dd.mp z), nodup_dd xs⟩
theorem len_le_of_sub : ∀ {xs ys : List Int}, xs.Nodup → (∀ y ∈ xs, y ∈ ys) → xs.length ≤ ys.length
  | [], _, _, _ => Nat.zero_le _
  | x :: xs, ys, h, s => by
    obtain ⟨h1, h2⟩ := List.nodup_cons.mp h
    have hx : x ∈ ys := s x List.mem_cons_self
    have := len_le_of_sub (ys := ys.erase x) h2 fun y hy => (List.mem_erase_of_ne (show y ≠ x from fun e => h1 (by rw [← e]; exact hy))).mpr (s y (List.mem_cons_of_mem _ hy))
    rw [List.length_erase_of_mem hx] at this
    have := List.length_pos_of_mem hx
    simp only [List.length_cons]; omega
theorem len_dd {xs ys : List Int} (h : ys.Nodup) (m : ∀ y, y ∈ xs ↔ y ∈ ys) : (dd xs).length = ys.length :=
  Nat.le_antisymm (len_le_of_sub (nodup_dd xs) fun y hy => (m y).mp (mem_dd.mp hy)) (len_le_of_sub h fun y hy => mem_dd.mpr ((m y).mpr hy))
section
variable {X : Cx} {W : WR} {pos : Pos} {a : Expr} {f : EF}
def oLenSetX : O1 := fun x M => match x with
  | .lst l => match listAt M l with
    | some xs => match ints? xs with
      | some is => if is.length ≤ 4000 then some (.int ((dedup is).length : Nat), M) else none
      | none => none
    | none => none
  | .tup xs => match ints? xs with
    | some is => if is.length ≤ 4000 then some (.int ((dd is).length : Nat), M) else none
    | none => none
  | _ => none
theorem ae_lenSetX {p p2 q : Pos} (hm : X.mg "len" = none) (hm2 : X.mg "set" = none) (ha : AE X W a f) (hc : X.calm = true := by rfl) (hg : Gl X "len" := by rfl) (hg2 : Gl X "set" := by rfl)
    (na : starEach [a] X.env = (false, eval a X.env) :: starEach [] X.env := by rfl) : AE X W (.Call (.Name "len" p) [.Call (.Name "set" p2) [a] [] q] [] pos) (eUn oLenSetX f) := by
  refine ⟨fun pins s σ H Q I h => ?_⟩
  have h2 := seqG (G := (X.gx W.Tb)) (W := W) Is h
  refine Call_ (ld_blt I hg hm boot_len ?_)
  refine PyProof.Rows.callWith_builtin1 (PyProof.Rows.args_cons ?_ rfl) rfl rfl
  refine Call_ (ld_blt I hg2 hm2 boot_set ?_)
  refine PyProof.Rows.callWith_type1 (PyProof.Rows.args_cons (thn (ha.run pins s σ H _ I h2) fun v s1 ⟨x, H1, I1, r1, q1⟩ => PyProof.Rows.args_nil ?_) na) na rfl
  obtain ⟨τ, M, ρ, y, rs, rm', i, r⟩ := q1
  have ro : RO (X.am W.Tb) ρ H1 (oLenSetX y M) Q := RO.of r
  unfold oLenSetX at ro
  cases i with
  | lst hl =>
    dsimp only at ro
    split at ro
    · rename_i xs el
      split at ro
      · rename_i is ei
        split at ro
        · rename_i hz4
          obtain ⟨vs, hq, iv⟩ := rm'.list hl el
          rw [ints_of ei] at iv
          rw [iv.ints] at hq
          cases r1
          obtain ⟨its, r, pl, hz⟩ := I1.list hq
          have hlen : its.toArray.size = is.length := by rw [List.size_toArray, ← r.length, List.length_map]
          refine call_set_list (ns := is) (I1.ok.hd hc) pl.isList (by simpa using intsAre_of r) (by rw [hlen]; unfold scanBound; omega) fun h' tk hS hk => ?_
          refine PyProof.Rows.args_nil ?_
          rw [hlen, firstMet_all] at hS
          obtain ⟨o, es, ep, t, ho, hex, hd, _, _, _, hf, hn⟩ := hS
          have I2 : L2.Inv X pins σ H1 { s1 with heap := h', toks := tk } := I1.kept fun b o e => hk b o (Heap.lt_size e) e
          have hdl : (dedup is).length ≤ is.length := by rw [← firstMet_all]; exact PyProof.Rows.firstMet_length_le _ _
          exact call_len_set ho hex hd hf (by rw [hn] <;> omega) ⟨.int (dedup is).length, H1, I2.tok _, ⟨_, by rw [hn]⟩, ro.val rm' (.int _)⟩
        · exact ro.elim
      · exact ro.elim
    · exact ro.elim
  | tup ht it =>
    rename_i ad ts0 vs0
    dsimp only at ro
    split at ro
    · rename_i is ei
      split at ro
      · rename_i hz4
        rw [ints_of ei] at it
        have ht : H1 ad = some (.tup (is.map V.int)) := by rw [it.ints] at ht; exact ht
        cases r1
        obtain ⟨its, r, pl, hz⟩ := I1.tuple (show SqT X.K H1 ad (is.map V.int) from .inl (.inl ht))
        refine L2.call_set_tupI is (I1.ok.hd hc) (show s1.heap.IsTuple _ its.toArray from pl) (by simpa using intsAre_of r) (by unfold scanBound; omega) fun h' tk c R hc' hk => ?_
        refine PyProof.Rows.args_nil ?_
        obtain ⟨o, es, ep, t, ho, hex, hd, hge, hnd, hmem, _, hf, hn, _⟩ := R
        have I2 : L2.Inv X pins σ H1 { s1 with heap := h', toks := tk } := I1.kept fun b o e => hk b o e
        have hl : (dd is).length = es.size := by
          rw [len_dd hnd fun y => ?_]
          · simp
          · rw [← hmem y]; simp
        refine call_len_set ho hex hd hf (by rw [hn]; omega) ⟨.int (dd is).length, H1, I2.tok _, ⟨_, by rw [hl]⟩, ro.val rm' (.int _)⟩
      · exact ro.elim
    · exact ro.elim
  | _ => exact ro.elim
end
end AB
/-! AB22: backward steps for AB16 to AB21 -/
namespace AB
open PySem PySem.Spec PyProof.Rows L2
section
variable {α β : Type} {τ : Sl} {M : Store} {Q : A → Store → Prop} {Qs : List A → Store → Prop} {Qb : Bool → Store → Prop} {N : Sl → Store → Prop} {R : A → Store → Prop} {P : Src → Store → Prop} {Pk : List Str → Store → Prop}
theorem w_kC {ts : List Str} (h : Pk ts M) : (kC ts τ M).W Pk := by with_unfolding_all exact h
theorem w_kIx {tbl : List (Str × List Str)} {g : EF} (h : (g τ M).W fun k M1 => ∃ z ts, k = .str z ∧ tbl.lookup z = some ts ∧ Pk ts M1) : (kIx tbl g τ M).W Pk := w_bind (h.imp fun k M1 ⟨z, ts, e, e2, h⟩ => by
  subst e
  unfold kAt
  dsimp only
  rw [e2]
  with_unfolding_all exact h)
theorem w_inK {neg : Bool} {f : EF} {g : EK} (h : (f τ M).W fun a M1 => (g τ M1).W fun ts M2 => ∃ v, flat? a = some v ∧ Q (.bl (if neg then !inV v (ts.map V.str) else inV v (ts.map V.str))) M2) : (eInK neg f g τ M).W Q :=
  w_bind (h.imp fun a M1 h => w_bind (h.imp fun ts M2 ⟨v, e, h⟩ => by
    unfold inK
    rw [e]
    with_unfolding_all exact h))
theorem w_inT {neg : Bool} {tbl : List (Str × List Str)} {f : EF} (h : (f τ M).W fun c M1 => ∃ z ts, c = .str z ∧ tbl.lookup z = some ts ∧ Q (.bl (!neg)) M1) : (eInT neg tbl f τ M).W Q := w_bind (h.imp fun k M1 ⟨z, ts, e, e2, h⟩ => by
  subst e
  unfold inT
  dsimp only
  rw [e2]
  with_unfolding_all exact h)
theorem w_iK {fk : EK} (h : (fk τ M).W fun ts M1 => P (.snap (ts.map A.str)) M1) : (iK fk τ M).W P := w_bind (h.imp fun _ _ h => by with_unfolding_all exact h)
theorem w_iPerm {fr : ER} (h : (fr τ M).W fun p M1 => ∃ n : Nat, p = (0, (n : Int)) ∧ 1 ≤ n ∧ n ≤ 3 ∧ P (.snap (permA n)) M1) : (iPerm fr τ M).W P := w_bind (h.imp fun _ _ ⟨n, e, h1, h3, h⟩ => by
  subst e
  unfold permOf
  rw [if_pos (by dsimp only; omega)]
  with_unfolding_all exact h)
theorem w_enumK {f g : EF} (h : (f τ M).W fun a M1 => (g τ M1).W fun k M2 => ∃ xs, ∃ n : Nat, a = .tup xs ∧ k = .int n ∧ n < 1000000 ∧ P (.snap (pairsFrom n xs)) M2) : (iEnumAK f g τ M).W P := w_bind (h.imp fun _ _ h => w_bind (h.imp fun _ _ ⟨xs, n, e1, e2, hn, h9⟩ => by
  subst e1 e2
  unfold enumK
  dsimp only
  rw [if_pos (by omega), Int.toNat_natCast]
  with_unfolding_all exact h9))
theorem w_pNil {Pp : List (A × A) → Store → Prop} (h : Pp [] M) : (pNil τ M).W Pp := by with_unfolding_all exact h
theorem w_pCons {fk fv : EF} {fp : EPs} {Pp : List (A × A) → Store → Prop} (h : (fk τ M).W fun k M1 => (fv τ M1).W fun v M2 => (fp τ M2).W fun ps M3 => Pp ((k, v) :: ps) M3) : (pCons fk fv fp τ M).W Pp :=
  w_bind (h.imp fun _ _ h => w_bind (h.imp fun _ _ h => w_bind (h.imp fun _ _ h => by with_unfolding_all exact h)))
theorem w_dispN {fp : EPs} (h : (fp τ (M ++ [.dK []])).W fun ps M2 => ∃ q, M2[M.length]? = some (.dK []) ∧ keyed? ps = some q ∧ q.length ≤ 15 ∧ Q (.dct M.length) (M2.set M.length (.dK (mergeA [] q)))) : (eDispN fp τ M).W Q := w_bind (h.imp fun ps M2 ⟨q, e1, e2, h15, h⟩ => by
  unfold dispN
  rw [e1, e2]
  dsimp only
  rw [if_pos h15]
  with_unfolding_all exact h)
theorem w_get2 {fd fk fv : EF} (h : (fd τ M).W fun d M1 => ∃ l, d = .dct l ∧ isDk M1 l = true ∧ (fk τ M1).W fun k M2 => (fv τ M2).W fun v M3 => ∃ o, dGet M3 l k = some o ∧ Q (o.getD v) M3) : (eGet2 fd fk fv τ M).W Q := w_bind (h.imp fun d M1 ⟨l, e, hd, h⟩ => by
  subst e
  unfold get2K
  dsimp only
  rw [if_pos hd]
  exact w_bind (h.imp fun k M2 h => w_bind (h.imp fun v M3 ⟨o, e, h⟩ => by
    unfold getK
    rw [e]
    with_unfolding_all exact h)))
theorem w_dcA {src : Src} {t : Tgt} {fk fe : EF} {l : Nat} {τw : Sl} (xs : List A) (I : Nat → Store → Prop) (hat : ∀ i M, I i M → src.at M i = some xs[i]?)
    (hs : ∀ i x M, xs[i]? = some x → I i M → ∃ τ1, t.set x τw = some τ1 ∧ (fk τ1 M).W fun k M2 => (fe τ1 M2).W fun y M3 => ∃ M4, nPut M3 l k y = some M4 ∧ I (i + 1) M4)
    (he : ∀ M, I xs.length M → Q (.dct l) M) :
    ∀ (n i : Nat) (M : Store), xs.length < i + n → i ≤ xs.length → I i M → (dcA src t bYes fk fe l τw n i M).W Q
  | 0, i, M, h1, h2, _ => by omega
  | n + 1, i, M, h1, h2, h0 => by
    unfold dcA
    rw [hat i M h0]
    by_cases hi : i < xs.length
    · have ex : xs[i]? = some xs[i] := List.getElem?_eq_getElem hi
      rw [ex]
      obtain ⟨τ1, e1, h⟩ := hs i _ M ex h0
      dsimp only
      rw [e1]
      dsimp only [bYes]
      obtain ⟨k, M2, ek, h⟩ := (show ∃ k M2, fk τ1 M = .ok k M2 ∧ (fe τ1 M2).W fun y M3 => ∃ M4, nPut M3 l k y = some M4 ∧ I (i + 1) M4 from by with_unfolding_all exact h.out)
      rw [ek]
      dsimp only
      obtain ⟨y, M3, ey, M4, ep, h⟩ := (show ∃ y M3, fe τ1 M2 = .ok y M3 ∧ ∃ M4, nPut M3 l k y = some M4 ∧ I (i + 1) M4 from by with_unfolding_all exact h.out)
      rw [ey]
      dsimp only
      rw [ep]
      exact w_dcA xs I hat hs he n (i + 1) M4 (by omega) hi h
    · rw [List.getElem?_eq_none (by omega)]
      have e : i = xs.length := by omega
      subst e
      with_unfolding_all exact he M h0
theorem w_dc {fi : EI} {t : Tgt} {fk fe : EF} {own : List Nat} (h : (fi τ M).W fun src M1 => ∃ xs : List A, ∃ I : Nat → Store → Prop, src.size M1 = xs.length + 1 ∧ I 0 (M1 ++ [.dN []]) ∧ (∀ i M, I i M → src.at M i = some xs[i]?) ∧
    (∀ i x M, xs[i]? = some x → I i M → ∃ τ1, t.set x (wipeA τ own) = some τ1 ∧ (fk τ1 M).W fun k M2 => (fe τ1 M2).W fun y M3 => ∃ M4, nPut M3 M1.length k y = some M4 ∧ I (i + 1) M4) ∧
    (∀ M, I xs.length M → Q (.dct M1.length) M)) : (eDc fi t bYes fk fe own τ M).W Q :=
  w_bind (h.imp fun src M1 ⟨xs, I, e, h0, h1, h2, h3⟩ => w_dcA xs I h1 h2 h3 _ 0 _ (by rw [e]; omega) (Nat.zero_le _) h0)
end
end AB
local macro_rules | `(tactic| walk_at "wt") => `(tactic| first
  | walk_at "ws" | with_reducible refine AB.w_kC ?_ | with_reducible refine AB.w_kIx ?_ | with_reducible refine AB.w_inK ?_ | with_reducible refine AB.w_inT ?_ | with_reducible refine AB.w_iK ?_ | with_reducible refine AB.w_iPerm ?_ | with_reducible refine AB.w_enumK ?_ | with_reducible refine AB.w_pNil ?_ | with_reducible refine AB.w_pCons ?_ | with_reducible refine AB.w_dispN ?_ | with_reducible refine AB.w_get2 ?_)
/-! AB23: xs[::-1] of a list -/
namespace AB
open PySem PySem.Spec PyProof.Rows L2
theorem IsAll.rev {ρ : List Addr} {H : Hp} : ∀ {ts : List A} {vs : List V}, IsAll ρ H ts vs → IsAll ρ H ts.reverse vs.reverse
  | [], _, .nil => .nil
  | t :: ts, _, .cons r rs => by
    rw [List.reverse_cons, List.reverse_cons]
    exact (IsAll.rev rs).append (.cons r .nil)
def oRevL : O1 := fun a M => match a with
  | .lst l => (listAt M l).map fun xs => (.lst M.length, M ++ [.lst xs.reverse])
  | _ => none
section
variable {X : Cx} {W : WR} {pos : Pos} {a : Expr} {f : EF}
theorem ae_revL {k : Nat} {p1 p2 p3 : Pos} (ha : AE X W a f) : AE X W (.Subscript a (.Slice none none (some (.UnaryOp .USub (.Constant (.int 1) k p1) p2)) p3) pos) (eUn oRevL f) := (pe_revL ha).pre fun σ H Q h => by
  refine (seqG (G := (X.gx W.Tb)) (W := W) Is h).imp fun x H1 h1 => ?_
  obtain ⟨τ, M, ρ, y, rs, rm, i, r⟩ := h1
  have ro : RO (X.am W.Tb) ρ H1 (oRevL y M) Q := RO.of r
  unfold oRevL at ro
  cases i with
  | lst ha =>
    simp only at ro
    cases e1 : listAt M _ with
    | none => rw [e1] at ro; exact ro.elim
    | some xs =>
      rw [e1] at ro
      obtain ⟨vs, hq, is⟩ := rm.list ha e1
      exact ⟨_, vs, rfl, hq, fun p hp => RO.newL (M := M) ro rm is.rev hp⟩
  | _ => exact ro.elim
end
end AB
/-! AB24: {k for .. in ..}, ints; its len -/
namespace AB
open PySem PySem.Spec PyProof.Rows L2
section
variable {X : Cx} {W : WR} {pos : Pos} {pins : List (Addr × Obj)} {σ : L2.St} {H : Hp} {s : Shared} {ρ : List Addr} {M M' : Store} {E : Value → Shared → Prop}
def sPut (M : Store) (l : Nat) (y : A) : Option Store := match M[l]?, y with
  | some (.st xs), .int k => if xs.length + 1 < scanBound then some (M.set l (.st (if k ∈ xs then xs else xs ++ [k]))) else none
  | _, _ => none
theorem s_put {l : Nat} {p : Addr} {y : A} {yv : V} {u2 : Value} (I : L2.Inv X pins σ H s) (m : RM (X.am W.Tb) ρ H M) (hp : ρ[l]? = some p) (iy : Is ρ H y yv) (ry : RelV yv u2)
    (e : sPut M l y = some M') : wpAny (model X.prog X.w) X.A (call (.builtin "set.add") [.ref p, u2]) (fun _ s' => ∃ H', L2.Inv X pins σ H' s' ∧ Grow H H' ∧ RM (X.am W.Tb) ρ H' M') X.xe s := by
  unfold sPut at e
  split at e
  · rename_i xs k ec
    split at e
    · rename_i hz
      cases e
      cases iy
      obtain ⟨S, hS, hk⟩ := m.at_ _ _ _ hp ec
      refine thn (mt_sadd pins s σ H (.ref p) [.int k] (.ref p) [u2] (fun _ H' => Grow H H' ∧ RM (X.am W.Tb) ρ H' (M.set l (.st (if k ∈ xs then xs else xs ++ [k])))) I rfl (.cons ry .nil) ⟨p, k, S, xs.length, rfl, rfl, hS, hz, m.growSet hp ec, ?_⟩) fun u s' ⟨z, H', I', _, g, m'⟩ => ⟨H', I', g, m'⟩
      refine m.set hp ec ⟨fun j => S j || decide (j = k), ?_, fun j => ?_⟩
      · rw [upd_same]
        congr 2
        by_cases h : k ∈ xs
        · rw [if_pos (by rw [hk]; simpa using h), if_pos h]
        · rw [if_neg (by rw [hk]; simpa using h), if_neg h]; simp
      · show (S j || decide (j = k)) = _
        rw [hk]
        by_cases h : k ∈ xs
        · rw [if_pos h]
          by_cases e : j = k
          · subst e; simp [h]
          · simp [e]
        · rw [if_neg h]; simp
    · cases e
  · cases e
def scA (src : Src) (t : Tgt) (ft : EFb) (fe : EF) (l : Nat) (τ : Sl) : Nat → Nat → Store → EO A
  | 0, _, _ => .bad
  | n + 1, i, M => match src.at M i with
    | none => .bad
    | some none => .ok (.dct l) M
    | some (some x) => match t.set x τ with
      | none => .bad
      | some τ1 => match ft τ1 M with
        | .ok true M1 => match fe τ1 M1 with
          | .ok y M3 => match sPut M3 l y with
            | some M4 => scA src t ft fe l τ n (i + 1) M4
            | none => .bad
          | _ => .bad
        | .ok false M1 => scA src t ft fe l τ n (i + 1) M1
        | _ => .bad
def eSc (fi : EI) (t : Tgt) (ft : EFb) (fe : EF) (own : List Nat) : EF := fun τ M => (fi τ M).bind fun src M1 => scA src t ft fe M1.length (wipeA τ own) (src.size M1) 0 (M1 ++ [.st []])
theorem sc_core_i (own : List (Str × Nat)) {vx tg iter : Expr} {ifs : List Expr} {scope : Scope} {fi : EI} {t : Tgt} {ft : EFb} {fe : EF} {pos' : Pos} {use : Option (Value → Sem Unit)} {Qf : Value → Shared → Prop} {Q : VK} (hc : X.calm = true) (hN : X.N.Nodup) (ok : BlkOk X.N X.env.scope scope own) (ho : ∀ i ∈ t.own, i ∈ own.map (·.2)) (hi : AI X W tg iter fi)
    (hg : ∀ (s : Shared) (H : Hp) (C : Addr) (cl : List (Str × Addr)) (fp : List Addr), AG (X.blk s H scope (compEnvC scope cl C X.env) fp) tg t) (ht : ∀ (s : Shared) (H : Hp) (C : Addr) (cl : List (Str × Addr)) (fp : List Addr), ATs (X.blk s H scope (compEnvC scope cl C X.env) fp) W.nx ifs ft)
    (he : ∀ (s : Shared) (H : Hp) (C : Addr) (cl : List (Str × Addr)) (fp : List Addr), AE (X.blk s H scope (compEnvC scope cl C X.env) fp) W.nx vx fe) (hs : ∀ x, foldedSetIterable iter X.env x = pure x)
    (I : L2.Inv X pins σ H s) (h : tG (X.gx W.Tb) W Is (eSc fi t ft fe (own.map (·.2))) σ H Q)
    (hend : ∀ D C s' m H', L2.Inv X pins σ H' s' → Q (.ref D) H' → s'.heap.Ns C m → FpOk X pins H' C → compPost (model X.prog X.w) X.A X.xe use Qf (.ref D) C (.ok .next) s') :
    wpAny (model X.prog X.w) X.A (comprehension (.SetComp vx [⟨tg, iter, ifs, 0⟩] scope pos) scope X.env pos' (newSet (.type "set")) false (eval iter X.env) use) Qf X.xe s := by
  have fr : ∀ y ∈ scope.names, y.2 = .free → ∃ c, X.env.cells.lookup y.1 = some c := by
    intro y hy e
    exact (ok.free y hy e).elim (fun k => I.ok.has _ (.inl k)) fun k => I.ok.has _ (.inr k)
  refine wpAny_comprehension_free (use := use) rfl hs (closure_ok fr) ok.kind (fun y hy e => by rw [ok.uniq y hy, e]) (thn (hi.run pins s σ H _ I (seqG (relJ (X.am W.Tb)) h)) fun xv s1 hx => thn hx fun itv s2 h2 => ?_)
  obtain ⟨it, fp, tn, J, H2, rfl, I2, T, st2, f2, τ, M, ρ, src, rs, rm, ij, r⟩ := h2
  refine PpSet.newSet_ok (newEnv_comp ?_)
  generalize hD : s2.heap.objs.size = D
  have nD : H2 D = none := I2.hok.fresh (Nat.le_of_eq hD)
  generalize hz : ({ s2 with heap := s2.heap.push { cls := .type "set", dict := none, data := .set #[] 0 (.fresh 0 0 (!X.w.params.followText "set-order")) } } : Shared) = z
  have hzh : z.heap = s2.heap.push { cls := .type "set", dict := none, data := .set #[] 0 (.fresh 0 0 (!X.w.params.followText "set-order")) } := by rw [← hz]
  have I3 : L2.Inv X pins σ (upd H2 D (SetO X.w D (fun _ => false) 0)) z := by
    subst hz hD
    exact I2.laid (a := s2.heap.objs.size) (t' := s2.toks) (fun _ _ q => Heap.get?_push_of_some _ q) (Nat.le_refl _) (setO_new (setR_fresh X.w))
  generalize hG : upd H2 D (SetO X.w D (fun _ => false) 0) = G at I3
  have g0 : Grow H2 G := by subst hG; exact .new nD
  have m0 : RM (X.am W.Tb) (ρ ++ [D]) G (M ++ [.st []]) := by
    subst hG
    exact rm.push nD ⟨_, upd_same, fun _ => by simp⟩
  have hl0 : (ρ ++ [D])[M.length]? = some D := by rw [← rm.len]; simp
  have old : ∀ b ∈ fp, b < s2.heap.objs.size := fun b hb => by
    obtain ⟨o, e, _⟩ := T.obj _ _ st2 b hb
    exact Heap.lt_size e
  have fG : ∀ b ∈ fp, FpOk X pins G b ∧ b < z.heap.objs.size := fun b hb => by
    refine ⟨⟨?_, (f2 b hb).2⟩, by rw [hzh, Heap.size_push]; exact Nat.lt_succ_of_lt (old b hb)⟩
    rw [← hG, upd_ne (by rw [← hD]; exact Nat.ne_of_lt (old b hb))]
    exact (f2 b hb).1
  have I4 := block_start I3 ok hN fG
  have stz : tn 0 z.heap := T.keep _ _ _ st2 fun b _ o e => by rw [hzh]; exact Heap.get?_push_of_some _ e
  have ag := hg z G z.heap.objs.size (cellsFrom (z.heap.objs.size + 1) scope.names (cloFrom X.env.cells scope.names [])) fp
  have at' := ht z G z.heap.objs.size (cellsFrom (z.heap.objs.size + 1) scope.names (cloFrom X.env.cells scope.names [])) fp
  have av := he z G z.heap.objs.size (cellsFrom (z.heap.objs.size + 1) scope.names (cloFrom X.env.cells scope.names [])) fp
  show codeAny _ _ (.compStart (.SetComp vx [⟨tg, iter, ifs, 0⟩] scope pos) 0 (.ref it) (.ref D) (compEnvC scope (cellsFrom (z.heap.objs.size + 1) scope.names (cloFrom X.env.cells scope.names [])) z.heap.objs.size X.env)) (compPost (model X.prog X.w) X.A X.xe use Qf (.ref D) z.heap.objs.size) { z with heap := pushCells (z.heap.push { cls := .type "dict", data := .dict #[] }) scope.names }
  generalize hce : compEnvC scope (cellsFrom (z.heap.objs.size + 1) scope.names (cloFrom X.env.cells scope.names [])) z.heap.objs.size X.env = ce at I4 ag at' av ⊢
  have ceL : ce.locals = z.heap.objs.size := by subst hce; rfl
  generalize hy : ({ z with heap := pushCells (z.heap.push { cls := .type "dict", data := .dict #[] }) scope.names } : Shared) = y at I4 ⊢
  have sty : tn 0 y.heap := T.keep _ _ _ stz fun b _ o e => by rw [← hy]; exact pushCells_keeps _ _ _ _ (Heap.get?_push_of_some _ e)
  have nG : ∀ b ∈ fp, G b = none := fun b hb => (fG b hb).1.1
  have r : RE (X.gx W.Tb) W σ ρ H2 Is (scA src t ft fe M.length (wipeA τ (own.map (·.2))) (src.size M) 0 (M ++ [.st []])) Q := r
  generalize hM : M.length = l at r hl0
  generalize M ++ [Cell.st []] = M0 at r m0
  have fpo : ∀ {σ' : L2.St} {H' : Hp} {s' : Shared}, L2.Inv (X.blk z G scope ce fp) [] σ' H' s' → (∀ b ∈ fp, H' b = none) → ∀ b ∈ fp, FpOk (X.blk z G scope ce fp) [] H' b := by
    intro σ' H' s' I' hn b hb
    refine ⟨hn b hb, (I'.ok.exf b hb).1, I'.ok.exfs b hb, .inl hb, fun x c e => (I'.ok.exf b hb).2 x c e, fun p hp => ?_⟩
    exact absurd (show p ∈ ([] : List (Addr × Obj)) ++ [] from hp) (by simp)
  have loop : codeAny (model X.prog X.w) X.A (.compLoop (.SetComp vx [⟨tg, iter, ifs, 0⟩] scope pos) 0 (.ref it) (.ref D) ce) (compPost (model X.prog X.w) X.A X.xe use Qf (.ref D) z.heap.objs.size) y := by
    refine PpSet.compLoopS_any (fun n s' => ∃ i H' M' ρ', L2.Inv (X.blk z G scope ce fp) [] (L2.wipe σ (own.map (·.2))) H' s' ∧ tn i s'.heap ∧ (∀ b ∈ fp, H' b = none) ∧ Ext (ρ ++ [D]) ρ' ∧ Grow H2 H' ∧ RM (X.am W.Tb) ρ' H' M' ∧ RE (X.gx W.Tb) W σ ρ' H' Is (scA src t ft fe l (wipeA τ (own.map (·.2))) n i M') Q)
      ?_ (src.size M) ⟨0, G, M0, ρ ++ [D], I4, sty, nG, .refl _, g0, m0, RE.mono r (.snoc _ _) g0⟩
    rintro n s5 ⟨i, H5, M5, ρ5, I5, st5, n5, x5, g5, m5, r5⟩
    have xx : Ext ρ ρ5 := (Ext.snoc ρ D).trans x5
    cases n with
    | zero => exact r5.elim
    | succ n =>
      unfold scA at r5
      have jj := ij ρ5 H5 M5 i xx g5 m5
      cases ea : src.at M5 i with
      | none => rw [ea] at r5; exact r5.elim
      | some o =>
        cases o with
        | none =>
          rw [ea] at r5 jj
          have td := T.done (X.blk z G scope ce fp) rfl rfl rfl hc i [] s5 _ H5 (fun _ _ => False) I5 (fpo I5 n5) st5 jj
          refine thnF td fun rr s6 ⟨hr, I6⟩ => ?_
          subst hr
          have I7 : L2.Inv X pins σ H5 s6 := I3.call' (ch := fp) I6.os I6.base I6.hok I6.bare fun b hb => by
            obtain ⟨⟨f0, f1, f2, f3, f4, f5⟩, _⟩ := fG b hb
            exact ⟨f3, f1, f4, f5⟩
          have nC : H5 z.heap.objs.size = none := by
            have q : H5 ce.locals = none := I6.free
            rwa [ceL] at q
          obtain ⟨mm, hn, _⟩ := I6.loc
          have hn : s6.heap.Ns ce.locals mm := hn
          rw [ceL] at hn
          exact hend D z.heap.objs.size s6 mm H5 I7 (RE.okv (a := A.dct l) (M := M5) (rel := Is) r5 (.refl _) (.refl _) m5 (.dct (x5.get hl0))) hn (I3.fpOk (Nat.le_refl _) nC)
        | some a =>
          rw [ea] at r5 jj
          obtain ⟨go, yy⟩ := jj
          dsimp only at r5
          have ti := T.item (X.blk z G scope ce fp) rfl rfl rfl hc i [] s5 _ H5 (fun _ _ => False) I5 (fpo I5 n5) st5 go
          refine thnF ti fun rr s6 ⟨u, hr, h6⟩ => ?_
          subst hr
          refine thnF h6 fun _ s7 ⟨x, H7, I7, r7, y7, st7, n7⟩ => ?_
          obtain ⟨g7, m7, ia⟩ := yy x H7 y7
          have P7 := I7.pinned (fpo I7 n7) (T.obj _ _ st7)
          have g57 := g5.trans g7
          cases et : t.set a (wipeA τ (own.map (·.2))) with
          | none => rw [et] at r5; exact r5.elim
          | some τ1 =>
            rw [et] at r5
            dsimp only at r5
            have r5 := RE.mono r5 (.refl _) g7
            refine thnF (ag.run _ s7 _ H7 x u (fun σ1 H' => H' = H7 ∧ RS W.nx ρ5 H7 τ1 σ1 ∧ L2.wipe σ1 (own.map (·.2)) = L2.wipe σ (own.map (·.2))) P7 r7 ?_) fun _ s8 ⟨σ1, H8, I8, e8, rs1, ew⟩ => ?_
            · refine ⟨a, wipeA τ (own.map (·.2)), ρ5, τ1, ia, ((rs.mono xx g57).wipe _).s, et, fun σ1 q1 sb => ⟨rfl, ⟨(rs.mono xx g57).ext, (rs.mono xx g57).grow, q1⟩, ?_⟩⟩
              rw [sb.wipe ho]
              exact wipe_wipe σ _
            subst e8
            -- a turn's end
            have fin : ∀ {s' : Shared} {H' : Hp} {M' : Store} {ρ' : List Addr}, L2.Inv (X.blk z G scope ce fp) ([] ++ pinsAt fp s7.heap) σ1 H' s' → Ext (ρ ++ [D]) ρ' → Grow H2 H' → RM (X.am W.Tb) ρ' H' M' → RE (X.gx W.Tb) W σ ρ' H' Is (scA src t ft fe l (wipeA τ (own.map (·.2))) n (i + 1) M') Q →
                ∃ m, m < n + 1 ∧ ∃ i H' M' ρ', L2.Inv (X.blk z G scope ce fp) [] (L2.wipe σ (own.map (·.2))) H' s' ∧ tn i s'.heap ∧ (∀ b ∈ fp, H' b = none) ∧ Ext (ρ ++ [D]) ρ' ∧ Grow H2 H' ∧ RM (X.am W.Tb) ρ' H' M' ∧ RE (X.gx W.Tb) W σ ρ' H' Is (scA src t ft fe l (wipeA τ (own.map (·.2))) m i M') Q := by
              intro s' H' M' ρ' I' x' g' m' r'
              have pin' : ∀ b ∈ fp, ∀ o, s7.heap.get? b = some o → s'.heap.get? b = some o ∧ H' b = none := fun b hb o e => by
                have q := I'.pin (b, o) (List.mem_append_right _ (List.mem_append_right _ (mem_pinsAt hb e)))
                exact ⟨q.1, q.2.1⟩
              refine ⟨n, Nat.lt_succ_self n, i + 1, H', M', ρ', (I'.unpinned (pins := [])).weak (by rw [← ew, wipe_length]) (fun j v e => ?_), T.keep _ _ _ st7 (fun b hb o e => (pin' b hb o e).1), fun b hb => ?_, x', g', m', r'⟩
              · rw [← ew] at e
                exact (wipe_some e).1
              · obtain ⟨o, e, _⟩ := T.obj _ _ st7 b hb
                exact (pin' b hb o e).2
            refine thnF (at'.run _ s8 σ1 H8 (fun k H' => ∃ M' ρ', ft τ1 M5 = .ok k M' ∧ Ext ρ5 ρ' ∧ Grow H8 H' ∧ RM (X.am W.Tb) ρ' H' M') I8 ?_) fun k s9 ⟨H9, I9, M9, ρ9, e9, x9, g9, m9⟩ => ?_
            · refine ⟨τ1, M5, ρ5, rs1, m7, ?_⟩
              cases e1 : ft τ1 M5 with
              | ok k M1 =>
                intro k' H' ρ' x g m ik
                have ik : k = k' := ik
                subst ik
                exact ⟨M1, ρ', rfl, x, g, m⟩
              | ex en M1 => rw [e1] at r5; exact r5.elim
              | bad => rw [e1] at r5; exact r5.elim
            rw [e9] at r5
            cases k with
            | false =>
              simp only [Bool.false_eq_true, if_false]
              dsimp only at r5
              exact fin I9 (x5.trans x9) (g57.trans g9) m9 (RE.mono r5 x9 g9)
            | true =>
              simp only [if_true]
              dsimp only at r5
              refine thnF (av.run _ s9 σ1 H9 (fun yv H' => ∃ y M' ρ', fe τ1 M9 = .ok y M' ∧ Ext ρ9 ρ' ∧ Grow H9 H' ∧ RM (X.am W.Tb) ρ' H' M' ∧ Is ρ' H' y yv) I9 ?_) fun u2 sb ⟨yv, Hb, Ib, rb, yA, Mb, ρb, eb, xb, gb, mb, iy⟩ => ?_
              · refine ⟨τ1, M9, ρ9, rs1.mono x9 g9, m9, ?_⟩
                cases e1 : fe τ1 M9 with
                | ok k M1 =>
                  intro k' H' ρ' x g m ik
                  exact ⟨k, M1, ρ', rfl, x, g, m, ik⟩
                | ex en M1 => rw [e1] at r5; exact r5.elim
                | bad => rw [e1] at r5; exact r5.elim
              rw [eb] at r5
              dsimp only at r5
              cases ep : sPut Mb l yA with
              | none => rw [ep] at r5; exact r5.elim
              | some Mc =>
                rw [ep] at r5
                dsimp only at r5
                have hbD : ρb[l]? = some D := xb.get (x9.get (x5.get hl0))
                refine thnF (s_put (X := X.blk z G scope ce fp) Ib mb hbD iy rb ep) fun _ sc ⟨Hc, Ic, gc, mc⟩ => ?_
                exact fin Ic (x5.trans (x9.trans xb)) (((g57.trans g9).trans gb).trans gc) mc (RE.mono r5 (x9.trans xb) ((g9.trans gb).trans gc))
  exact PpSet.codeAny_compStart_set loop (T.self X.A 0 _ _ _ sty loop)
theorem ae_sc (own : List (Str × Nat)) {vx tg iter : Expr} {ifs : List Expr} {scope : Scope} {fi : EI} {t : Tgt} {ft : EFb} {fe : EF} (hc : X.calm = true) (hN : X.N.Nodup) (ok : BlkOk X.N X.env.scope scope own) (ho : ∀ i ∈ t.own, i ∈ own.map (·.2)) (hi : AI X W tg iter fi)
    (hg : ∀ (s : Shared) (H : Hp) (C : Addr) (cl : List (Str × Addr)) (fp : List Addr), AG (X.blk s H scope (compEnvC scope cl C X.env) fp) tg t) (ht : ∀ (s : Shared) (H : Hp) (C : Addr) (cl : List (Str × Addr)) (fp : List Addr), ATs (X.blk s H scope (compEnvC scope cl C X.env) fp) W.nx ifs ft)
    (he : ∀ (s : Shared) (H : Hp) (C : Addr) (cl : List (Str × Addr)) (fp : List Addr), AE (X.blk s H scope (compEnvC scope cl C X.env) fp) W.nx vx fe) (hs : ∀ x, foldedSetIterable iter X.env x = pure x := by intro _; rfl) :
    AE X W (.SetComp vx [⟨tg, iter, ifs, 0⟩] scope pos) (eSc fi t ft fe (own.map (·.2))) := ⟨fun pins s σ H Q I h => by
  rw [PpSet.eval_SetComp]
  refine sc_core_i own hc hN ok ho hi hg ht he hs I h fun D C s' m H' I' q hn f => ⟨m, hn, fun h'' sb => ?_⟩
  obtain ⟨f0, f1, f2, f3, f4, f5⟩ := f
  exact ⟨.ref D, H', I'.turned (t' := s'.toks) (fun b o hb e => (sb.2 b hb).trans e) f0 f1 f3 f4 f5, rfl, q⟩⟩
def oLenSt : On := fun as M => match as with
  | [.dct l] => match M[l]? with
    | some (.st xs) => if xs.length < 1000000 then some (.int (xs.length : Nat), M) else none
    | _ => none
  | _ => none
theorem cr_lenSt : CallR X (.builtin "len") (rn (X.am W.Tb) oLenSt) := by
  intro pins s σ H xs us Q I r h
  obtain ⟨as, M, ρ, is, m, ro⟩ := h
  unfold oLenSt at ro
  split at ro
  · rename_i l
    split at ro
    · rename_i zs ec
      split at ro
      · rename_i hz
        cases is with
        | cons i1 is =>
          cases is
          cases i1 with
          | dct hl =>
            obtain ⟨S, hS, hk⟩ := m.at_ _ _ _ hl ec
            obtain ⟨o, es, ep, t, ho, hex, hd, _, _, _, _, hf, hn, _⟩ := setO_get I hS
            cases r with
            | cons r1 r2 =>
              cases r2
              cases r1
              exact call_len_set ho hex hd hf (by rw [hn]; omega) ⟨.int zs.length, H, I.tok _, ⟨_, by rw [hn]⟩, ro.val m (.int _)⟩
      · exact ro.elim
    · exact ro.elim
  · exact ro.elim
end
end AB
/-! AB25: t[::-1] of a list or a tuple -/
namespace AB
open PySem PySem.Spec PyProof.Rows L2
section
variable {prog : Program} {w : World} {Ar : Around} {E : Value → Shared → Prop} {s : Shared}
theorem places_rev (n : Nat) : Builtin.Slice.slicePlaces ((n : Int) - 1) (-1) (-1) = n := by
  unfold Builtin.Slice.slicePlaces
  rw [if_neg (by omega)]
  by_cases h : (n : Int) - 1 > -1
  · rw [if_pos h, show (- -1 : Int) = 1 from rfl, Int.ediv_one]; omega
  · rw [if_neg h]; omega
theorem applied_rev {sl : Addr} {vl vu vs : Value} {n : Nat} {Q : Int × Int × Nat → Shared → Prop} (hs : s.heap.IsSliceOf sl vl vu vs) (pl : IsPart vl none) (pu : IsPart vu none) (ps : IsPart vs (some (-1))) (h : Q ((n : Int) - 1, -1, n) s) :
    wpAny (model prog w) Ar (Builtin.Slice.sliceApplied (.ref sl) (pure (n : Int))) Q E s := by
  obtain ⟨oz, ho1, ho2, ho3⟩ := hs
  unfold Builtin.Slice.sliceApplied Builtin.Slice.sliceFields
  refine wpAny_bind (wpAny_bind (wpAny_field ho1 ho3 (x := vl) rfl (wpAny_bind (wpAny_field ho1 ho3 (x := vu) rfl (wpAny_bind (wpAny_field ho1 ho3 (x := vs) rfl (wpAny_pure ?_)))))))
  refine wpAny_bind (HT.slicePart_ ps ?_)
  show wpAny _ _ (if ((-1 : Int) == 0) = true then _ else _) _ _ s
  rw [if_neg (show ¬ ((-1 : Int) == 0) = true by decide)]
  refine wpAny_bind (HT.slicePart_ pl (wpAny_bind (HT.slicePart_ pu (wpAny_bind (wpAny_pure ?_)))))
  show wpAny _ _ (pure ((n : Int) - 1, (-1 : Int), Builtin.Slice.slicePlaces ((n : Int) - 1) (-1) (-1))) _ _ s
  rw [places_rev]; exact wpAny_pure h
theorem fm_some {α β : Type} {f : α → Option β} {g : α → β} : ∀ l : List α, (∀ k ∈ l, f k = some (g k)) → l.filterMap f = l.map g
  | [], _ => rfl
  | k :: l, h => by
    rw [List.filterMap_cons, h k (by simp), List.map_cons, fm_some l fun j hj => h j (by simp [hj])]
theorem pick_rev (xs : Array Value) : ((List.range xs.size).filterMap fun (k : Nat) => xs[((xs.size : Int) - 1 + (k : Int) * -1).toNat]?).toArray = xs.toList.reverse.toArray := by
  congr 1
  refine List.ext_getElem? fun i => ?_
  have e : ((List.range xs.size).filterMap fun (k : Nat) => xs[((xs.size : Int) - 1 + (k : Int) * -1).toNat]?) = (List.range xs.size).map fun k => (xs.toList.reverse)[k]?.getD .none := by
    refine fm_some _ fun k hk => ?_
    have hk := List.mem_range.mp hk
    have e1 : ((xs.size : Int) - 1 + (k : Int) * -1).toNat = xs.size - 1 - k := by omega
    rw [e1, List.getElem?_reverse (by simpa using hk)]
    have : xs.size - 1 - k < xs.size := by omega
    simp [this]
  rw [e, List.getElem?_map]
  by_cases hi : i < xs.size
  · rw [List.getElem?_range hi]
    have : i < xs.toList.reverse.length := by simpa using hi
    simp only [Option.map_some, List.getElem?_eq_getElem this, Option.getD_some]
  · rw [List.getElem?_eq_none (by simpa using hi), List.getElem?_eq_none (by simpa using hi)]
    rfl
theorem getItem_rev {t sl : Addr} {items : Array Value} {vl vu vs : Value} {Q : Value → Shared → Prop} (ht : IsTup s.heap t items) (hs : s.heap.IsSliceOf sl vl vu vs) (pl : IsPart vl none) (pu : IsPart vu none) (ps : IsPart vs (some (-1)))
    (h : Q (.ref s.heap.objs.size) { s with heap := s.heap.push { cls := .type "tuple", data := .seq items.toList.reverse.toArray } })
    (hz : items.size ≤ sizeLine) : wpAny (model prog w) Ar (getItem (.ref t) (.ref sl)) Q E s := by
  have hz2 : sizeOk (.seq items.toList.reverse.toArray) := by
    show items.toList.reverse.toArray.size ≤ sizeLine
    simpa using hz
  have hT : s.TypeIs (.ref sl) "slice" := by
    obtain ⟨oz, ho1, ho2, _⟩ := hs
    exact ⟨oz, ho1, ho2⟩
  unfold getItem
  try with_reducible refine wpAny_holding ?_
  first | refine wpAny_bind (wpAny_pure ?_) | skip
  refine wpAny_bind (wpAny_sequenceKey ht.typeIs (by decide) (wpAny_bind (wpAny_callSpecial?_slot (name := Str.ofString "__getitem__") ht.typeIs PyProof.Rows.slot_tuple_getitem
    (wpAny_call_entry PyProof.Rows.slot_tuple_getitem ht.typeIs entry_tuple_getitem ?_ (args_tuple_getitem _ _)))))
  show wpAny _ _ (Builtin.Tuple.tupleItemsOf (.ref t) >>= _) _ _ s
  refine wpAny_bind (tupleItemsOf_ ht (wpAny_bind (wpAny_typeOf hT ?_)))
  rw [if_pos (show (Value.type "slice" == Value.type "slice") = true by decide)]
  refine wpAny_bind (applied_rev hs pl pu ps ?_)
  have hno : ¬ ((((items.size : Int) - 1) == 0 && (-1 : Int) == 1 && items.size == items.size) = true) := by simp
  show wpAny _ _ (if (((items.size : Int) - 1) == 0 && (-1 : Int) == 1 && items.size == items.size) = true then _ else _) _ _ s
  rw [if_neg hno, pick_rev]
  first
    | exact wpAny_bind (m := Builtin.Tuple.tupleExact _) (wpAny_newObj_type (wpAny_pure ⟨_, rfl, wpAny_pure h⟩) hz2)
    | exact wpAny_bind (m := Builtin.Tuple.tupleExact _) (wpAny_newObj_type (wpAny_bind (wpAny_pure (wpAny_pure ⟨_, rfl, wpAny_pure h⟩))) hz2)
    | exact wpAny_bind (wpAny_bind (m := Builtin.Tuple.tupleExact _) (wpAny_newObj_type (wpAny_pure (wpAny_pure ⟨_, rfl, wpAny_pure h⟩)) hz2))
    | exact wpAny_bind (wpAny_bind (m := Builtin.Tuple.tupleExact _) (wpAny_newObj_type (wpAny_pure ⟨_, rfl, wpAny_pure h⟩) hz2))
end
/-! ### x[::-1] -/
def tRevA (K : PySem.W.Frag) (te : TE) : TE := fun σ H Q => te σ H fun x H1 => ∃ a xs, x = .ref a ∧ ((SqL K H1 a xs ∧ ∀ p, H1 p = none → Q (.ref p) (upd H1 p (.lst xs.reverse))) ∨ (SqT K H1 a xs ∧ ∀ p, H1 p = none → Q (.ref p) (upd H1 p (.tup xs.reverse))))
section
variable {X : Cx} {W : WR} {pos : Pos} {a : Expr} {f : EF}
theorem pe_revA {e : Expr} {te : TE} {k : Nat} {p1 p2 p3 pos : Pos} (he : PE X e te) : PE X (.Subscript e (.Slice none none (some (.UnaryOp .USub (.Constant (.int 1) k p1) p2)) p3) pos) (tRevA X.K te) := by
  refine ⟨fun pins s σ H Q I h => Subscript_ (thn (he.run pins s σ H _ I h) fun v s1 ⟨x, H1, I1, r1, a, xs, ex, hx⟩ => ?_)⟩
  subst ex
  cases r1
  have hst : PO X (some (.UnaryOp .USub (.Constant (.int 1) k p1) p2)) (tPart (tUn (rU fun i => .int (-i)) (tC (.int 1)))) := po_some (pe_un un_neg pe_int)
  refine wpAny_Slice (thn (po_none.run pins s1 σ H1 (fun o H2 => o = none ∧ H2 = H1) I1 ⟨rfl, rfl⟩) fun vl s2 ⟨l, H2, I2, pl, el, e2⟩ => thn (po_none.run pins s2 σ H2 (fun o H3 => o = none ∧ H3 = H2) I2 ⟨rfl, rfl⟩) fun vu s3 ⟨u, H3, I3, pu, eu, e3⟩ => ?_)
  subst el e2 eu e3
  refine thn (hst.run pins s3 σ H3 (fun o H4 => o = some (-1) ∧ H4 = H3) I3 ⟨1, rfl, -1, rfl, rfl, rfl⟩) fun vs s4 ⟨o, H4, I4, ps, eo, e4⟩ => ?_
  subst eo e4
  generalize hs5 : ({ s4 with heap := s4.heap.push { cls := .type "slice", data := .fields #[vl, vu, vs] } } : Shared) = s5
  have I5 : L2.Inv X pins σ H4 s5 := by
    rw [← hs5]
    exact I4.kept (t' := s4.toks) fun b ob q => Heap.get?_push_of_some _ q
  have hsl : s5.heap.IsSliceOf s4.heap.objs.size vl vu vs := by rw [← hs5]; exact Heap.IsSliceOf.new _ vl vu vs
  show wpAny (model X.prog X.w) X.A (subscriptTail e (.Slice none none (some (.UnaryOp .USub (.Constant (.int 1) k p1) p2)) p3) (.ref a) (.ref s4.heap.objs.size)) (EP X pins σ Q) X.xe _
  generalize s4.heap.objs.size = sl at hsl
  rcases hx with ⟨hx, q⟩ | ⟨hx, q⟩
  · obtain ⟨its, r, ht, hz⟩ := I5.list hx
    have hlen := r.length
    refine tail_any (ops := [.ref a, .ref sl]) ht.isList.typeIs (PySem.slot_list_getitem.lookup) (wpAny_getItem_list_slice ht.isList hsl pl pu ps (by decide) ?_ (by rw [List.size_toArray]; omega)) (by with_unfolding_all rfl)
    rw [PySem.W.krv_pick]
    exact ⟨.ref _, _, I5.laid (t' := s5.toks) (o := .lst xs.reverse) (fun b ob q => Heap.get?_push_of_some _ q) (Nat.le_refl _) ⟨by rw [List.length_reverse]; exact hz, _, 0, r.reverse, Heap.get?_push_size _ rfl⟩, rfl, q _ (I5.hok.fresh (Nat.le_refl _))⟩
  · obtain ⟨its, r, ht, hz⟩ := I5.tuple hx
    have hlen : its.toArray.size = xs.length := by rw [List.size_toArray]; exact r.length.symm
    refine tail_any (ops := [.ref a, .ref sl]) ht.typeIs (PyProof.Rows.slot_tuple_getitem.lookup) (getItem_rev ht hsl pl pu ps ?_ (by rw [hlen]; exact hz)) (by with_unfolding_all rfl)
    exact ⟨.ref _, _, I5.laid (t' := s5.toks) (o := .tup xs.reverse) (fun b ob q => Heap.get?_push_of_some _ q) (Nat.le_refl _) ⟨by rw [List.length_reverse]; exact hz, _, r.reverse, IsTup.new _ _⟩, rfl, q _ (I5.hok.fresh (Nat.le_refl _))⟩
def oRev : O1 := fun a M => match a with
  | .lst l => (listAt M l).map fun xs => (.lst M.length, M ++ [.lst xs.reverse])
  | .tup xs => some (.tup xs.reverse, M)
  | _ => none
theorem ae_rev {k : Nat} {p1 p2 p3 : Pos} (ha : AE X W a f) : AE X W (.Subscript a (.Slice none none (some (.UnaryOp .USub (.Constant (.int 1) k p1) p2)) p3) pos) (eUn oRev f) := (pe_revA ha).pre fun σ H Q h => by
  refine (seqG (G := (X.gx W.Tb)) (W := W) Is h).imp fun x H1 h1 => ?_
  obtain ⟨τ, M, ρ, y, rs, rm, i, r⟩ := h1
  have ro : RO (X.am W.Tb) ρ H1 (oRev y M) Q := RO.of r
  unfold oRev at ro
  cases i with
  | lst ha =>
    simp only at ro
    cases e1 : listAt M _ with
    | none => rw [e1] at ro; exact ro.elim
    | some xs =>
      rw [e1] at ro
      obtain ⟨vs, hq, is⟩ := rm.list ha e1
      exact ⟨_, vs, rfl, .inl ⟨hq, fun p hp => RO.newL (M := M) ro rm is.rev hp⟩⟩
  | tup ha qa =>
    have ro : RO (X.am W.Tb) ρ H1 (some (.tup (List.reverse _), M)) Q := ro
    exact ⟨_, _, rfl, .inr ⟨.inl (.inl ha), fun p hp => RO.newT (M := M) ro rm qa.rev hp⟩⟩
  | _ => exact ro.elim
end
end AB
/-! AB26: backward steps for set comprehensions -/
namespace AB
open PySem PySem.Spec PyProof.Rows L2
def sAdd (xs : List Int) (k : Int) : List Int := if k ∈ xs then xs else xs ++ [k]
def stOf (ks : List Int) : List Int := ks.foldl sAdd []
theorem stOf_len (ks : List Int) : (stOf ks).length ≤ ks.length := by
  have : ∀ (ks : List Int) (acc : List Int), (ks.foldl sAdd acc).length ≤ acc.length + ks.length := by
    intro ks
    induction ks with
    | nil => intro acc; simp
    | cons k ks ih =>
      intro acc
      have := ih (sAdd acc k)
      have h2 : (sAdd acc k).length ≤ acc.length + 1 := by
        unfold sAdd
        split <;> simp
      show ((ks.foldl sAdd (sAdd acc k))).length ≤ _
      simp only [List.length_cons]
      omega
  have h := this ks []
  unfold stOf
  simpa using h
theorem stOf_snoc (ks : List Int) (k : Int) : stOf (ks ++ [k]) = sAdd (stOf ks) k := by
  unfold stOf
  rw [List.foldl_append]
  rfl
theorem sPut_ok {M : Store} {l : Nat} {ks : List Int} {k : Int} (h : M[l]? = some (.st (stOf ks))) (hz : ks.length ≤ 1000) : sPut M l (.int k) = some (M.set l (.st (stOf (ks ++ [k])))) := by
  unfold sPut
  rw [h]
  dsimp only
  have := stOf_len ks
  rw [if_pos (by unfold scanBound; omega), stOf_snoc]
  rfl
section
variable {τ : Sl} {M : Store} {Q : A → Store → Prop}
theorem w_scA {src : Src} {t : Tgt} {fe : EF} {l : Nat} {τw : Sl} (xs : List A) (I : Nat → Store → Prop) (hat : ∀ i M, I i M → src.at M i = some xs[i]?)
    (hs : ∀ i x M, xs[i]? = some x → I i M → ∃ τ1, t.set x τw = some τ1 ∧ (fe τ1 M).W fun y M3 => ∃ M4, sPut M3 l y = some M4 ∧ I (i + 1) M4)
    (he : ∀ M, I xs.length M → Q (.dct l) M) :
    ∀ (n i : Nat) (M : Store), xs.length < i + n → i ≤ xs.length → I i M → (scA src t bYes fe l τw n i M).W Q
  | 0, i, M, h1, h2, _ => by omega
  | n + 1, i, M, h1, h2, h0 => by
    unfold scA
    rw [hat i M h0]
    by_cases hi : i < xs.length
    · have ex : xs[i]? = some xs[i] := List.getElem?_eq_getElem hi
      rw [ex]
      obtain ⟨τ1, e1, h⟩ := hs i _ M ex h0
      dsimp only
      rw [e1]
      dsimp only [bYes]
      obtain ⟨y, M3, ey, M4, ep, h⟩ := (show ∃ y M3, fe τ1 M = .ok y M3 ∧ ∃ M4, sPut M3 l y = some M4 ∧ I (i + 1) M4 from by with_unfolding_all exact h.out)
      rw [ey]
      dsimp only
      rw [ep]
      exact w_scA xs I hat hs he n (i + 1) M4 (by omega) hi h
    · rw [List.getElem?_eq_none (by omega)]
      have e : i = xs.length := by omega
      subst e
      with_unfolding_all exact he M h0
theorem w_sc {fi : EI} {t : Tgt} {fe : EF} {own : List Nat} (h : (fi τ M).W fun src M1 => ∃ (ks : List Int) (xs : List A), src.size M1 = xs.length + 1 ∧ ks.length = xs.length ∧ ks.length ≤ 1000 ∧ (∀ M2, Pre M1 M2 → ∀ i, src.at M2 i = some xs[i]?) ∧
    (∀ (i : Nat) (x : A) (k : Int) (M2 : Store), xs[i]? = some x → ks[i]? = some k → Pre M1 M2 → ∃ τ1, t.set x (wipeA τ own) = some τ1 ∧ (fe τ1 M2).W fun y M3 => y = .int k ∧ Pre M2 M3) ∧
    (∀ M2, Pre M1 M2 → M2[M1.length]? = some (.st (stOf ks)) → Q (.dct M1.length) M2)) : (eSc fi t bYes fe own τ M).W Q :=
  w_bind (h.imp fun src M1 ⟨ks, xs, e, hk, hz, hat, hs, hq⟩ => w_scA xs (fun i M2 => M2[M1.length]? = some (.st (stOf (ks.take i))) ∧ Pre M1 M2) (fun i M2 h => hat M2 h.2 i)
    (fun i x M2 hx hI => by
      obtain ⟨h1, p⟩ := hI
      have hi : i < ks.length := by rw [hk]; exact (List.getElem?_eq_some_iff.mp hx).1
      have ek : ks[i]? = some ks[i] := List.getElem?_eq_getElem hi
      obtain ⟨τ1, e1, w⟩ := hs i x _ M2 hx ek p
      refine ⟨τ1, e1, w.imp fun y M3 ⟨ey, p3⟩ => ?_⟩
      subst ey
      refine ⟨_, sPut_ok (p3.at h1) (by rw [List.length_take]; omega), ?_, (p.trans p3).set (Nat.le_refl _)⟩
      rw [at_set (p3.at h1), List.take_add_one, ek]
      rfl)
    (fun M2 hI => hq M2 hI.2 (by rw [hI.1, ← hk, List.take_length])) _ 0 _ (by rw [e]; omega) (Nat.zero_le _) ⟨by rw [at_new]; rfl, Fr.refl.app _⟩)
theorem lenSt {l : Nat} {ks : List Int} (h : M[l]? = some (.st (stOf ks))) (hz : ks.length ≤ 1000) : oLenSt [.dct l] M = some (.int ((stOf ks).length : Nat), M) := by
  unfold oLenSt
  dsimp only
  rw [h]
  have := stOf_len ks
  dsimp only
  rw [if_pos (by omega)]
end
end AB
/-! AB27: lambdas handed to a def and called there -/
namespace AB
open PySem PySem.Spec PyProof.Rows L2
/-! ### a lambda's names: its parameters, captured ones, globals -/
structure LamP (sc scope : Scope) (ps : List Str) : Prop where
  kind : scope.kind = .function
  co : scope.isCoroutine = false
  gen : scope.isGenerator = false
  cell : ∀ y ∈ scope.names, y.2 ≠ .cell
  own : ∀ y ∈ scope.names, y.2 = .local → y.1 ∈ ps
  par : ∀ x ∈ ps, scope.names.lookup x = some .local
  nd : ps.Nodup
  free : ∀ y ∈ scope.names, y.2 = .free → sc.names.lookup y.1 = some .cell ∨ sc.names.lookup y.1 = some .free
def lamPB (sc scope : Scope) (ps : List Str) : Bool :=
  decide (scope.kind = .function) && !scope.isCoroutine && !scope.isGenerator && (scope.names.all fun y => !decide (y.2 = .cell) && (!decide (y.2 = .local) || decide (y.1 ∈ ps)) && (!decide (y.2 = .free) || decide (sc.names.lookup y.1 = some .cell) || decide (sc.names.lookup y.1 = some .free))) &&
    (ps.all fun x => decide (scope.names.lookup x = some .local)) && decide ps.Nodup
theorem lamP_by {sc scope : Scope} {ps : List Str} (h : lamPB sc scope ps = true) : LamP sc scope ps := by
  unfold lamPB at h
  simp only [Bool.and_eq_true, Bool.or_eq_true, Bool.not_eq_true', decide_eq_true_eq, decide_eq_false_iff_not, List.all_eq_true] at h
  obtain ⟨⟨⟨⟨⟨h1, h2⟩, h3⟩, h4⟩, h5⟩, h6⟩ := h
  refine ⟨h1, h2, h3, fun y hy => (h4 y hy).1.1, fun y hy e => ?_, h5, h6, fun y hy e => ?_⟩
  · rcases (h4 y hy).1.2 with z | z
    · exact absurd e z
    · exact z
  · rcases (h4 y hy).2 with (z | z) | z
    · exact absurd e z
    · exact .inl z
    · exact .inr z
theorem LamP.has {X : Cx} {scope : Scope} {ps : List Str} (L : LamP X.env.scope scope ps) (ok : X.Ok) : ∀ y ∈ scope.names, y.2 = .free → ∃ c, X.env.cells.lookup y.1 = some c := fun y hy e => by
  rcases L.free y hy e with k | k
  · exact ok.has _ (.inl k)
  · exact ok.has _ (.inr k)
/-- the context of the lambda's body -/
abbrev lamCxP (X : Cx) (A : Around) (outer : List Env) (s : Shared) (H : Hp) (E : XK) (scope : Scope) (f c' : Addr) (ps : List Str) : Cx := { LamX.lamCx X A outer s H E scope f c' with N := X.N ++ ps }
/-- the lambda's object as it stands -/
def LamAt (X : Cx) (s : Shared) (H : Hp) (params : Arguments) (body : Expr) (scope : Scope) (f c' : Addr) (pm ctv : Value) : Prop :=
  s.heap.get? f = some (PySem.W.kla_obj "<lambda>" (X.env.qual ++ "<lambda>") params body scope (cloFrom X.env.cells scope.names []) pm c' ctv) ∧ H f = none ∧ f ∉ frs X.stack ∧ H c' = some (LamX.CodeO c' (X.env.qual ++ "<lambda>"))
section
variable {X : Cx} {pins : List (Addr × Obj)} {σ : L2.St} {H HZ : Hp} {s s1 : Shared}
theorem mem_reverse_lookup {ps : List Str} {us : List Value} (nd : ps.Nodup) (hl : us.length = ps.length) {i : Nat} {x : Str} {u : Value} (h1 : ps[i]? = some x) (h2 : us[i]? = some u) : (ps.zip us).reverse.lookup x = some u := by
  have hnd : ((ps.zip us).reverse.map (·.1)).Nodup := by
    rw [List.map_reverse, List.map_fst_zip (by omega)]
    exact (List.reverse_perm _).nodup_iff.mpr nd
  have hm : (x, u) ∈ (ps.zip us).reverse := by
    rw [List.mem_reverse]
    refine List.mem_of_getElem? (i := i) ?_
    rw [List.getElem?_zip_eq_some]
    exact ⟨h1, h2⟩
  generalize (ps.zip us).reverse = l at hnd hm
  induction l with
  | nil => cases hm
  | cons p l ih =>
    obtain ⟨y, z⟩ := p
    rw [List.map_cons, List.nodup_cons] at hnd
    rcases List.mem_cons.mp hm with e | e
    · cases e
      simp [List.lookup]
    · have ne : (x == y) = false := by
        rw [beq_eq_false_iff_ne]
        intro z'
        subst z'
        exact hnd.1 (List.mem_map.mpr ⟨_, e, rfl⟩)
      simp only [List.lookup, ne]
      exact ih hnd.2 e
/-- a captured name's cell is the maker's -/
theorem caught_of {cells : List (Str × Addr)} {names : List (Str × NameKind)} (all : ∀ y ∈ names, y.2 = .free → ∃ b, cells.lookup y.1 = some b) {z : Str} {b : Addr} (h : (cloFrom cells names []).lookup z = some b) : cells.lookup z = some b := by
  rcases cloFrom_mem (PySem.mem_of_lookup h) with none | ⟨isFree, eb⟩
  · exact absurd none List.not_mem_nil
  · obtain ⟨b', hb'⟩ := all _ isFree rfl
    have same : b = b' := by rw [eb, show cells.lookup z = some b' from hb']; rfl
    rw [same]
    exact hb'
/-- each captured name has one -/
theorem caught_has {cells : List (Str × Addr)} {names : List (Str × NameKind)} {z : Str} (h : names.lookup z = some .free) : ∃ b, (cloFrom cells names []).lookup z = some b :=
  mem_lookup (cloFrom_has (cells := cells) (acc := []) (PySem.mem_of_lookup h))
/-- the lambda's frame: its parameters, and what it captured as the maker left it -/
theorem lam_startP {A : Around} {outer : List Env} {E : XK} {scope : Scope} {f c' : Addr} {h₁ : Heap} {tk : Nat} {ps : List Str} {us : List Value} {vs : List V} (I : Inv X pins σ H s) (L : LamP X.env.scope scope ps) (e0 : Env0 X.prog X.w X.K X.mg X.base A outer s1 HZ) (hd : A.handled = none)
    (un : Un (frs X.stack) [] H HZ s.heap s1.heap) (hdis : ∀ x ∈ ps, x ∉ X.N) (hl : us.length = ps.length) (hv : Vals vs us) (hns : h₁.Ns s1.heap.objs.size fun y => (ps.zip us).reverse.lookup y) (kp : ∀ b o, s1.heap.get? b = some o → h₁.get? b = some o) :
    Inv (lamCxP X A outer s1 HZ E scope f c' ps) [] (σ ++ vs.map some) HZ { s1 with heap := h₁, toks := tk } := by
  have back : ∀ {z b}, (cloFrom X.env.cells scope.names []).lookup z = some b → X.env.cells.lookup z = some b := fun h => caught_of (L.has I.ok) h
  have still : ∀ {b : Addr} {v : Option Value}, H b = none → s.heap.IsCell b v → h₁.IsCell b v := fun {b v} untold ⟨ob, hob, hdat⟩ => by
    obtain ⟨slots, q⟩ := un.any hob untold (by simp)
    exact ⟨_, kp _ _ q, hdat⟩
  have nex : ∀ b : Addr, b ∉ (lamCxP X A outer s1 HZ E scope f c' ps).ex := fun b z => absurd (show b ∈ ([] : List Addr) from z) (by simp)
  have ok : (lamCxP X A outer s1 HZ E scope f c' ps).Ok :=
    { mod := e0.mod
      kind := L.kind
      glob := rfl
      blt := rfl
      above := Nat.le_refl _
      inj := fun y z b t1 t2 => I.ok.inj y z b (back t1) (back t2)
      has := fun y hy => by
        rcases (show scope.names.lookup y = some .cell ∨ scope.names.lookup y = some .free from hy) with t | t
        · exact absurd rfl (L.cell _ (PySem.mem_of_lookup t))
        · exact caught_has t
      cab := fun y b z _ => absurd (show false = true from z) (by simp)
      hd := fun _ => hd
      frames := Around.frames_deeper e0.frames
      stk := .inr ⟨rfl, rfl⟩
      exf := fun b z => absurd z (nex b)
      bs := e0.bs
      bsz := e0.bsz
      noex := fun b _ _ => nex b
      exfs := fun b z => absurd z (nex b)
      funs := e0.funs
      frf := e0.frf }
  have many : vs.length = ps.length := by rw [hv.length, hl]
  -- what a name that is seen holds
  have names : ∀ (i : Nat) (y : Str) (v : V), (X.N ++ ps)[i]? = some y → (σ ++ vs.map some)[i]? = some (some v) → Vis scope y →
      ∃ u, RelV v u ∧ Look (lamCxP X A outer s1 HZ E scope f c' ps).env h₁ (fun y => (ps.zip us).reverse.lookup y) y u := by
    intro i y v t1 t2 seen
    by_cases hi : i < X.N.length
    · -- one of the maker's
      rw [List.getElem?_append_left hi] at t1
      rw [List.getElem?_append_left (by rw [I.len]; exact hi)] at t2
      rcases seen with t | t | t
      · exact absurd (List.mem_of_getElem? t1) (hdis _ (L.own _ (PySem.mem_of_lookup t) rfl))
      · exact absurd rfl (L.cell _ (PySem.mem_of_lookup t))
      · have from_ := L.free _ (PySem.mem_of_lookup t) rfl
        obtain ⟨mm, _, told⟩ := I.loc
        obtain ⟨u, ru, how⟩ := told i y v t1 t2 (from_.elim (fun q => .inr (.inl q)) fun q => .inr (.inr q))
        obtain ⟨b, hb⟩ := caught_has (cells := X.env.cells) t
        have hb' := back hb
        refine ⟨u, ru, .inr ⟨.inr t, b, hb, ?_⟩⟩
        rcases how with ⟨loc, _⟩ | ⟨_, b2, hb2, isC⟩
        · have loc : X.env.scope.names.lookup y = some .local := loc
          rcases from_ with q | q
          · rw [show X.env.scope.names.lookup y = _ from q] at loc; cases loc
          · rw [show X.env.scope.names.lookup y = _ from q] at loc; cases loc
        · rw [hb'] at hb2
          cases hb2
          exact still (I.freeC y _ hb') isC
    · -- a parameter
      rw [List.getElem?_append_right (by omega)] at t1
      rw [List.getElem?_append_right (by rw [I.len]; omega), I.len, List.getElem?_map] at t2
      obtain ⟨v', hv', ev⟩ := Option.map_eq_some_iff.mp t2
      cases ev
      obtain ⟨u, hu, ru⟩ := hv.get hv'
      exact ⟨u, ru, .inl ⟨L.par _ (List.mem_of_getElem? t1), mem_reverse_lookup L.nd hl t1 hu⟩⟩
  exact
    { ok := ok
      os := rfl
      bare := e0.bare
      base := Un.kept kp
      loc := ⟨_, hns, names⟩
      cell := fun y b t => by
        obtain ⟨v, isC⟩ := I.cell y b (back t)
        exact ⟨v, still (I.freeC y b (back t)) isC⟩
      free := e0.hok.fresh (Nat.le_refl _)
      freeC := fun y b t => by
        obtain ⟨v, ob, hob, _⟩ := I.cell y b (back t)
        exact un.free b ob hob (I.freeC y b (back t)) (by simp)
      pin := fun q hq => absurd (show q ∈ ([] : List (Addr × Obj)) from hq) (by simp)
      hok := e0.hok.kept kp
      len := by
        show (σ ++ vs.map some).length = (X.N ++ ps).length
        rw [List.length_append, List.length_append, List.length_map, I.len, many] }
end
/-! ### what is called -/
/-- act(..): slot i holds the object of number l -/
def eAct (i l n : Nat) (act : On') (fs : EFs) : EF := fun τ M => match τ[i]? with
  | some (some (.obj j)) => if j = l then (fs τ M).bind fun as M1 => if as.length = n then act as M1 else .bad else .bad
  | _ => .bad
/-- in Z a call of what stands at number l does act -/
def ActOk (Z : Cx) (Tb : Tbl) (r : List Addr) (h : Hp) (l n : Nat) (act : On') : Prop :=
  ∀ (W : WR) (pn : List (Addr × Obj)) (xe : Value → Shared → Prop) (a : Str) (i : Nat) (p1 p2 : Pos) (es : List Expr) (fs : EFs), W.Tb = Tb → W.r = r → W.h = h → Takes (Z.tr pn xe) W.w → AA (Z.tr pn xe) W es fs → Z.N[i]? = some a → Vis Z.env.scope a →
    (a == ("__debug__" : Str)) = false → (a == ("__classdict__" : Str)) = false →
    ((es = [] ∧ fs = eNil) ∨ ∃ e es', es = e :: es' ∧ starEach (e :: es') Z.env = (false, eval e Z.env) :: starEach es' Z.env ∧ (backTo p2 (starEach es' Z.env)).any (·.1) = false) → AE (Z.tr pn xe) W (.Call (.Name a p1) es [] p2) (eAct i l n act fs)
/-- a lambda's call, its slots those of its maker and its arguments -/
def lamA (τ : Sl) (f : EF) : On' := fun as M => f (τ ++ as.map some) M
section
variable {X : Cx} {pins : List (Addr × Obj)} {σ : L2.St} {H HZ : Hp} {s s1 : Shared}
theorem RS0.app {ρ : List Addr} {H : Hp} {τ : Sl} {σ : L2.St} (r : RS0 ρ H τ σ) {as : List A} {vs : List V} (i : IsAll ρ H as vs) : RS0 ρ H (τ ++ as.map some) (σ ++ vs.map some) := by
  induction r with
  | nil =>
    induction as generalizing vs with
    | nil => cases i; exact .nil
    | cons a as ih =>
      cases i with
      | cons i is => exact .yes i (ih is)
  | no _ ih => exact .no ih
  | yes j _ ih => exact .yes j ih
theorem RE.conv {α β : Type} {G : Gx} {W W' : WR} {σ σ' : L2.St} {ρ : List Addr} {H : Hp} {rel : Rel α β} {o : EO α} {Q : β → Hp → Prop} (h : ∀ cls d H', W cls d σ H' → W' cls d σ' H') (r : RE G W σ ρ H rel o Q) : RE G W' σ' ρ H rel o Q := by
  cases o with
  | ok a M => exact r
  | ex e M => exact fun c d H2 ρ2 x2 g2 m i => h _ _ _ (r c d H2 ρ2 x2 g2 m i)
  | bad => exact r
/-- nothing of the frame's beginning is asked -/
abbrev wE (E : XK) (Tb : Tbl) : WR := ⟨fun cls d _ H => E cls d H, Tb, [], fun _ => none⟩
theorem RS.base {E : XK} {Tb : Tbl} {ρ : List Addr} {H : Hp} {τ : Sl} {σ : L2.St} (r : RS0 ρ H τ σ) : RS (wE E Tb) ρ H τ σ := ⟨⟨ρ, rfl⟩, fun _ _ _ z => (nomatch z), r⟩
theorem act_ok {Eg : XK} {Ng : List Str} {qg : Str} {sg : Scope} {g f c' : Addr} {cdg pm ctv : Value} {params : Arguments} {body : Expr} {scope : Scope} {k l : Nat} {ps : List Str} {Tb : Tbl} {r ρm : List Addr} {τ : Sl} {flam : EF}
    (I : Inv X pins σ H s) (L : LamP X.env.scope scope ps) (hla : LamAt X s H params body scope f c' pm ctv) (hdis : ∀ x ∈ ps, x ∉ X.N) (hx : Ext ρm r) (hl : r[l]? = some f) (hs : RS0 ρm H τ σ)
    (hbind : ∀ us : List Value, us.length = ps.length → bindArgs (PySem.W.kla_fn "<lambda>" (X.env.qual ++ "<lambda>") params body scope (cloFrom X.env.cells scope.names []) pm (.ref c') ctv) ⟨us, []⟩ = pure (ps.zip us))
    (hr : Room (k + 1) (X.A.deeper (envOfC qg sg s.heap.objs.size g cdg)))
    (hbody : ∀ (A : Around) (outer : List Env) (s : Shared) (H : Hp) (E : XK), Room k (A.deeper (LamX.lamEnv X scope s.heap.objs.size f c')) → AE (lamCxP X A outer s H E scope f c' ps) (wE E Tb) body flam) :
    ActOk (cxOf (L2.CX X.prog X.w) X.prog X.w X.K X.mg X.base Ng qg sg g cdg X.A X.stack s H Eg) Tb r H l ps.length (lamA τ flam) := by
  intro W pn xe a i p1 p2 es fs hT hWr hWh tk ha hN hv hd hcd hsh
  refine ⟨fun pinsZ sZ σZ HZ Q IZ h => ?_⟩
  obtain ⟨hf, hfn, hfr, hco⟩ := hla
  obtain ⟨τZ, M, ρ, rs, rm, rr⟩ := h
  unfold eAct at rr
  split at rr
  · rename_i j ej
    split at rr
    · rename_i ejl
      subst ejl
      obtain ⟨v0, hv0, iv⟩ := rs.get ej
      have ef : v0 = .ref f := by
        cases iv with
        | obj hj =>
          have q := rs.ext
          rw [hWr] at q
          have := q.get hl
          rw [hj] at this
          cases this
          rfl
      subst ef
      refine wpAny_Call_Name_kw (thn ((pe_var (X := (cxOf (L2.CX X.prog X.w) X.prog X.w X.K X.mg X.base Ng qg sg g cdg X.A X.stack s H Eg).tr pn xe) (pos := p1) (i := i) hN hv hd hcd).run pinsZ sZ σZ HZ (fun v H1 => v = .ref f ∧ H1 = HZ) IZ ⟨.ref f, hv0, rfl, rfl⟩) fun u s1 ⟨v, H1, I1, r1, q1⟩ => ?_)
      obtain ⟨ev, eH⟩ := q1
      subst ev
      rw [eH] at I1
      obtain rfl : u = Value.ref f := r1
      have ofn : ∀ {s1 : Shared} {H1 : Hp}, Inv ((cxOf (L2.CX X.prog X.w) X.prog X.w X.K X.mg X.base Ng qg sg g cdg X.A X.stack s H Eg).tr pn xe) pinsZ σZ H1 s1 → s1.heap.get? f = some (PySem.W.kla_obj "<lambda>" (X.env.qual ++ "<lambda>") params body scope (cloFrom X.env.cells scope.names []) pm c' ctv) :=
        fun I1 => I1.base.keep f _ hf hfn hfr (fun z => nomatch (show f ∈ ([] : List Addr) from z))
      -- the call itself
      have fin : ∀ (us : List Value) (vs : List V) (s2 : Shared) (H2 : Hp) (as : List A) (M2 : Store) (ρ2 : List Addr), Inv ((cxOf (L2.CX X.prog X.w) X.prog X.w X.K X.mg X.base Ng qg sg g cdg X.A X.stack s H Eg).tr pn xe) pinsZ σZ H2 s2 → Vals vs us →
          RS W ρ2 H2 τZ σZ → RM (X.am W.Tb) ρ2 H2 M2 → IsAll ρ2 H2 as vs → RE (X.gx W.Tb) W σZ ρ2 H2 Is (if as.length = ps.length then lamA τ flam as M2 else .bad) Q →
          wpAny (model X.prog X.w) (X.A.deeper (envOfC qg sg s.heap.objs.size g cdg)) (call (.ref f) us) (EP ((cxOf (L2.CX X.prog X.w) X.prog X.w X.K X.mg X.base Ng qg sg g cdg X.A X.stack s H Eg).tr pn xe) pinsZ σZ Q) xe s2 := by
        intro us vs s2 H2 as M2 ρ2 I2 rv rs2 rm2 ia rr2
        split at rr2
        · rename_i hn
          have of2 := ofn I2
          have hul : us.length = ps.length := by rw [← rv.length, ← ia.length]; exact hn
          have un : Un (frs X.stack) [] H H2 s.heap s2.heap := I2.base
          have hg := rs2.grow
          rw [hWh] at hg
          have hx2 := rs2.ext
          rw [hWr] at hx2
          have hc2 : H2 c' = some (LamX.CodeO c' (X.env.qual ++ "<lambda>")) := hg _ _ (.code _ _) hco
          obtain ⟨⟨oc, ws, t, hoc, hdc, hvc⟩, _, _⟩ := I2.hok c' _ hc2
          have rc : codeAny (model X.prog X.w) (X.A.deeper (envOfC qg sg s.heap.objs.size g cdg)) (.call (.ref f) ⟨us, []⟩) (CR (L2.CX X.prog X.w) (envOfC qg sg s.heap.objs.size g cdg :: X.stack) X.prog X.w H2 s2 Q (fun cls d H' => W cls d σZ H')) s2 := by
            refine PySem.W.kla_callFunE hr.depth of2 rfl L.co L.gen rfl ⟨c', oc, ws, t, rfl, hoc, hdc, hvc⟩ ?_
            rw [hbind us hul]
            refine wpAny_pure (wpAny_newFunctionEnv (fun y hy => L.cell y hy) (fun y hy => L.par _ (List.of_mem_zip (show (y.1, y.2) ∈ ps.zip us from hy)).1) (fun h₁ hns hsb => ⟨I2.nolimit.fresh _ hsb, ?_⟩) L.kind)
            show codeAny _ _ (.expr body (LamX.lamEnv X scope s2.heap.objs.size f c')) _ _
            have kp : ∀ b o, s2.heap.get? b = some o → h₁.get? b = some o := fun b o e => hsb.extBut b o (Nat.ne_of_lt (Heap.lt_size e)) (Heap.get?_push_of_some _ e)
            have J : Inv (lamCxP X (X.A.deeper (envOfC qg sg s.heap.objs.size g cdg)) (envOfC qg sg s.heap.objs.size g cdg :: X.stack) s2 H2 (fun cls d H' => W cls d σZ H') scope f c' ps) [] (σ ++ vs.map some) H2 { s2 with heap := h₁, toks := s2.toks + (ps.zip us).length } :=
              lam_startP I L I2.env0 hr.hd un hdis hul rv hns kp
            refine PySem.W.kla_codeExpr (wpAny_mono ((hbody _ _ s2 H2 (fun cls d H' => W cls d σZ H') (hr.deeper _)).run [] _ _ H2 Q J ?_) (fun v s' hq => ?_) fun e s' hq => hq)
            · refine ⟨τ ++ as.map some, M2, ρ2, RS.base (RS0.app (hs.mono (hx.trans hx2) hg) ia), by rw [← hT]; exact rm2, ?_⟩
              subst hT
              exact RE.conv (fun _ _ _ h => h) rr2
            · obtain ⟨w', H', J', rv, q⟩ := hq
              exact ⟨w', H', J'.os, J'.bare, J'.base, J'.hok, rv, q⟩
          refine wpAny_call (codeAny_mono rc fun r' s' hq => ?_)
          cases r' with
          | error e => exact tk e s' (XE.of_call I2 (fun _ _ _ h => h) hq)
          | ok fl =>
            cases fl with
            | ret u => exact I2.after hq
            | next => exact False.elim hq
            | brk => exact False.elim hq
            | cont => exact False.elim hq
        · exact rr2.elim
      rcases hsh with ⟨e1, e2⟩ | ⟨e, es', e1, e2, e3⟩
      · subst e1 e2
        refine PySem.W.callWith_F0 ⟨_, _, _, _, ofn I1⟩ ?_
        exact fin [] [] s1 HZ [] M ρ I1 .nil rs rm .nil rr
      · subst e1
        have hta : tG (X.gx W.Tb) W IsAll fs σZ HZ (fun vs H2 => ∃ as M2 ρ2, RS W ρ2 H2 τZ σZ ∧ RM (X.am W.Tb) ρ2 H2 M2 ∧ IsAll ρ2 H2 as vs ∧ RE (X.gx W.Tb) W σZ ρ2 H2 Is (if as.length = ps.length then lamA τ flam as M2 else .bad) Q) := by
          refine ⟨τZ, M, ρ, rs, rm, ?_⟩
          cases ef : fs τZ M with
          | ok as M2 =>
            rw [ef] at rr
            exact fun vs H2 ρ2 x2 g2 m2 i2 => ⟨as, M2, ρ2, rs.mono x2 g2, m2, i2, RE.mono rr x2 g2⟩
          | ex en M2 => rw [ef] at rr; exact rr
          | bad => rw [ef] at rr; exact rr
        refine PySem.W.callWith_F ⟨_, _, _, _, ofn I1⟩ (thn (ha.run p2 pinsZ s1 σZ HZ _ I1 hta) fun us s2 ⟨vs, H2, I2, rv, as, M2, ρ2, rs2, rm2, ia, rr2⟩ => ⟨⟨_, _, _, _, ofn I2⟩, ?_⟩) e2 e3
        exact fin us vs s2 H2 as M2 ρ2 I2 rv rs2 rm2 ia rr2
    · exact rr.elim
  · exact rr.elim
/-! ### the def that is handed a lambda (its last parameter) -/
structure FnL (P : Program) (w : World) (K : PySem.W.Frag) (mg : Str → Option Value) (Tb : Tbl) (base : Heap) (x : Str) (k n m len : Nat) (S : Nat → On' → SF) : Prop where
  ex : ∃ (fa : Addr) (fd : FuncData) (st : Stmt) (N ps : List Str), Fun K x x st fa fd ∧ FnScope N ps (defScope st) ∧ mg x = some (.ref fa) ∧ N.length = len ∧ ps.length = n ∧ Binds K fd ps [] ∧
    ∀ (cdv : Value) (A : Around) (outer : List Env) (s₀ : Shared) (H : Hp) (E : XK) (l : Nat) (r : List Addr) (act : On'), Room k (A.deeper (envOfC x (defScope st) s₀.heap.objs.size fa cdv)) →
      ActOk (cxOf (L2.CX P w) P w K mg base N x (defScope st) fa cdv A outer s₀ H E) Tb r H l m act →
      ASs (cxOf (L2.CX P w) P w K mg base N x (defScope st) fa cdv A outer s₀ H E) ⟨fun cls d _ H => E cls d H, Tb, r, H⟩ (defBody st) (S l act)
/-- where the maker's code object and its table stand -/
structure LamI (X : Cx) (Tb : Tbl) (c P : Addr) : Prop where
  code : X.env.code = .ref c
  tb : LamX.TabB X.base X.mg c P
  mem : (P, X.env.qual ++ "<lambda>") ∈ Tb
  un : ∀ p ∈ Tb, p.1 = P → p.2 = X.env.qual ++ "<lambda>"
def eLam (n len : Nat) (S : Nat → On' → SF) (flam : EF) (fs : EFs) : EF := fun τ M => (fs τ M).bind fun as M1 =>
  if as.length + 1 = n then defA len (S M1.length (lamA τ flam)) (as ++ [.obj M1.length]) (M1 ++ [.obj]) else .bad
/-- arguments and behind them the lambda -/
structure PLm (X : Cx) (Tb : Tbl) (es : List Expr) (params : Arguments) (body : Expr) (scope : Scope) (t : TA) : Prop where
  run : ∀ (pos : Pos) (pins : List (Addr × Obj)) (s : Shared) (σ : L2.St) (H : Hp) (Q : List V → Hp → Prop), Inv X pins σ H s → t σ H (fun vs H1 => LamX.Tabs Tb H1 ∧ Q vs H1) →
    wpAny (model X.prog X.w) X.A (spliced (backTo pos (starEach es X.env))) (fun us s2 => ∃ us0 f c' pm ctv vs H1 H2, us = us0 ++ [.ref f] ∧ Vals vs us0 ∧ Inv X pins σ H2 s2 ∧ LamX.ExtN H1 H2 ∧ LamX.Tabs Tb H2 ∧ LamAt X s2 H2 params body scope f c' pm ctv ∧ Q vs H1) X.xe s
theorem plm_nil {Tb : Tbl} {c P : Addr} {params : Arguments} {body : Expr} {scope : Scope} {ps : List Str} {lpos : Pos} (LI : LamI X Tb c P) (L : LamP X.env.scope scope ps) (hdef : defaultsOf params X.env = ([], []) := by rfl) :
    PLm X Tb [.Lambda params body scope lpos] params body scope tNil := by
  refine ⟨fun pos pins s σ H Q I h => ?_⟩
  obtain ⟨hT, q⟩ := h
  show wpAny _ _ (spliced ((false, eval (.Lambda params body scope lpos) X.env) :: backTo pos (starEach [] X.env))) _ _ s
  exact Calls.spliced_cons (LamX.lam_make2 I LI.tb LI.code LI.mem LI.un hT hdef (L.has I.ok) fun f c' pm' ctv H1 s' I1 eN T1 hf hfn hfr hco =>
    Calls.spliced_nil ⟨[], f, c', pm', ctv, [], H, H1, rfl, .nil, I1, eN, T1, ⟨hf, hfn, hfr, hco⟩, q⟩)
theorem plm_cons {Tb : Tbl} {params : Arguments} {body : Expr} {scope : Scope} {e : Expr} {es : List Expr} {te : TE} {t : TA} (ha : PE X e te) (hr : PLm X Tb es params body scope t) (hs : starEach (e :: es) X.env = (false, eval e X.env) :: starEach es X.env := by rfl) : PLm X Tb (e :: es) params body scope (tCons te t) := by
  refine ⟨fun pos pins s σ H Q I h => ?_⟩
  rw [hs]
  show wpAny _ _ (spliced ((false, eval e X.env) :: backTo pos (starEach es X.env))) _ _ s
  refine Calls.spliced_cons (thn (ha.run pins s σ H _ I h) fun u s1 ⟨x, H1, I1, r1, q1⟩ => ?_)
  refine thn (hr.run pos pins s1 σ H1 (fun vs H2 => Q (x :: vs) H2) I1 q1) fun us s2 ⟨us0, f, c', pm, ctv, vs, H1', H2, e1, rv, I2, eN, T2, la, q⟩ => ?_
  exact ⟨u :: us0, f, c', pm, ctv, x :: vs, H1', H2, by rw [e1]; rfl, .cons r1 rv, I2, eN, T2, la, q⟩
theorem PLm.pre {Tb : Tbl} {es : List Expr} {params : Arguments} {body : Expr} {scope : Scope} {t t' : TA} (h : PLm X Tb es params body scope t) (w : ∀ σ H Q, t' σ H Q → t σ H Q) : PLm X Tb es params body scope t' :=
  ⟨fun pos pins s σ H Q I q => h.run pos pins s σ H Q I (w _ _ _ q)⟩
def ALm (X : Cx) (W : WR) (es : List Expr) (params : Arguments) (body : Expr) (scope : Scope) (fs : EFs) : Prop := PLm X W.Tb es params body scope (tG (X.gx W.Tb) W IsAll fs)
theorem alm_nil {W : WR} {c P : Addr} {params : Arguments} {body : Expr} {scope : Scope} {ps : List Str} {lpos : Pos} (LI : LamI X W.Tb c P) (L : LamP X.env.scope scope ps) (hdef : defaultsOf params X.env = ([], []) := by rfl) :
    ALm X W [.Lambda params body scope lpos] params body scope eNil := (plm_nil LI L hdef).pre fun σ H Q h => by
  obtain ⟨τ, M, ρ, rs, rm, r⟩ := h
  exact r.okv (.refl _) (.refl _) rm .nil
theorem alm_cons {W : WR} {params : Arguments} {body : Expr} {scope : Scope} {e : Expr} {es : List Expr} {f : EF} {g : EFs} (h1 : AE X W e f) (h2 : ALm X W es params body scope g) (hs : starEach (e :: es) X.env = (false, eval e X.env) :: starEach es X.env := by rfl) : ALm X W (e :: es) params body scope (eCons f g) :=
  (plm_cons h1 h2 hs).pre fun σ H Q h => by
    refine (seqG Is h).imp fun x H1 h1 => ?_
    refine (seqK Is Is.ext IsAll h1).imp fun xs H2 h2 => ?_
    obtain ⟨τ, M, ρ, a, as, rs, rm, i, is, r⟩ := h2
    exact r.okv (.refl _) (.refl _) rm (.cons i is)
/-- x(e, .., lambda ..: body) -/
theorem ae_lam {W : WR} {x : Str} {kG kl k n m len : Nat} {S : Nat → On' → SF} {params : Arguments} {body : Expr} {scope : Scope} {ps : List Str} {p pos : Pos} {e : Expr} {es : List Expr} {fs : EFs} {flam : EF}
    (G : FnL X.prog X.w X.K X.mg W.Tb X.base x kG n m len S) (hr : Room k X.A) (tk : Takes X W.w) (hm : ps.length = m) (L : LamP X.env.scope scope ps)
    (ha : ALm X W (e :: es) params body scope fs)
    (hbody : ∀ (A : Around) (outer : List Env) (s s' : Shared) (H : Hp) (E : XK) (f c' : Addr), Room kl (A.deeper (LamX.lamEnv X scope s'.heap.objs.size f c')) → AE (lamCxP X A outer s' H E scope f c' ps) (wE E W.Tb) body flam)
    (hdis : ∀ x ∈ ps, x ∉ X.N) (hk1 : kG + 1 ≤ k := by omega) (hk2 : kl + 1 ≤ kG := by omega)
    (hbind : ∀ (qq : Str) (cl : List (Str × Addr)) (pm cv ctv : Value) (us : List Value), us.length = ps.length → bindArgs (PySem.W.kla_fn "<lambda>" qq params body scope cl pm cv ctv) ⟨us, []⟩ = pure (ps.zip us))
    (hg : Gl X x := by rfl) (hdb : (x == ("__debug__" : Str)) = false := by decide) (he : starEach (e :: es) X.env = (false, eval e X.env) :: starEach es X.env := by rfl) (hpl : (backTo pos (starEach es X.env)).any (·.1) = false := by rfl) :
    AE X W (.Call (.Name x p) (e :: es) [] pos) (eLam n len S flam fs) := by
  obtain ⟨fa, fd, st, N, qs, F, Sc, hmg, hlen, hn, hb, hS⟩ := G.ex
  refine ⟨fun pins s σ H Q I h => ?_⟩
  refine wpAny_Call_Name_kw (ld_glob I hg hmg ?_ hdb)
  have h2 : tG (X.gx W.Tb) W IsAll fs σ H (fun vs H1 => LamX.Tabs W.Tb H1 ∧ ∃ τ M ρ as, RS W ρ H1 τ σ ∧ RM (X.am W.Tb) ρ H1 M ∧ IsAll ρ H1 as vs ∧ RE (X.gx W.Tb) W σ ρ H1 Is (if as.length + 1 = n then defA len (S M.length (lamA τ flam)) (as ++ [.obj M.length]) (M ++ [.obj]) else .bad) Q) := by
    obtain ⟨τ, M, ρ, rs, rm, r⟩ := h
    refine ⟨τ, M, ρ, rs, rm, ?_⟩
    unfold eLam at r
    cases ef : fs τ M with
    | ok as M1 =>
      rw [ef] at r
      exact fun vs H1 ρ1 x1 g1 m1 i1 => ⟨m1.tabs, τ, M1, ρ1, as, rs.mono x1 g1, m1, i1, RE.mono r x1 g1⟩
    | ex en M1 => rw [ef] at r; exact r
    | bad => rw [ef] at r; exact r
  refine PySem.W.callWith_K (h₀ := X.base) I.ok.mod.kin F.kp (thn (ha.run pos pins s σ H _ I h2) fun us s1 ⟨us0, f, c', pm, ctv, vs, H1, H2, e1, rv, I2, eN, T2, la, τ, M, ρ, as, rs, rm, i, r⟩ => ⟨I2.kIn, ?_⟩) he hpl
  subst e1
  split at r
  · rename_i hn2
    have g12 : Grow H1 H2 := .ofT eN
    have rm2 : RM (X.am W.Tb) (ρ ++ [f]) H2 (M ++ [.obj]) := (rm.growT eN T2).name f
    have i2 : IsAll (ρ ++ [f]) H2 (as ++ [.obj M.length]) (vs ++ [.ref f]) := (i.mono (.snoc _ _) g12).append (.cons (.obj (by rw [← rm.len]; simp)) .nil)
    have rv2 : Vals (vs ++ [.ref f]) (us0 ++ [.ref f]) := rv.append (.cons rfl .nil)
    have hvl : (vs ++ [V.ref f]).length = qs.length := by rw [List.length_append, List.length_singleton, ← i.length, hn2, hn]
    obtain ⟨oc, od, kV, doc, pm2, an, cdv, ct, osl, rfl, lk, hcd⟩ := F.ex
    have rc : codeAny (model X.prog X.w) X.A (.call (.ref fa) ⟨us0 ++ [.ref f], []⟩) (CR (L2.CX X.prog X.w) X.stack X.prog X.w H2 s1 Q (fun cls d H' => W cls d σ H')) s1 := by
      have bt := hb s1 (us0 ++ [.ref f]) I2.kIn (by rw [List.append_nil, ← rv2.length]; exact hvl)
      rw [List.append_nil] at bt
      refine LamX.run_ofS (k := kG) lk hcd Sc (hr.mono hk1) I2.env0 bt rv2 hvl fun hr' => ?_
      have act := act_ok (Eg := fun cls d H' => W cls d σ H') (Ng := N) (qg := x) (sg := defScope st) (g := fa) (cdg := cdv) (l := M.length) (r := ρ ++ [f]) (Tb := W.Tb) I2 L la hdis (.snoc ρ f) (by rw [← rm.len]; simp) (rs.mono (.refl _) g12).s (fun us hl => hbind _ _ _ _ _ us hl) (hr'.mono hk2) fun A outer s' H' E' hr2 => hbody A outer s1 s' H' E' f c' hr2
      subst hm
      refine ⟨_, hS cdv X.A X.stack s1 H2 _ M.length (ρ ++ [f]) (lamA τ flam) hr' act, startA N.length (as ++ [A.obj M.length]), M ++ [Cell.obj], ρ ++ [f], ⟨.refl _, .refl _, start_ok i2 N⟩, rm2, ?_⟩
      have r2 := RE.mono r (.snoc ρ f) g12
      unfold defA at r2
      rw [hlen]
      cases eS : S M.length (lamA τ flam) (startA len (as ++ [.obj M.length])) (M ++ [.obj]) with
      | nx τ1 M1 => rw [eS] at r2; exact fun σ' H' ρ' x g m _ => r2 .non H' ρ' x g m .non
      | rt a M1 => rw [eS] at r2; exact r2
      | ex en τ1 M1 => rw [eS] at r2; exact fun c d σ' H' ρ' x g m _ ix => r2 c d H' ρ' x g m ix
      | bk τ1 M1 => rw [eS] at r2; exact r2.elim
      | ct τ1 M1 => rw [eS] at r2; exact r2.elim
      | bad => rw [eS] at r2; exact r2.elim
    refine wpAny_call (codeAny_mono rc fun r s2 hq => ?_)
    cases r with
    | error e => exact tk e s2 (XE.of_call I2 (fun _ _ _ h => h) hq)
    | ok fl =>
      cases fl with
      | ret u => exact I2.after hq
      | next => exact False.elim hq
      | brk => exact False.elim hq
      | cont => exact False.elim hq
  · exact r.elim
end
end AB
namespace AB
open PySem PySem.Spec PyProof.Rows L2
section
variable {P : Program} {w : World} {K : PySem.W.Frag} {mg : Str → Option Value} {Tb : Tbl} {base : Heap}
/-- where a def's lambdas lie -/
structure LamB (mg : Str → Option Value) (Tb : Tbl) (base : Heap) (fd : FuncData) (q : Str) (c P : Addr) : Prop where
  code : fd.code = .ref c
  tb : LamX.TabB base mg c P
  mem : (P, q) ∈ Tb
  un : ∀ p ∈ Tb, p.1 = P → p.2 = q
/-- a def that makes lambdas -/
theorem fn_AL {x : Str} {st : Stmt} {fa c Pt : Addr} {fd : FuncData} {N ps : List Str} {k : Nat} {s : SF} (F : Fun K x x st fa fd) (S : FnScope N ps (defScope st)) (B : LamB mg Tb base fd ((x ++ ".<locals>.") ++ "<lambda>") c Pt)
    (hbody : ∀ (cdv : Value) (A : Around) (outer : List Env) (s₀ : Shared) (H : Hp) (E : XK), Room k (A.deeper (envOfC x (defScope st) s₀.heap.objs.size fa cdv)) → LamI (cxOf (L2.CX P w) P w K mg base N x (defScope st) fa cdv A outer s₀ H E) Tb c Pt →
      ASs (cxOf (L2.CX P w) P w K mg base N x (defScope st) fa cdv A outer s₀ H E) ⟨fun cls d _ H => E cls d H, Tb, [], fun _ => none⟩ (defBody st) s) :
    FnOk P w K mg base (L2.CX P w) (k + 1) fa fd ps (spA ⟨mg, ⟨w, K, mg, Tb⟩⟩ ps.length (defA N.length s)) := by
  obtain ⟨oc, od, kV, doc, pm, an, cdv, ct, osl, rfl, lk, hcd⟩ := F.ex
  refine fn_of lk hcd S (fun vs H Q E h => ?_) fun A outer s₀ H vs Q E hr h => ⟨_, hbody cdv A outer s₀ H E hr ⟨B.code, B.tb, B.mem, B.un⟩, ?_⟩
  · obtain ⟨as, M, ρ, i, rm, hn, _⟩ := h
    rw [← i.length]; exact hn
  · obtain ⟨as, M, ρ, i, rm, hn, r⟩ := h
    refine ⟨startA N.length as, M, ρ, RS.base (E := E) (start_ok i N), rm, ?_⟩
    unfold defA at r
    cases e : s (startA N.length as) M with
    | nx τ M1 => rw [e] at r; exact fun σ' H' ρ' x g m _ => r .non H' ρ' x g m .non
    | rt a M1 => rw [e] at r; exact r
    | ex en τ M1 => rw [e] at r; exact fun c d σ' H' ρ' x g m _ ix => r c d H' ρ' x g m ix
    | bk τ M1 => rw [e] at r; exact r.elim
    | ct τ M1 => rw [e] at r; exact r.elim
    | bad => rw [e] at r; exact r.elim
/-- a def with defaults -/
theorem fn_AD {x qual : Str} {st : Stmt} {fa : Addr} {fd : FuncData} {N ps : List Str} {k : Nat} {s : SF} {dvs : List V} (F : FunD K x qual (defArgs st) (defBody st) (defScope st) dvs [] fa fd) (S : FnScope N ps (defScope st))
    (hbody : ∀ (cdv : Value) (A : Around) (outer : List Env) (s₀ : Shared) (H : Hp) (E : XK), Room k (A.deeper (envOfC qual (defScope st) s₀.heap.objs.size fa cdv)) →
      ASs (cxOf (L2.CX P w) P w K mg base N qual (defScope st) fa cdv A outer s₀ H E) ⟨fun cls d _ H => E cls d H, Tb, [], fun _ => none⟩ (defBody st) s) :
    FnOk P w K mg base (L2.CX P w) (k + 1) fa fd ps (spA ⟨mg, ⟨w, K, mg, Tb⟩⟩ ps.length (defA N.length s)) := by
  refine F.ok S (fun vs H Q E h => ?_) (fun cdv A outer s₀ H vs Q E hr h => ⟨_, hbody cdv A outer s₀ H E hr, ?_⟩)
  · obtain ⟨as, M, ρ, i, rm, hn, _⟩ := h
    rw [← i.length]; exact hn
  · obtain ⟨as, M, ρ, i, rm, hn, r⟩ := h
    refine ⟨startA N.length as, M, ρ, RS.base (E := E) (start_ok i N), rm, ?_⟩
    unfold defA at r
    cases e : s (startA N.length as) M with
    | nx τ M1 => rw [e] at r; exact fun σ' H' ρ' x g m _ => r .non H' ρ' x g m .non
    | rt a M1 => rw [e] at r; exact r
    | ex en τ M1 => rw [e] at r; exact fun c d σ' H' ρ' x g m _ ix => r c d H' ρ' x g m ix
    | bk τ M1 => rw [e] at r; exact r.elim
    | ct τ M1 => rw [e] at r; exact r.elim
    | bad => rw [e] at r; exact r.elim
end
section
variable {X : Cx} {W : WR} {pos : Pos}
/-- what slot i holds is called -/
theorem ae_act0 (i : Nat) {l n : Nat} {act : On'} {a : Str} {p1 : Pos} (ha : ActOk X W.Tb W.r W.h l n act) (tk : Takes X W.w) (hN : X.N[i]? = some a := by rfl) (hv : Vis X.env.scope a := by first | exact Or.inl rfl | exact Or.inr (Or.inl rfl) | exact Or.inr (Or.inr rfl))
    (hd : (a == ("__debug__" : Str)) = false := by decide) (hcd : (a == ("__classdict__" : Str)) = false := by decide) : AE X W (.Call (.Name a p1) [] [] pos) (eAct i l n act eNil) :=
  ha W X.pn X.xe a i p1 pos [] eNil rfl rfl rfl tk aa_nil hN hv hd hcd (.inl ⟨rfl, rfl⟩)
theorem ae_act (i : Nat) {l n : Nat} {act : On'} {a : Str} {p1 : Pos} {e : Expr} {es : List Expr} {fs : EFs} (ha : ActOk X W.Tb W.r W.h l n act) (tk : Takes X W.w) (h : AA X W (e :: es) fs) (hN : X.N[i]? = some a := by rfl) (hv : Vis X.env.scope a := by first | exact Or.inl rfl | exact Or.inr (Or.inl rfl) | exact Or.inr (Or.inr rfl))
    (hd : (a == ("__debug__" : Str)) = false := by decide) (hcd : (a == ("__classdict__" : Str)) = false := by decide)
    (he : starEach (e :: es) X.env = (false, eval e X.env) :: starEach es X.env := by rfl) (hpl : (backTo pos (starEach es X.env)).any (·.1) = false := by rfl) : AE X W (.Call (.Name a p1) (e :: es) [] pos) (eAct i l n act fs) :=
  ha W X.pn X.xe a i p1 pos (e :: es) fs rfl rfl rfl tk h hN hv hd hcd (.inr ⟨e, es, rfl, he, hpl⟩)
/-- .. in a try's body -/
theorem ae_actT0 (i : Nat) {l n : Nat} {act : On'} {a : Str} {p1 : Pos} {pn : List (Addr × Obj)} {xe : Value → Shared → Prop} (ha : ActOk X W.Tb W.r W.h l n act) (tk : Takes (X.tr pn xe) W.w) (hN : X.N[i]? = some a := by rfl) (hv : Vis X.env.scope a := by first | exact Or.inl rfl | exact Or.inr (Or.inl rfl) | exact Or.inr (Or.inr rfl))
    (hd : (a == ("__debug__" : Str)) = false := by decide) (hcd : (a == ("__classdict__" : Str)) = false := by decide) : AE (X.tr pn xe) W (.Call (.Name a p1) [] [] pos) (eAct i l n act eNil) :=
  ha W pn xe a i p1 pos [] eNil rfl rfl rfl tk aa_nil hN hv hd hcd (.inl ⟨rfl, rfl⟩)
end
end AB
/-! AB28: the end of a law over tables of code objects -/
namespace AB
open PySem PySem.Spec PyProof.Rows L2
/-- the code object of the def called x and its table, as the top has left them -/
def TabX (mg : Str → Option Value) (h : Heap) (x : Str) (f c P : Addr) : Prop :=
  ∃ (o : Obj) (fd : FuncData), mg x = some (.ref f) ∧ h.get? f = some o ∧ o.data = .func fd ∧ fd.code = .ref c ∧ PySem.W.CodeHd h c P ∧ h.get? P = some { cls := .none, data := .fields #[] }
theorem lookup_out {α : Type} {l : List (Addr × α)} {b : Addr} : (l.map (·.1)).contains b = false → l.lookup b = none := by
  induction l with
  | nil => intro _; rfl
  | cons p l ih =>
    obtain ⟨x, y⟩ := p
    intro h
    rw [List.map_cons, List.contains_cons, Bool.or_eq_false_iff] at h
    rw [List.lookup_cons, h.1]
    exact ih h.2
/-- what the head's part doesn't hold -/
theorem km_out {K : Params → PySem.W.Frag} {as : List Addr} {e : ∀ P, as = (K P).map (·.1)} {ts : List Addr} {w : World} {h : Heap} (Y : (PySem.W.kmHook K as e ts).says w h) {b : Addr} (hb : as.contains b = false) : (K w.params).lookup b = none :=
  lookup_out (by rw [← e w.params]; exact hb)
theorem walk_ofX {l : PySem.W.OpenLaw} {n k : Nat} {q : Program} {loose : List Str} {XP : (Str → Option Value) → Heap → Prop} {YP : World → Heap → Prop} {d : DefRec} {K : Params → PySem.W.Frag} {CX : World → CXT} {x : Str} (makers : List Str)
    (hn : l.most = some n) (hz : n ≤ sizeLine) (hdf : d.params.defaults = []) (hr : Room k callerA) (hmk : (makers.all fun y => (recsOf q).any fun e => e.name == y) = true) (hY : ∀ (w : World) (h : Heap), YP w h → (K w.params).In h)
    (F : ∀ (w : World) (mg : Str → Option Value) (fa : Addr) (h : Heap), YP w h → (K w.params).In h → h.Ns mainGlobals mg → mg d.name = some (.ref fa) → (∀ y ∈ makers, ∃ f c P, TabX mg h y f c P) → LamX.LawAtS l w (K w.params) (CX w) k n x mg fa h)
    (hCX : ∀ (w : World) (H : Hp) (s : Shared) (e : Value) (s' : Shared), CX w [] H s (fun _ _ _ => False) e s' → False) :
    PySem.W.WalkO q loose XP YP l.row.toRowW d [] (fun f vs => PySem.call f vs) := by
  refine Att.attach_callB hn hdf fun w z0 z1 mg mb fa ob pm cdv dc a vs ns Gr Yh h1 h2 h3 hfa h4 h5 h6 hbits h7 => ?_
  have inK := hY w _ Yh
  have found : ∀ y ∈ makers, ∃ f c P, TabX mg z1.heap y f c P := fun y hy => by
    obtain ⟨e, he, en⟩ := List.any_eq_true.mp (List.all_eq_true.mp hmk y hy)
    obtain ⟨f, of, fd, c, P, t1, t2, t3, t4, t5, t6⟩ := Gr.T.tab e he
    have ey : e.name = y := eq_of_beq en
    subst ey
    exact ⟨f, c, P, of, fd, t1, t2, t3, t4, .of t5 t6, t6.2⟩
  obtain ⟨fd, cs, sp, tb1, tb2, tb3, bd, sat, ok⟩ := F w mg fa _ Yh inK Gr.T.g hfa found
  exact LamX.law_callTs inK Gr.T.g Gr.T.b Gr.T.builtins Gr.T.nolimit h7 tb1 tb2 tb3 Gr.T.bmain h4 h5 (Nat.le_trans h6 hz) hr ok bd (fun H t1 t2 => sat H a ns h6 hbits t1 t2) fun H e s' => hCX w H z1 e s'
end AB
/-! AB29: backward steps for lambdas -/
namespace AB
open PySem PySem.Spec PyProof.Rows L2
section
variable {τ : Sl} {M : Store} {Q : A → Store → Prop}
theorem w_lam {n len : Nat} {S : Nat → On' → SF} {f : EF} {fs : EFs} (h : (fs τ M).W fun as M1 => as.length + 1 = n ∧ (defA len (S M1.length (lamA τ f)) (as ++ [.obj M1.length]) (M1 ++ [.obj])).W Q) : (eLam n len S f fs τ M).W Q :=
  w_bind (h.imp fun _ _ h => by rw [if_pos h.1]; exact h.2)
theorem w_act {i l n : Nat} {act : On'} {fs : EFs} (e : τ[i]? = some (some (.obj l))) (h : (fs τ M).W fun as M1 => as.length = n ∧ (act as M1).W Q) : (eAct i l n act fs τ M).W Q := by
  unfold eAct
  rw [e]
  dsimp only
  rw [if_pos rfl]
  exact w_bind (h.imp fun _ _ h => by rw [if_pos h.1]; exact h.2)
theorem w_lamA {f : EF} {as : List A} (h : (f (τ ++ as.map some) M).W Q) : (lamA τ f as M).W Q := h
end
end AB
/-! PM4: list(permutations(range(n))) -/
namespace PM
open PySem PySem.Spec PyProof.Rows L2
open Sem (wp)
theorem pm_noL : typeLookup (.type "itertools.permutations") "__len__" = pure none := by rw [typeLookup_type, builtinLookup_eq_fast]; kernel_rfl
theorem pm_noH : typeLookup (.type "itertools.permutations") "__length_hint__" = pure none := by rw [typeLookup_type, builtinLookup_eq_fast]; kernel_rfl
/-- the row's object -/
def RowAt (h : Heap) (n j : Nat) (a : Addr) : Prop := ∃ ts : List Tok, ts.length = n ∧ h.get? a = some { cls := .type "tuple", data := .seq (row n j ts).toArray }
abbrev lstO (acc : Array Value) (c : Nat) : Obj := { cls := .type "list", dict := none, data := .seq acc c, slots := #[] }
/-- what stands behind i turns -/
structure Rows (h : Heap) (n S : Nat) (as : List Addr) : Prop where
  rise : as.Pairwise (· < ·)
  top : ∀ a ∈ as, S < a
  row : ∀ (j : Nat) (a : Addr), as[j]? = some a → RowAt h n j a
section
variable {prog : Program} {w : World} {A : Around} {E : Value → Shared → Prop} {R : Result → Shared → Prop} {s : Shared} {n : Nat} {S it pool : Addr} {h₁ : Heap}
theorem Rows.keep {h h' : Heap} {as : List Addr} (r : Rows h n S as) (k : ∀ b o, b ≠ S → b ≠ it → h.get? b = some o → h'.get? b = some o) (hi : it < S) : Rows h' n S as :=
  ⟨r.rise, r.top, fun j a e => let ⟨ts, l, q⟩ := r.row j a e; have t := r.top a (List.mem_of_getElem? e); ⟨ts, l, k a _ (Nat.ne_of_gt t) (Nat.ne_of_gt (Nat.lt_trans hi t)) q⟩⟩
theorem fct6 (n : Nat) : fct n ≤ 6 := by unfold fct; split <;> omega
theorem lp (hh : A.handled = none) (h1 : 1 ≤ n) (h3 : n ≤ 3) (hi : it < S) (hp : pool < S) (res : Value)
    (hR : ∀ (h' : Heap) (tk : Nat) (acc : Array Value) (c : Nat) (as : List Addr), (∀ b o, b ≠ S → b ≠ it → h₁.get? b = some o → h'.get? b = some o) → h'.get? S = some (lstO acc c) → as.length = fct n → Rows h' n S as → acc.toList = as.map Value.ref → R (.ok (.ret res)) { s with heap := h', toks := tk }) :
    ∀ (k i : Nat) (h : Heap) (tk c : Nat) (acc : Array Value) (as : List Addr), fct n = i + k → At h it pool n i → (∀ b o, b ≠ S → b ≠ it → h₁.get? b = some o → h.get? b = some o) → h.get? S = some (lstO acc c) → acc.toList = as.map Value.ref → as.length = i → Rows h n S as → codeAny (model prog w) A (.builtin "list.extend.loop" ⟨[.ref S, .ref it, res], []⟩) R { s with heap := h, toks := tk } := by
  have ne1 : S ≠ it := Nat.ne_of_gt hi
  have ne2 : pool ≠ S := Nat.ne_of_lt hp
  have ne3 : it ≠ S := Nat.ne_of_lt hi
  intro k
  induction k with
  | zero =>
    intro i h tk c acc as hk hat kp hS hacc hal hr; refine codeAny_builtin PySem.F.entry_extend_loop ?_
    rw [Around.under_plainId PySem.F.plain_extend_loop _]; show wpAny _ A.in1 (pyNext (.ref it) >>= _) _ _ _
    have hin : i = fct n := by omega
    subst hin
    refine wpAny_bind ?_
    unfold pyNext
    refine wpAny_bind (wpAny_attempt (pm_stop (A := A.in1) (s := { s with heap := h, toks := tk }) hh n h1 h3 hat fun h' e kk hx => ?_))
    obtain ⟨o, ho, hcl⟩ := hx
    have hTe : (⟨h', s.gens, s.drawn, tk, s.os⟩ : Shared).TypeIs (.ref e) "StopIteration" := ⟨_, ho, hcl⟩
    refine wpAny_bind (wpAny_isInstance (b := true) hTe (by rw [isSubtype_type]; kernel_rfl) ?_)
    exact wpAny_pure (wpAny_pure (hR h' tk acc c as (fun b o z1 z2 e => kk b o z2 (kp b o z1 z2 e)) (kk S _ ne1 hS) (by omega) (hr.keep (fun b o _ z2 e => kk b o z2 e) hi) hacc))
  | succ k ih =>
    intro i h tk c acc as hk hat kp hS hacc hal hr; refine codeAny_builtin PySem.F.entry_extend_loop ?_
    rw [Around.under_plainId PySem.F.plain_extend_loop _]; show wpAny _ A.in1 (pyNext (.ref it) >>= _) _ _ _
    refine wpAny_bind ?_
    unfold pyNext
    refine wpAny_bind (wpAny_attempt (pm_item (s := { s with heap := h, toks := tk }) n i (by omega) hat fun h' ts t ht hl a' kk hT => ?_))
    have hS2 : S < h.objs.size := Heap.lt_size hS
    have hsz : acc.size = i := by rw [← Array.length_toList, hacc, List.length_map, hal]
    have h6 := fct6 n
    have hS' := kk S _ ne1 hS
    have up : ∀ b o, b ≠ S → h'.get? b = some o → (h'.update S (Obj.mapSeq (·.push (Value.ref t)))).get? b = some o := fun b o hb e => (Heap.get?_update_other _ _ (Ne.symm hb)).trans e
    refine wpAny_pure ?_
    show wpAny _ A.in1 (updateSeq S (·.push (Value.ref t)) >>= _) _ _ _
    have big : 16 ≤ sizeLine := by rw [sizeLine_eq]; decide
    refine wpAny_bind (wpAny_updateSeq hS' rfl (wpAny_pure ⟨plainId_quiet PySem.F.plain_extend_loop _, ?_⟩) (by rw [hsz]; omega) (by show (acc.push (Value.ref t)).size ≤ sizeLine + 1; rw [Array.size_push, hsz]; omega))
    refine ih (i + 1) _ tk _ (acc.push (Value.ref t)) (as ++ [t]) (by omega) (a'.keep fun b hb o e => up b o (by rcases (by simpa using hb : b = it ∨ b = pool) with rfl | rfl <;> assumption) e) (fun b o z1 z2 e => up b o z1 (kk b o z2 (kp b o z1 z2 e))) (Heap.get?_update_self _ hS' rfl) (by rw [Array.toList_push, hacc, List.map_append]; rfl) (by rw [List.length_append, hal]; rfl) ⟨?_, ?_, ?_⟩
    · refine List.pairwise_append.mpr ⟨hr.rise, List.pairwise_singleton _ _, fun a ha b hb => ?_⟩
      rw [List.mem_singleton.mp hb, ht]
      obtain ⟨j, hj⟩ := List.mem_iff_getElem?.mp ha
      obtain ⟨ts', _, q⟩ := hr.row j a hj
      exact Heap.lt_size q
    · intro a ha
      rcases List.mem_append.mp ha with ha | ha
      · exact hr.top a ha
      · rw [List.mem_singleton.mp ha, ht]; exact hS2
    · intro j a hj
      rcases Nat.lt_trichotomy j as.length with z | z | z
      · rw [List.getElem?_append_left z] at hj
        obtain ⟨ts', l', q⟩ := hr.row j a hj
        have t' := hr.top a (List.mem_of_getElem? hj)
        exact ⟨ts', l', up a _ (Nat.ne_of_gt t') (kk a _ (Nat.ne_of_gt (Nat.lt_trans hi t')) q)⟩
      · subst z
        have hb : t = a := by simpa using hj
        subst hb
        rw [hal]
        exact ⟨ts, hl, up t _ (by rw [ht]; exact Nat.ne_of_gt hS2) hT⟩
      · rw [List.getElem?_eq_none (by rw [List.length_append, List.length_singleton]; omega)] at hj; cases hj
/-- list(it) -/
theorem call_lp {Q : Value → Shared → Prop} (hh : A.handled = none) (h1 : 1 ≤ n) (h3 : n ≤ 3) (hat : At s.heap it pool n 0)
    (hQ : ∀ (h' : Heap) (tk : Nat) (acc : Array Value) (c : Nat) (as : List Addr), (∀ b o, b ≠ it → s.heap.get? b = some o → h'.get? b = some o) → h'.get? s.heap.objs.size = some (lstO acc c) → as.length = fct n → Rows h' n s.heap.objs.size as → acc.toList = as.map Value.ref → Q (.ref s.heap.objs.size) { s with heap := h', toks := tk }) :
    wpAny (model prog w) A (call (.type "list") [.ref it]) Q E s := by
  refine callType_codes (Q₁ := fun obj s₁ => obj = .ref s.heap.objs.size ∧ s₁ = { s with heap := s.heap.push { cls := .type "list", data := .seq #[] } }) PySem.F.called_list (PySem.F.typeCall_list_1 _) PySem.F.entry_list_init (code_list_new _ ⟨rfl, rfl⟩) fun obj s₁ e₁ => ?_
  obtain ⟨rfl, rfl⟩ := e₁
  have hS : (s.heap.push { cls := .type "list", data := .seq #[] }).get? s.heap.objs.size = some (lstO #[] 0) := Heap.get?_push_size _ rfl
  have li : it < s.heap.objs.size := let ⟨_, _, _, _, e, _⟩ := hat; Heap.lt_size e
  have lpo : pool < s.heap.objs.size := let ⟨_, _, _, _, _, e⟩ := hat; Heap.lt_size e
  have ne1 : s.heap.objs.size ≠ it := Nat.ne_of_gt li
  have ne3 : it ≠ s.heap.objs.size := Nat.ne_of_lt li
  have ne2 : pool ≠ s.heap.objs.size := Nat.ne_of_lt lpo
  refine ⟨⟨_, hS, rfl⟩, PySem.F.args_list_init_2 _ _, ?_⟩
  show wpAny _ _ (Builtin.List.listItems (.ref s.heap.objs.size) >>= fun old => Builtin.List.listUpdate (.ref s.heap.objs.size) (fun _ => #[]) >>= fun _ => letGo old.toList.reverse >>= fun _ => Builtin.List.listExtendWith (.ref s.heap.objs.size) (.ref it) .none) _ _ _
  refine wpAny_bind ?_
  unfold Builtin.List.listItems; refine wpAny_bind (wpAny_seqItems hS rfl (wpAny_pure ?_))
  show wpAny _ _ (updateSeq s.heap.objs.size (fun _ => #[]) >>= fun _ => letGo (#[] : Array Value).toList.reverse >>= fun _ => Builtin.List.listExtendWith (.ref s.heap.objs.size) (.ref it) .none) _ _ _
  refine wpAny_bind (wpAny_updateSeq hS rfl (wpAny_bind (wpAny_letGo ?_)))
  have hS2 := Heap.get?_update_self (Obj.mapSeq (fun _ => (#[] : Array Value))) hS rfl
  generalize hg2 : (s.heap.push { cls := .type "list", data := .seq #[] }).update s.heap.objs.size (Obj.mapSeq (fun _ => (#[] : Array Value))) = g2 at hS2 ⊢
  have k2 : ∀ b o, b ≠ s.heap.objs.size → s.heap.get? b = some o → g2.get? b = some o := fun b o hb e => by
    rw [← hg2]; exact (Heap.get?_update_other _ _ (Ne.symm hb)).trans (Heap.get?_push_of_some _ e)
  have at2 : At g2 it pool n 0 := hat.keep fun b hb o e => k2 b o (by rcases (by simpa using hb : b = it ∨ b = pool) with rfl | rfl <;> assumption) e
  have key : ∀ (g : Heap) (c : Nat), (∀ b o, b ≠ s.heap.objs.size → g2.get? b = some o → g.get? b = some o) → g.get? s.heap.objs.size = some (lstO #[] c) → codeAny (model prog w) A.in1 (.builtin "list.extend.loop" ⟨[.ref s.heap.objs.size, .ref it, .none], []⟩) (wants (fun r s₂ => r = .none ∧ Q (.ref s.heap.objs.size) s₂) E) { s with heap := g, toks := s.toks } := fun g c kg hg => by
    refine lp (h₁ := s.heap) (A := A.in1) (s := s) hh h1 h3 li lpo .none (fun h' tk acc c' as kk q1 q2 q3 q4 => ?_) (fct n) 0 g s.toks c #[] [] (by omega) (at2.keep fun b hb o e => kg b o (by rcases (by simpa using hb : b = it ∨ b = pool) with rfl | rfl <;> assumption) e)
      (fun b o z1 _ e => kg b o z1 (k2 b o z1 e)) hg rfl rfl ⟨List.Pairwise.nil, (fun _ ha => nomatch ha), fun j a hj => by simp at hj⟩
    exact ⟨rfl, hQ h' tk acc c' as (fun b o z e => kk b o (Nat.ne_of_lt (Heap.lt_size e)) z e) q1 q2 q3 q4⟩
  obtain ⟨l0, ts0, _, _, hit2, _⟩ := id at2
  have hT2 : (⟨g2, s.gens, s.drawn, s.toks, s.os⟩ : Shared).TypeIs (.ref it) "itertools.permutations" := ⟨_, hit2, rfl⟩
  unfold Builtin.List.listExtendWith
  refine wpAny_bind (wpAny_typeOf hT2 ?_)
  have q1 : Builtin.List.listSameRef (.ref s.heap.objs.size) (.ref it) = false := by simp [Builtin.List.listSameRef, ne1]
  simp only [q1, show (Value.type "itertools.permutations" == Value.type "list") = false by decide, show (Value.type "itertools.permutations" == Value.type "tuple") = false by decide, Bool.or_false, Bool.false_eq_true, if_false]
  refine wpAny_bind (pm_iter (s := ⟨g2, s.gens, s.drawn, s.toks, s.os⟩) at2 (wpAny_bind (wpAny_holding ?_)))
  unfold Builtin.List.listLengthHint
  refine wpAny_bind (wpAny_specialOf hT2 pm_noL ?_)
  show wpAny _ _ (specialOf (Value.ref it) (Str.ofString "__length_hint__") >>= _) _ _ _
  refine wpAny_bind (wpAny_specialOf hT2 pm_noH (wpAny_pure ?_))
  show wpAny _ _ (rule "list.extend.makes-room" >>= fun _ => Builtin.List.listTouch (.ref s.heap.objs.size) >>= fun _ => again (.builtin "list.extend.loop" ⟨[.ref s.heap.objs.size, .ref it, .none], []⟩)) _ _ _
  refine wpAny_bind (wpAny_rule (wpAny_bind ?_))
  show wpAny _ _ (updateSeq s.heap.objs.size (·.push .none) >>= fun _ => updateSeq s.heap.objs.size (·.pop)) _ _ _
  refine wpAny_bind (wpAny_updateSeq hS2 rfl ?_)
  have hS3 := Heap.get?_update_self (Obj.mapSeq (·.push Value.none)) hS2 rfl
  refine wpAny_updateSeq (hz := by seq_fits) hS3 rfl (wpAny_pure ⟨plainId_quiet PySem.F.plain_extend_loop _, key _ _ (fun b o hb e => ?_) (Heap.get?_update_self (Obj.mapSeq (·.pop)) hS3 rfl)⟩)
  exact (Heap.get?_update_other _ _ (Ne.symm hb)).trans ((Heap.get?_update_other _ _ (Ne.symm hb)).trans e)
end
end PM
/-! AB30: list(permutations(range(n))) -/
namespace AB
open PySem PySem.Spec PyProof.Rows L2
/-- tuples tracked at their places -/
def setRows : Hp → List Addr → List (List V) → Hp
  | H, a :: as, r :: rs => setRows (upd H a (.tup r)) as rs
  | H, _, _ => H
theorem setRows_off {b : Addr} : ∀ (as : List Addr) (rs : List (List V)) (H : Hp), b ∉ as → setRows H as rs b = H b
  | [], _, _, _ => rfl
  | _ :: _, [], _, _ => rfl
  | a :: as, r :: rs, H, h => by
    have h1 : b ≠ a := fun z => h (z ▸ List.mem_cons_self)
    exact (setRows_off as rs (upd H a (.tup r)) fun z => h (List.mem_cons_of_mem _ z)).trans (upd_ne h1)
theorem setRows_at : ∀ (as : List Addr) (rs : List (List V)) (H : Hp) (j : Nat) (a : Addr) (r : List V), as.Nodup → as[j]? = some a → rs[j]? = some r → setRows H as rs a = some (.tup r)
  | [], _, _, _, _, _, _, h, _ => by simp at h
  | _ :: _, [], _, _, _, _, _, _, h => by simp at h
  | b :: as, q :: rs, H, 0, a, r, hn, h1, h2 => by
    simp at h1 h2; subst h1 h2
    exact (setRows_off as rs _ (List.nodup_cons.mp hn).1).trans upd_same
  | b :: as, q :: rs, H, j + 1, a, r, hn, h1, h2 => setRows_at as rs (upd H b (.tup q)) j a r (List.nodup_cons.mp hn).2 (by simpa using h1) (by simpa using h2)
theorem setRows_grow {w : Amb} {ρ : List Addr} {M : Store} : ∀ (as : List Addr) (rs : List (List V)) (H : Hp), as.Nodup → (∀ a ∈ as, H a = none) → RM w ρ H M → Grow H (setRows H as rs) ∧ RM w ρ (setRows H as rs) M
  | [], _, H, _, _, m => ⟨.refl H, m⟩
  | _ :: _, [], H, _, _, m => ⟨.refl H, m⟩
  | a :: as, r :: rs, H, hn, h, m => by
    have h0 : H a = none := h a List.mem_cons_self
    have hn := List.nodup_cons.mp hn
    have ih := setRows_grow as rs (upd H a (.tup r)) hn.2 (fun b hb => by rw [upd_ne (fun z : b = a => hn.1 (by rw [← z]; exact hb))]; exact h b (List.mem_cons_of_mem _ hb)) (m.new h0)
    exact ⟨(Grow.new h0).trans ih.1, ih.2⟩
theorem vals_refs : ∀ as : List Addr, Vals (as.map V.ref) (as.map Value.ref)
  | [] => .nil
  | _ :: r => .cons rfl (vals_refs r)
theorem isAll_rows {ρ : List Addr} {H : Hp} : ∀ (as : List Addr) (xs : List (List A)) (rs : List (List V)), as.length = xs.length → (∀ (j : Nat) (a : Addr) (x : List A), as[j]? = some a → xs[j]? = some x → ∃ r, H a = some (.tup r) ∧ IsAll ρ H x r) → IsAll ρ H (xs.map A.tup) (as.map V.ref)
  | [], [], _, _, _ => .nil
  | [], _ :: _, _, h, _ => by simp at h
  | _ :: _, [], _, h, _ => by simp at h
  | a :: as, x :: xs, rs, h, f => .cons (let ⟨r, h1, h2⟩ := f 0 a x rfl rfl; .tup h1 h2) (isAll_rows as xs rs (by simpa using h) fun j b y h1 h2 => f (j + 1) b y (by simpa using h1) (by simpa using h2))
section
variable {X : Cx} {W : WR} {pos : Pos} {pins : List (Addr × Obj)} {σ : L2.St} {H : Hp} {s : Shared} {n : Nat}
/-- the list and its rows, laid -/
theorem lp_laid {h' : Heap} {tk c S : Nat} {acc : Array Value} {as : List Addr} (I : L2.Inv X pins σ H s) (hk : ∀ b o, s.heap.get? b = some o → h'.get? b = some o) (newS : H S = none) (new : ∀ a ∈ as, H a = none) (low : ∀ b o, s.heap.get? b = some o → b ∉ as ∧ b ≠ S) (hS : h'.get? S = some (PM.lstO acc c)) (hl : as.length = PM.fct n) (hG : PM.Rows h' n S as) (hacc : acc.toList = as.map Value.ref) :
    S ∉ as ∧ as.Nodup ∧ L2.Inv X pins σ (upd (setRows H as ((List.range (PM.fct n)).map (PM.rowV n))) S (.lst (as.map V.ref))) { s with heap := h', toks := tk } := by
  generalize hrs : (List.range (PM.fct n)).map (PM.rowV n) = rs
  have hSn : S ∉ as := fun z => Nat.lt_irrefl _ (hG.top _ z)
  have nd : as.Nodup := hG.rise.imp fun h => Nat.ne_of_lt h
  refine ⟨hSn, nd, ?_⟩
  have off : ∀ b, b ∉ as → b ≠ S → upd (setRows H as rs) S (.lst (as.map V.ref)) b = H b := fun b z1 z2 => (upd_ne z2).trans (setRows_off as rs H z1)
  have kp : ∀ b u, H b = some u → upd (setRows H as rs) S (.lst (as.map V.ref)) b = some u := fun b u e => (off b (fun z => by rw [new b z] at e; cases e) fun z => by rw [z, newS] at e; cases e).trans e
  refine I.call' (ch := []) rfl ⟨fun b o q _ _ _ => hk b o q, fun b o q _ _ _ => ⟨o.slots, hk b o q⟩, fun b o q n _ => ?_, fun b o q _ => ⟨o, hk b o q⟩, fun b xs q => kp b _ q, fun b o u q => kp b _ q, fun b ps q => ⟨#[], by rw [kp b _ q]; simp⟩⟩ (fun b u q => ?_) I.bare fun b z => by simp at z
  · obtain ⟨z1, z2⟩ := low b o q
    rw [off b z1 z2]; exact n
  · by_cases hb2 : b = S
    · subst hb2
      rw [upd_same] at q
      cases q
      refine ⟨?_, acc.toList, c, by rw [hacc]; exact vals_refs as, by rw [Array.toArray_toList]; exact hS⟩
      have := PM.fct6 n
      rw [List.length_map, hl, sizeLine_eq]; omega
    · by_cases hb : b ∈ as
      · obtain ⟨j, hj⟩ := List.mem_iff_getElem?.mp hb
        have hj2 : j < PM.fct n := by rw [← hl]; exact (List.getElem?_eq_some_iff.mp hj).1
        have er : rs[j]? = some (PM.rowV n j) := by rw [← hrs]; simp [hj2]
        have q2 := setRows_at as rs H j b _ nd hj er
        rw [upd_ne hb2, q2] at q
        cases q
        obtain ⟨ts, l, e⟩ := hG.row j b hj
        have rl := PM.row_len (n := n) (i := j) ts
        have rv := PM.row_vals (i := j) l
        exact ⟨by rw [rv.length, sizeLine_eq]; omega, PM.row n j ts, rv, ⟨_, e, rfl, _, rfl⟩⟩
      · rw [off b hb hb2] at q
        exact (I.hok b u q).stay (fun d v _ y => hk d v y) (fun d y => kp d _ y) fun d xs y => kp d _ y
def lpOf (p : Int × Int) (M : Store) : EO A := if p.1 = 0 ∧ 1 ≤ p.2 ∧ p.2 ≤ 3 then .ok (.lst M.length) (M ++ [.lst (permA p.2.toNat)]) else .bad
def eListPerm (fr : ER) : EF := fun τ M => (fr τ M).bind lpOf
theorem ae_listPerm {e : Expr} {y : Str} {p q pos2 : Pos} {fr : ER} (hc : X.calm = true) (hl : X.mg "list" = none) (hm : X.mg y = some (.type "itertools.permutations")) (he : AR X W e fr) (hg2 : Gl X "list" := by rfl) (hg : Gl X y := by rfl) (hd : (y == ("__debug__" : Str)) = false := by decide)
    (na : starEach [e] X.env = (false, eval e X.env) :: starEach [] X.env := by rfl) (na2 : starEach [.Call (.Name y q) [e] [] pos2] X.env = (false, eval (.Call (.Name y q) [e] [] pos2) X.env) :: starEach [] X.env := by rfl) :
    AE X W (.Call (.Name "list" p) [.Call (.Name y q) [e] [] pos2] [] pos) (eListPerm fr) := by
  refine ⟨fun pins s σ H Q I h => ?_⟩
  have h1 := seqG relR h
  refine wpAny_Call_Name_kw (ld_blt I hg2 hl (by rfl) ?_)
  refine PyProof.Rows.callWith_type1 ?_ na2 rfl
  rw [na2]
  show wpAny _ _ (spliced ((false, eval (.Call (.Name y q) [e] [] pos2) X.env) :: backTo pos (starEach [] X.env))) _ _ s
  refine Calls.spliced_cons ?_
  refine Call_ (ld_glob I hg hm (PyProof.Rows.callWith_type1 (args_cons (thn (he pins s σ H (fun a b H1 => tK (X.gx W.Tb) W relR Is (fun τ => lpOf) σ Q (a, b) H1) I h1) fun xv s1 ⟨r, a, b, t, u, v, H1, ex, hr, I1, q⟩ => args_nil ?_) na) na) hd)
  obtain ⟨τ, M, ρ, c, rs, rm, i, r⟩ := q
  have i : c = (a, b) := i
  subst i ex
  have r2 : RE (X.gx W.Tb) W σ ρ H1 Is (if a = 0 ∧ 1 ≤ b ∧ b ≤ 3 then .ok (.lst M.length) (M ++ [.lst (permA b.toNat)]) else .bad) Q := r
  clear r
  split at r2
  · rename_i hz
    obtain ⟨rfl, h1, h3⟩ := hz
    obtain ⟨n, rfl⟩ : ∃ n : Nat, b = (n : Int) := ⟨b.toNat, by omega⟩
    refine PM.call_pm (I1.ok.hd hc) hr (by omega) (by omega) fun hm h' tk it pool k1 k2 l1 l2 at0 => ?_
    refine Calls.spliced_nil ?_
    refine PM.call_lp (s := { s1 with heap := h', toks := tk }) (I1.ok.hd hc) (by omega) (by omega) at0 fun h2 tk2 acc c as kk q1 q2 q3 q4 => ?_
    have hs : ∀ b o, s1.heap.get? b = some o → h2.get? b = some o := fun b o e => kk b o (fun z => by
      have t1 := Heap.lt_size (k1 b o e)
      rw [z] at t1
      exact Nat.lt_irrefl _ (Nat.lt_of_lt_of_le t1 l1)) (k2 b o (k1 b o e))
    have I2 : L2.Inv X pins σ H1 { s1 with heap := h', toks := tk } := I1.kept (t' := tk) fun b o e => k2 b o (k1 b o e)
    have e1 : H1 h'.objs.size = none := I2.hok.fresh (Nat.le_refl _)
    have e4 : ∀ a ∈ as, H1 a = none := fun a ha => I2.hok.fresh (Nat.le_of_lt (q3.top a ha))
    obtain ⟨e2, e3, J⟩ := lp_laid (tk := tk2) I1 hs e1 e4 (fun b o e => by
      have t := Heap.lt_size (k2 b o (k1 b o e))
      exact ⟨fun z => Nat.lt_asymm t (q3.top b z), Nat.ne_of_lt t⟩) q1 q2 q3 q4
    obtain ⟨g1, m1⟩ := setRows_grow as ((List.range (PM.fct n)).map (PM.rowV n)) H1 e3 e4 rm
    have eS : setRows H1 as ((List.range (PM.fct n)).map (PM.rowV n)) h'.objs.size = none := (setRows_off as _ H1 e2).trans e1
    refine ⟨.ref h'.objs.size, _, J, rfl, ?_⟩
    refine RE.okv r2 (ρ' := ρ ++ [h'.objs.size]) ⟨_, rfl⟩ (g1.trans (Grow.new eS)) (m1.push eS ⟨as.map V.ref, upd_same, ?_⟩) (.lst (by rw [← rm.len]; simp))
    have hx : permA ((n : Int).toNat) = ((List.range (PM.fct n)).map fun i => (PM.ix n i).map fun j : Nat => A.int (j : Int)).map A.tup := by unfold permA; rw [List.map_map]; rfl
    rw [hx]
    refine isAll_rows as _ ((List.range (PM.fct n)).map (PM.rowV n)) (by simp [q2]) fun j a x h1 h2 => ?_
    have hj2 : j < PM.fct n := by rw [← q2]; exact (List.getElem?_eq_some_iff.mp h1).1
    have ex : x = (PM.ix n j).map fun j : Nat => A.int (j : Int) := by simp [hj2] at h2; exact h2.symm
    subst ex
    have er : ((List.range (PM.fct n)).map (PM.rowV n))[j]? = some (PM.rowV n j) := by simp [hj2]
    refine ⟨PM.rowV n j, ?_, rowV_is n j⟩
    have na : a ≠ h'.objs.size := fun z => e2 (z ▸ List.mem_of_getElem? h1)
    exact (upd_ne na).trans (setRows_at as _ H1 j a _ e3 h1 er)
  · exact r2.elim
theorem w_listPerm {τ : Sl} {M : Store} {Q : A → Store → Prop} {fr : ER} (h : (fr τ M).W fun p M1 => ∃ n : Nat, p = (0, (n : Int)) ∧ 1 ≤ n ∧ n ≤ 3 ∧ Q (.lst M1.length) (M1 ++ [.lst (permA n)])) : (eListPerm fr τ M).W Q := w_bind (h.imp fun p M1 ⟨n, e, h1, h3, h⟩ => by
  subst e
  have : lpOf (0, (n : Int)) M1 = .ok (.lst M1.length) (M1 ++ [.lst (permA n)]) := by
    unfold lpOf
    rw [if_pos ⟨rfl, by show (1 : Int) ≤ n; omega, by show (n : Int) ≤ 3; omega⟩]; rfl
  rw [this]
  with_unfolding_all exact h)
end
end AB
/-! AB31: sorted of a list of ints -/
namespace AB
open PySem PySem.Spec PyProof.Rows L2
def insI (x : Int) : List Int → List Int
  | [] => [x]
  | y :: ys => if x ≤ y then x :: y :: ys else y :: insI x ys
def sortI : List Int → List Int
  | [] => []
  | x :: xs => insI x (sortI xs)
theorem insI_perm (x : Int) : ∀ ys : List Int, (insI x ys).Perm (x :: ys)
  | [] => .refl _
  | y :: ys => by
    unfold insI
    split
    · exact .refl _
    · exact ((insI_perm x ys).cons y).trans (.swap x y ys)
theorem sortI_perm : ∀ xs : List Int, (sortI xs).Perm xs
  | [] => .refl _
  | x :: xs => (insI_perm x (sortI xs)).trans ((sortI_perm xs).cons x)
theorem insI_up (x : Int) : ∀ ys : List Int, ys.Pairwise (· ≤ ·) → (insI x ys).Pairwise (· ≤ ·)
  | [], _ => List.pairwise_singleton _ _
  | y :: ys, h => by
    have h := List.pairwise_cons.mp h
    unfold insI
    split
    · rename_i hx
      refine List.pairwise_cons.mpr ⟨fun z hz => ?_, List.pairwise_cons.mpr h⟩
      rcases List.mem_cons.mp hz with rfl | hz
      · exact hx
      · have := h.1 z hz; omega
    · rename_i hx
      refine List.pairwise_cons.mpr ⟨fun z hz => ?_, insI_up x ys h.2⟩
      rcases List.mem_cons.mp ((insI_perm x ys).mem_iff.mp hz) with rfl | hz
      · omega
      · exact h.1 z hz
theorem sortI_up : ∀ xs : List Int, (sortI xs).Pairwise (· ≤ ·)
  | [] => .nil
  | x :: xs => insI_up x _ (sortI_up xs)
theorem sortI_uniq {xs ys : List Int} (p : ys.Perm xs) (h : ys.Pairwise (· ≤ ·)) : ys = sortI xs :=
  List.Perm.eq_of_pairwise (le := (· ≤ ·)) (fun a b _ _ h1 h2 => by omega) h (sortI_up xs) (p.trans (sortI_perm xs).symm)
def oSortN : On := fun as M => match as with
  | [.lst l] => match listAt M l with
    | some xs => match ints? xs with
      | some q => if q.length < 64 then some (.lst M.length, M ++ [.lst ((sortI q).map A.int)]) else none
      | none => none
    | none => none
  | _ => none
theorem is_ints {ρ : List Addr} {H : Hp} (q : List Int) : IsAll ρ H (q.map A.int) (q.map V.int) := by
  induction q with
  | nil => exact .nil
  | cons i q ih => exact .cons (.int i) ih
theorem isAll_ints {ρ : List Addr} {H : Hp} : ∀ {q : List Int} {vs : List V}, IsAll ρ H (q.map A.int) vs → vs = q.map V.int
  | [], _, .nil => rfl
  | i :: q, _, .cons (.int _) h => by rw [isAll_ints h]; rfl
section
variable {X : Cx} {Tb : Tbl}
theorem cr_sortN : CallR X (.builtin "sorted") (rn (X.am Tb) oSortN) := by
  intro pins s σ H xs us Q I r h
  obtain ⟨as, M, ρ, is, m, ro⟩ := h
  unfold oSortN at ro
  split at ro
  · rename_i l
    cases is with
    | cons i1 is =>
      cases is
      cases i1 with
      | lst hl =>
        split at ro
        · rename_i ys el
          split at ro
          · rename_i q eq
            split at ro
            · rename_i h64
              obtain rfl := ints_of eq
              obtain ⟨vs, hs, iv⟩ := m.list hl el
              obtain rfl := isAll_ints iv
              refine cr_sorted pins s σ H _ us Q I r ⟨_, q, rfl, hs, h64, fun ns' p hp hu hn => ?_⟩
              obtain rfl := sortI_uniq hp hu
              exact ro.newL m (is_ints _) hn
            · exact ro.elim
          · exact ro.elim
        · exact ro.elim
  · exact ro.elim
end
end AB
/-! AB32: a tuple so many times -/
namespace AB
open PySem PySem.Spec PyProof.Rows L2
theorem tup_once (l : Addr) (items : Array Value) (n : Nat) (dd : Option Addr) (sl : Array (Option Value)) (u : Tok) (c1 : (items.isEmpty || (1 : Int) == 1) = true) :
    Meets (Builtin.«tuple.__mul__» ⟨[.ref l, .int 1 u], []⟩) (fun _ R s => s.heap.get? l = some { cls := .type "tuple", dict := dd, data := .seq items n, slots := sl } ∧ R (.ok (.ret (Value.ref l))) s) :=
  .of_wp fun prog w A R s h => by
    obtain ⟨hp, g, d, tk, os⟩ := s
    obtain ⟨hl, h⟩ := h
    have f1 := AutoSeq1.idx_int
    have hT : (⟨hp, g, d, tk, os⟩ : Shared).TypeIs (.ref l) "tuple" := ⟨_, hl, rfl⟩
    wp_walk using wpAny_loadPart' hl
    repeat (first
      | (refine wpAny_ite_false (by decide) ?_; wp_walk using wpAny_loadPart' hl)
      | (refine wpAny_ite_true (by simp) ?_; wp_walk using wpAny_loadPart' hl))
    exact ⟨_, rfl, h⟩
def oMulT : O2 := fun a b M => match a, b with
  | .tup xs, .int k => if xs ≠ [] ∧ 1 ≤ k ∧ k ≤ 1000 ∧ xs.length ≤ 1000 then some (.tup (List.replicate k.toNat xs).flatten, M) else none
  | _, _ => none
section
variable {X : Cx} {Tb : Tbl}
theorem op_mulT : OpR X (binaryOp .Mult) (r2 (X.am Tb) oMulT) := by
  intro pins s σ H x y v u Q I rx ry h
  obtain ⟨a, b, M, ρ, ia, ib, m, r⟩ := h
  unfold oMulT at r
  split at r
  · rename_i xs k
    cases ib
    split at r
    · rename_i hc
      obtain ⟨hne, h1, h2, hz⟩ := hc
      cases ia with
      | @tup l _ vs hl iv =>
        have hvl : xs.length = vs.length := iv.length
        by_cases hk : k = 1
        · subst hk
          obtain ⟨t, rfl⟩ := ry
          obtain rfl : v = .ref l := rx
          obtain ⟨its, r2, ⟨⟨cls, dd, data, sl⟩, ho, hc, n, hd⟩, hs⟩ := I.tuple (.inl (.inl hl))
          simp only at hc hd
          subst hc hd
          have rq : Q (.ref l) H := by
            have e : (List.replicate (1 : Int).toNat xs).flatten = xs := by simp
            rw [e] at r
            exact r.val m (.tup hl iv)
          refine wpAny_binaryOp_repeat_ref (T := "tuple") (U := "int") (by decide) ⟨_, ho, rfl⟩ (fun s' => typeIs_int s' 1 t) noFill_tuple_mul F.fills_int_mul F.slot_int_rmul repeat_tuple F.slot_int_index.lookup
            (call_meets F.slot_int_rmul (typeIs_int s 1 t) F.entry_int_rmul (F.args_int_rmul_2 _ _) (int_rmul_tuple 1 t l its.toArray n dd sl)
              ⟨ho, rfl, ⟨_, ho, rfl⟩, call_meets F.slot_tuple_mul ⟨_, ho, rfl⟩ F.entry_tuple_mul (F.args_tuple_mul_2 _ _) (tup_once l its.toArray n dd sl t (by simp)) ⟨ho, ?_⟩⟩)
          exact ⟨.ref l, H, I, rfl, rq⟩
        · exact op_repT pins s σ H _ _ v u Q I rx ry ⟨l, k, vs, rfl, rfl, .inl (.inl hl), fun z => hne (List.eq_nil_of_length_eq_zero (by rw [hvl, z]; rfl)), by omega, h2, by omega, fun p hp => r.newT m (iv.rep _) hp⟩
    · exact r.elim
  · exact r.elim
end
end AB
/-! AB33: [.. for .. in .. for .. in ..] -/
namespace AB
open PySem PySem.Spec PyProof.Rows L2
section
variable {X : Cx} {W : WR} {pos : Pos}
def lcB (src : Src) (t : Tgt) (ft : EFb) (fi1 : EI) (t1 : Tgt) (ft1 : EFb) (fe : EF) (l : Nat) (own1 : List Nat) (τ : Sl) : Nat → Nat → Store → EO A
  | 0, _, _ => .bad
  | n + 1, i, M => match src.at M i with
    | none => .bad
    | some none => .ok (.lst l) M
    | some (some x) => match t.set x τ with
      | none => .bad
      | some τ1 => match ft τ1 M with
        | .ok true M1 => match fi1 τ1 M1 with
          | .ok src1 M2 => (lcA src1 t1 ft1 fe l (wipeA τ1 own1) (src1.size M2) 0 M2).bind fun _ M3 => lcB src t ft fi1 t1 ft1 fe l own1 τ n (i + 1) M3
          | _ => .bad
        | .ok false M1 => lcB src t ft fi1 t1 ft1 fe l own1 τ n (i + 1) M1
        | _ => .bad
def eLc2 (fi : EI) (t : Tgt) (ft : EFb) (fi1 : EI) (t1 : Tgt) (ft1 : EFb) (fe : EF) (own own1 : List Nat) : EF := fun τ M => (fi τ M).bind fun src M1 => lcB src t ft fi1 t1 ft1 fe M1.length own1 (wipeA τ own) (src.size M1) 0 (M1 ++ [.lst []])
theorem lc2_tK {G : Gx} {fi fi1 : EI} {t t1 : Tgt} {ft ft1 : EFb} {fe : EF} {own own1 : List Nat} {σ : L2.St} {H : Hp} {Q : VK} (ho : ∀ i ∈ t.own, i ∈ own) (ho1 : ∀ i ∈ t1.own, i ∈ own1) (h : tG G W Is (eLc2 fi t ft fi1 t1 ft1 fe own own1) σ H Q) :
    tLc2 (tG G W (relJ G.w) fi) (tTgt t) (tG G W.nx relB ft) (tG G W.nx (relJ G.w) fi1) (tTgt t1) (tG G W.nx relB ft1) (tG G W.nx Is fe) own own1 σ H Q := by
  refine (seqG (relJ G.w) h).imp fun J H1 h1 => ?_
  obtain ⟨τ, M, ρ, src, rs, rm, ij, r⟩ := h1
  intro D hD
  have r : RE G W σ ρ H1 Is (lcB src t ft fi1 t1 ft1 fe M.length own1 (wipeA τ own) (src.size M) 0 (M ++ [.lst []])) Q := r
  have m0 : RM G.w (ρ ++ [D]) (upd H1 D (.lst [])) (M ++ [.lst []]) := rm.push hD ⟨[], upd_same, .nil⟩
  have hl0 : (ρ ++ [D])[M.length]? = some D := by rw [← rm.len]; simp
  have g0 : Grow H1 (upd H1 D (.lst [])) := .new hD
  generalize hl : M.length = l at r hl0
  generalize hM : (M ++ [Cell.lst []]) = M0 at r m0
  generalize hF : (fun (n i : Nat) (M : Store) => lcB src t ft fi1 t1 ft1 fe l own1 (wipeA τ own) n i M) = F
  have hFr : ∀ n i M, lcB src t ft fi1 t1 ft1 fe l own1 (wipeA τ own) n i M = F n i M := fun n i M => by rw [← hF]
  refine ⟨fun i m H => ∃ M ρ', Ext (ρ ++ [D]) ρ' ∧ Grow H1 H ∧ RM G.w ρ' H M ∧ RE G W σ ρ' H Is (F m i M) Q, ⟨_, M0, ρ ++ [D], .refl _, g0, m0, by rw [← hFr]; exact RE.mono r (.snoc _ _) g0⟩, ?_⟩
  clear r m0 hM
  rintro i m H ⟨M, ρ', x', g', rm', r⟩
  have xx : Ext ρ ρ' := (Ext.snoc ρ D).trans x'
  cases m with
  | zero => rw [← hFr] at r; exact r.elim
  | succ m =>
    rw [← hFr] at r
    unfold lcB at r
    have jj := ij ρ' H M i xx g' rm'
    cases ea : src.at M i with
    | none => rw [ea] at r; exact r.elim
    | some o =>
      cases o with
      | none =>
        rw [ea] at r jj
        exact .inl ⟨jj, r.okv (.refl _) (.refl _) rm' (.lst (x'.get hl0))⟩
      | some a =>
        rw [ea] at r jj
        obtain ⟨gg, yy⟩ := jj
        refine .inr ⟨gg, fun H => ∃ M ρ', Ext (ρ ++ [D]) ρ' ∧ Grow H1 H ∧ RM G.w ρ' H M ∧ RE G W σ ρ' H Is (F m (i + 1) M) Q, fun H' q => ⟨m, Nat.lt_succ_self m, q⟩, fun v H2 y => ?_⟩
        obtain ⟨g2, m2, ia⟩ := yy v H2 y
        dsimp only at r
        cases et : t.set a (wipeA τ own) with
        | none => rw [et] at r; exact r.elim
        | some τ1 =>
          rw [et] at r
          dsimp only at r
          have g12 := g'.trans g2
          refine ⟨a, wipeA τ own, ρ', τ1, ia, ((rs.mono xx g12).wipe own).s, et, fun σ1 rs1 sb => ⟨?_, ?_⟩⟩
          · rw [sb.wipe ho]
            exact wipe_wipe σ own
          have r := RE.mono r (.refl _) g2
          have rs1 : RS W.nx ρ' H2 τ1 σ1 := ⟨(rs.mono xx g12).ext, (rs.mono xx g12).grow, rs1⟩
          refine ⟨τ1, M, ρ', rs1, m2, ?_⟩
          cases e1 : ft τ1 M with
          | bad => rw [e1] at r; exact r.elim
          | ex en M1 => rw [e1] at r; exact r.elim
          | ok k M1 =>
            rw [e1] at r
            intro k' H3 ρ3 x3 g3 m3 ik
            have ik : k = k' := ik
            subst ik
            have r := RE.mono r x3 g3
            cases k with
            | false =>
              rw [if_neg Bool.false_ne_true]
              dsimp only at r
              rw [hFr] at r
              exact ⟨M1, ρ3, x'.trans x3, g12.trans g3, m3, r⟩
            | true =>
              rw [if_pos rfl]
              dsimp only at r
              refine ⟨τ1, M1, ρ3, rs1.mono x3 g3, m3, ?_⟩
              cases e2 : fi1 τ1 M1 with
              | bad => rw [e2] at r; exact r.elim
              | ex en M2 => rw [e2] at r; exact r.elim
              | ok src1 M2 =>
                rw [e2] at r
                intro J1 H4 ρ4 x4 g4 m4 ij1
                have r := RE.mono r x4 g4
                dsimp only at r
                have x04 : Ext (ρ ++ [D]) ρ4 := (x'.trans x3).trans x4
                have g04 : Grow H1 H4 := (g12.trans g3).trans g4
                have rs4 : RS W.nx ρ4 H4 τ1 σ1 := (rs1.mono x3 g3).mono x4 g4
                refine ⟨fun j k H => ∃ M ρ5, Ext ρ4 ρ5 ∧ Grow H4 H ∧ RM G.w ρ5 H M ∧ RE G W σ ρ5 H Is ((lcA src1 t1 ft1 fe l (wipeA τ1 own1) k j M).bind fun _ M3 => F m (i + 1) M3) Q, ⟨_, M2, ρ4, .refl _, .refl _, m4, by
                  have e : (fun (_ : A) (M3 : Store) => lcB src t ft fi1 t1 ft1 fe l own1 (wipeA τ own) m (i + 1) M3) = fun _ M3 => F m (i + 1) M3 := by funext _ M3; exact hFr _ _ _
                  rw [← e]; exact r⟩, ?_⟩
                clear r m2 m3 m4 e1 e2
                rintro j k H5 ⟨M, ρ5, x5, g5, m5, r⟩
                cases k with
                | zero => exact r.elim
                | succ k =>
                  unfold lcA at r
                  have jj := ij1 ρ5 H5 M j x5 g5 m5
                  cases ea1 : src1.at M j with
                  | none => rw [ea1] at r; exact r.elim
                  | some o =>
                    cases o with
                    | none =>
                      rw [ea1] at r jj
                      exact .inl ⟨jj, M, ρ5, x04.trans x5, g04.trans g5, m5, r⟩
                    | some a1 =>
                      rw [ea1] at r jj
                      obtain ⟨go1, yy1⟩ := jj
                      refine .inr ⟨go1, fun H => ∃ M ρ6, Ext ρ4 ρ6 ∧ Grow H4 H ∧ RM G.w ρ6 H M ∧ RE G W σ ρ6 H Is ((lcA src1 t1 ft1 fe l (wipeA τ1 own1) k (j + 1) M).bind fun _ M3 => F m (i + 1) M3) Q, fun H' q => ⟨k, Nat.lt_succ_self k, q⟩, fun v1 H6 y1 => ?_⟩
                      obtain ⟨g6, m6, ia1⟩ := yy1 v1 H6 y1
                      dsimp only at r
                      cases et1 : t1.set a1 (wipeA τ1 own1) with
                      | none => rw [et1] at r; exact r.elim
                      | some τ2 =>
                        rw [et1] at r
                        dsimp only at r
                        have g56 := g5.trans g6
                        refine ⟨a1, wipeA τ1 own1, ρ5, τ2, ia1, ((rs4.mono x5 g56).wipe own1).s, et1, fun σ3 rs3 sb3 => ⟨?_, ?_⟩⟩
                        · rw [sb3.wipe ho1]
                          exact wipe_wipe σ1 own1
                        have r := RE.mono r (.refl _) g6
                        have rs3 : RS W.nx ρ5 H6 τ2 σ3 := ⟨(rs4.mono x5 g56).ext, (rs4.mono x5 g56).grow, rs3⟩
                        refine ⟨τ2, M, ρ5, rs3, m6, ?_⟩
                        cases e3 : ft1 τ2 M with
                        | bad => rw [e3] at r; exact r.elim
                        | ex en M3 => rw [e3] at r; exact r.elim
                        | ok c M3 =>
                          rw [e3] at r
                          intro c' H7 ρ7 x7 g7 m7 ic
                          have ic : c = c' := ic
                          subst ic
                          have r := RE.mono r x7 g7
                          cases c with
                          | false =>
                            rw [if_neg Bool.false_ne_true]
                            exact ⟨M3, ρ7, x5.trans x7, g56.trans g7, m7, r⟩
                          | true =>
                            rw [if_pos rfl]
                            dsimp only at r
                            refine ⟨τ2, M3, ρ7, rs3.mono x7 g7, m7, ?_⟩
                            cases e4 : fe τ2 M3 with
                            | bad => rw [e4] at r; exact r.elim
                            | ex en M4 => rw [e4] at r; exact r.elim
                            | ok yv M4 =>
                              rw [e4] at r
                              intro w H8 ρ8 x8 g8 m8 iy
                              have r := RE.mono r x8 g8
                              dsimp only at r
                              have hb : ρ8[l]? = some D := x8.get (x7.get (x5.get (x04.get hl0)))
                              cases e5 : M4[l]? with
                              | none => rw [e5] at r; exact r.elim
                              | some cc =>
                                rw [e5] at r
                                cases cc with
                                | lst acc =>
                                  dsimp only at r
                                  obtain ⟨vs, hh, is⟩ := m8.lstM hb e5
                                  split at r
                                  · rename_i hz
                                    have g9 := m8.growSet (o := .lst (vs ++ [w])) hb e5
                                    exact ⟨vs, hh, by rw [← is.length]; exact hz, _, ρ8, x5.trans (x7.trans x8), ((g56.trans g7).trans g8).trans g9, m8.set (c' := .lst (acc ++ [yv])) hb e5 ⟨_, upd_same, (is.append (.cons iy .nil)).mono (.refl _) g9⟩, RE.mono r (.refl _) g9⟩
                                  · exact r.elim
                                | _ => exact r.elim
theorem ae_lc2 (own : List (Str × Nat)) (own1 : List Nat) {elt tg iter tg1 iter1 : Expr} {ifs ifs1 : List Expr} {scope : Scope} {fi fi1 : EI} {t t1 : Tgt} {ft ft1 : EFb} {fe : EF} (hc : X.calm = true) (hN : X.N.Nodup) (ok : BlkOk X.N X.env.scope scope own) (ho : ∀ i ∈ t.own, i ∈ own.map (·.2)) (ho1 : ∀ i ∈ t1.own, i ∈ own1) (hv : ∀ i ∈ own1, i ∈ own.map (·.2)) (hi : AI X W tg iter fi)
    (hg : ∀ (s : Shared) (H : Hp) (C : Addr) (cl : List (Str × Addr)) (fp : List Addr), AG (X.blk s H scope (compEnvC scope cl C X.env) fp) tg t) (ht : ∀ (s : Shared) (H : Hp) (C : Addr) (cl : List (Str × Addr)) (fp : List Addr), ATs (X.blk s H scope (compEnvC scope cl C X.env) fp) W.nx ifs ft)
    (hi1 : ∀ (s : Shared) (H : Hp) (C : Addr) (cl : List (Str × Addr)) (fp : List Addr), AI (X.blk s H scope (compEnvC scope cl C X.env) fp) W.nx tg1 iter1 fi1)
    (hg1 : ∀ (s : Shared) (H : Hp) (C : Addr) (cl : List (Str × Addr)) (fp : List Addr), AG (X.blk s H scope (compEnvC scope cl C X.env) fp) tg1 t1) (ht1 : ∀ (s : Shared) (H : Hp) (C : Addr) (cl : List (Str × Addr)) (fp : List Addr), ATs (X.blk s H scope (compEnvC scope cl C X.env) fp) W.nx ifs1 ft1)
    (he : ∀ (s : Shared) (H : Hp) (C : Addr) (cl : List (Str × Addr)) (fp : List Addr), AE (X.blk s H scope (compEnvC scope cl C X.env) fp) W.nx elt fe) (hs : ∀ x, foldedSetIterable iter X.env x = pure x := by intro _; rfl) (hs1 : ∀ env x, foldedSetIterable iter1 env x = pure x := by intro _ _; rfl) :
    AE X W (.ListComp elt [⟨tg, iter, ifs, 0⟩, ⟨tg1, iter1, ifs1, 0⟩] scope pos) (eLc2 fi t ft fi1 t1 ft1 fe (own.map (·.2)) own1) :=
  (pe_lc2 (tt := tG (X.gx W.Tb) W.nx relB ft) (wi1 := tG (X.gx W.Tb) W.nx (relJ (X.am W.Tb)) fi1) (tt1 := tG (X.gx W.Tb) W.nx relB ft1) (te := tG (X.gx W.Tb) W.nx Is fe) hc hN hi ok hv hg ht hi1 hg1 ht1 he hs hs1).pre fun _ _ _ h => lc2_tK ho ho1 h
end
end AB
/-! AB34: sum, max of tuples and lists of ints -/
namespace AB
open PySem PySem.Spec PyProof.Rows L2
section
variable {prog : Program} {w : World} {A : Around} {E : Value → Shared → Prop} {s : Shared} {l : Addr} {xs : Array (Int × Tok)} {its : List Value} {ns : List Int}
theorem sum_tupI {Q : Value → Shared → Prop} (hh : A.handled = none) (hl : s.heap.IsTuple l (intItems xs))
    (h : ∀ h' tk t', (∀ b o, s.heap.get? b = some o → h'.get? b = some o) → Q (.int (preSum (numAt xs) xs.size) t') { s with heap := h', toks := tk }) : wpAny (model prog w) A (call (.builtin "sum") [.ref l]) Q E s := by
  have lt : l < s.heap.objs.size := let ⟨_, e, _⟩ := hl; Heap.lt_size e
  refine call_sum_walkG (wpAny_pyIter_tuple hl ?_)
  refine ⟨_, [_, l], [_], _, _, _, numAt xs, rfl, Walks.tuple (A := A.in1) hh _ l (Nat.ne_of_lt lt) (intItems xs), ⟨⟨_, Heap.get?_push_size _ rfl, rfl, rfl⟩, hl.push _⟩, ?_, (fun _ _ => intItems_at), fun h' tk t' hk => ?_⟩
  · intro b hb
    show b < (s.heap.push _).objs.size
    rw [Heap.size_push]
    rcases (by simpa using hb : b = s.heap.objs.size ∨ b = l) with e | e
    · rw [e]; exact Nat.lt_succ_self _
    · rw [e]; exact Nat.lt_succ_of_lt lt
  · have := h h' tk t' fun b o e => hk b o (fun z => by
      have z : b = s.heap.objs.size := by simpa using z
      exact Nat.lt_irrefl _ (z ▸ Heap.lt_size e)) (Heap.get?_push_of_some _ e)
    simpa [intItems] using this
theorem max_tupI {Q : Value → Shared → Prop} (hh : A.handled = none) (hl : s.heap.IsTuple l (intItems xs)) (hne : 0 < xs.size)
    (h : ∀ v h' tk, (intItems xs)[argBest (fun i j => decide (numAt xs i > numAt xs j)) (xs.size - 1)]? = some v → (∀ b o, s.heap.get? b = some o → h'.get? b = some o) → Q v { s with heap := h', toks := tk }) : wpAny (model prog w) A (call (.builtin "max") [.ref l]) Q E s := by
  have lt : l < s.heap.objs.size := let ⟨_, e, _⟩ := hl; Heap.lt_size e
  refine call_max_walk (wpAny_pyIter_tuple hl ?_)
  refine ⟨_, [_, l], [_], _, _, _, _, rfl, Walks.tuple (A := A.in1) hh _ l (Nat.ne_of_lt lt) (intItems xs), ⟨⟨_, Heap.get?_push_size _ rfl, rfl, rfl⟩, hl.push _⟩, ?_, by simpa [intItems] using hne, CmpOf.ints_gt (numAt xs) (fun _ _ => intItems_at), fun v h' tk hP hk => ?_⟩
  · intro b hb
    show b < (s.heap.push _).objs.size
    rw [Heap.size_push]
    rcases (by simpa using hb : b = s.heap.objs.size ∨ b = l) with e | e
    · rw [e]; exact Nat.lt_succ_self _
    · rw [e]; exact Nat.lt_succ_of_lt lt
  · exact h v h' tk (by simpa [intItems] using hP) fun b o e => hk b o (fun z => by
      have z : b = s.heap.objs.size := by simpa using z
      exact Nat.lt_irrefl _ (z ▸ Heap.lt_size e)) (Heap.get?_push_of_some _ e)
end
def maxI : List Int → Int
  | [] => 0
  | [x] => x
  | x :: y :: xs => if x ≤ maxI (y :: xs) then maxI (y :: xs) else x
theorem maxI_ok : ∀ {ns : List Int}, ns ≠ [] → maxI ns ∈ ns ∧ ∀ y ∈ ns, y ≤ maxI ns
  | [], h => absurd rfl h
  | [x], _ => ⟨List.mem_singleton.mpr rfl, fun y hy => by rw [List.mem_singleton.mp hy]; exact Int.le_refl _⟩
  | x :: y :: xs, _ => by
    obtain ⟨h1, h2⟩ := maxI_ok (ns := y :: xs) (by simp)
    show (if x ≤ maxI (y :: xs) then maxI (y :: xs) else x) ∈ _ ∧ _
    have e : maxI (x :: y :: xs) = if x ≤ maxI (y :: xs) then maxI (y :: xs) else x := rfl
    rw [e]
    split
    · rename_i hx
      exact ⟨List.mem_cons_of_mem _ h1, fun z hz => by
        rcases List.mem_cons.mp hz with rfl | hz
        · exact hx
        · exact h2 z hz⟩
    · rename_i hx
      exact ⟨List.mem_cons_self, fun z hz => by
        rcases List.mem_cons.mp hz with rfl | hz
        · exact Int.le_refl _
        · have := h2 z hz; omega⟩
theorem maxI_uniq {ns : List Int} {m : Int} (h : m ∈ ns) (h2 : ∀ y ∈ ns, y ≤ m) : m = maxI ns := by
  obtain ⟨a, b⟩ := maxI_ok (ns := ns) (by intro e; rw [e] at h; cases h)
  have c := b m h
  have d := h2 _ a
  omega
def seqI (as : List A) (M : Store) : Option (List Int) := match as with
  | [.lst l] => (listAt M l).bind ints?
  | [.tup xs] => ints? xs
  | _ => none
def oSumI : On := fun as M => (seqI as M).map fun ns => (.int ns.sum, M)
def oMaxI : On := fun as M => match seqI as M with
  | some (x :: ns) => some (.int (maxI (x :: ns)), M)
  | _ => none
section
variable {X : Cx} {Tb : Tbl}
theorem cr_sumI (hc : X.calm = true) : CallR X (.builtin "sum") (rn (X.am Tb) oSumI) := by
  intro pins s σ H xs us Q I r h
  obtain ⟨as, M, ρ, is, m, ro⟩ := h
  unfold oSumI seqI at ro
  split at ro
  · rename_i l
    cases is with
    | cons i1 is =>
      cases is
      cases i1 with
      | lst hl =>
        cases el : listAt M l with
        | none => rw [el] at ro; exact ro.elim
        | some ys =>
          rw [el] at ro
          cases eq : ints? ys with
          | none => simp only [Option.bind_some, eq] at ro; exact ro.elim
          | some ns =>
            simp only [Option.bind_some, eq, Option.map_some] at ro
            obtain rfl := ints_of eq
            obtain ⟨vs, hs, iv⟩ := m.list hl el
            obtain rfl := isAll_ints iv
            exact cr_sum hc pins s σ H _ us Q I r ⟨_, ns, rfl, hs, ro.val m (.int _)⟩
  · rename_i ys
    cases is with
    | cons i1 is =>
      cases is
      cases i1 with
      | @tup l _ vs hl iv =>
        cases eq : ints? ys with
        | none => rw [eq] at ro; exact ro.elim
        | some ns =>
          rw [eq] at ro
          obtain rfl := ints_of eq
          obtain rfl := isAll_ints iv
          obtain ⟨its, rv, ⟨o, ho, hcl, n, hd⟩, hs⟩ := I.tuple (.inl (.inl hl))
          rw [Vals.ref1 r]
          have hi := rv.ints
          obtain ⟨xs, e⟩ := hi.allInts.items
          have hn : numsOf (intItems xs).toList = ns := by rw [← e]; exact hi.numsOf
          rw [nums_intItems] at hn
          refine sum_tupI (xs := xs) (I.ok.hd hc) ⟨o, ho, hcl, n, by rw [← e]; exact hd⟩ fun h' tk t' hk => ⟨.int _, H, I.kept hk, ⟨_, rfl⟩, ?_⟩
          rw [preSum_eq, List.take_of_length_le (by simp), hn]
          exact ro.val m (.int _)
  · exact ro.elim
theorem cr_maxI (hc : X.calm = true) : CallR X (.builtin "max") (rn (X.am Tb) oMaxI) := by
  intro pins s σ H xs us Q I r h
  obtain ⟨as, M, ρ, is, m, ro⟩ := h
  unfold oMaxI at ro
  split at ro
  · rename_i x ns eq
    unfold seqI at eq
    split at eq
    · rename_i l
      cases is with
      | cons i1 is =>
        cases is
        cases i1 with
        | lst hl =>
          cases el : listAt M l with
          | none => rw [el] at eq; cases eq
          | some ys =>
            rw [el] at eq
            have eq : ints? ys = some (x :: ns) := eq
            obtain rfl := ints_of eq
            obtain ⟨vs, hs, iv⟩ := m.list hl el
            obtain rfl := isAll_ints iv
            refine cr_max hc pins s σ H _ us Q I r ⟨_, x :: ns, rfl, hs, by simp, fun mx h1 h2 => ?_⟩
            rw [maxI_uniq h1 h2]
            exact ro.val m (.int _)
    · rename_i ys
      cases is with
      | cons i1 is =>
        cases is
        cases i1 with
        | @tup l _ vs hl iv =>
          obtain rfl := ints_of eq
          obtain rfl := isAll_ints iv
          obtain ⟨its, rv, ⟨o, ho, hcl, n, hd⟩, hs⟩ := I.tuple (.inl (.inl hl))
          rw [Vals.ref1 r]
          have hi := rv.ints
          obtain ⟨xs, e⟩ := hi.allInts.items
          have hn : numsOf (intItems xs).toList = x :: ns := by rw [← e]; exact hi.numsOf
          rw [nums_intItems] at hn
          have hsz : 0 < xs.size := by
            have := congrArg List.length hn
            simp at this
            omega
          refine max_tupI (xs := xs) (I.ok.hd hc) ⟨o, ho, hcl, n, by rw [← e]; exact hd⟩ hsz fun v h' tk hv hk => ?_
          obtain ⟨t, rfl⟩ := intItems_at hv
          obtain ⟨h1, h2⟩ := argBest_gt (numAt xs) (xs.size - 1)
          refine ⟨.int _, H, I.kept hk, ⟨_, rfl⟩, ?_⟩
          have : numAt xs (argBest (fun i j => decide (numAt xs i > numAt xs j)) (xs.size - 1)) = maxI (x :: ns) := by
            refine maxI_uniq ?_ fun a ha => ?_
            · rw [← hn, numAt_eq]; exact PySem.getD_mem (by rw [List.length_map, Array.length_toList]; omega)
            · rw [← hn] at ha
              obtain ⟨j, hj, rfl⟩ := mem_getD ha
              rw [List.length_map, Array.length_toList] at hj
              rw [← numAt_eq]; exact h2 j (by omega)
          rw [this]
          exact ro.val m (.int _)
    · cases eq
  · exact ro.elim
end
end AB
/-! AB35: list(d.items()), sorted(d.keys()) -/
namespace AB
open PySem PySem.Spec PyProof.Rows L2
def itemA (kv : Key × A) : A := .tup [keyA kv.1, kv.2]
def liOf (a : A) (M : Store) : EO A := match a with
  | .dct d => match M[d]? with
    | some (.dK kvs) => .ok (.lst M.length) (M ++ [.lst (kvs.map itemA)])
    | _ => .bad
  | _ => .bad
def eListItems (f : EF) : EF := fun τ M => (f τ M).bind liOf
theorem items_is {ρ : List Addr} {H : Hp} : ∀ {kvs : List (Key × A)} {vs : List V} {ts : List Addr}, Paired (fun (t : Addr) (q : Key × V) => H t = some (.tup [kV q.1, q.2])) ts ((kvs.map (·.1)).zip vs) → IsAll ρ H (kvs.map (·.2)) vs → IsAll ρ H (kvs.map itemA) (ts.map V.ref)
  | [], vs, ts, p, i => by
    cases i
    cases p
    exact .nil
  | kv :: kvs, vs, ts, p, i => by
    cases i with
    | cons i1 i2 =>
      cases p with
      | cons p1 p2 => exact .cons (.tup p1 (.cons (keyA_is kv.1) (.cons i1 .nil))) (items_is p2 i2)
section
variable {X : Cx} {W : WR} {pos : Pos} {e : Expr} {f : EF}
theorem ae_listItems {p apos cpos : Pos} (hc : X.calm = true) (hm : X.mg "list" = none) (he : AE X W e f) (hg : Gl X "list" := by rfl) (hbase : attributeBase e "items" X.env (eval e X.env) = eval e X.env := by rfl) (hline : (apos.endLine == cpos.line) = true := by rfl)
    (hs : starEach [.Call (.Attribute e "items" apos) [] [] cpos] X.env = (false, eval (.Call (.Attribute e "items" apos) [] [] cpos) X.env) :: starEach [] X.env := by rfl) :
    AE X W (.Call (.Name "list" p) [.Call (.Attribute e "items" apos) [] [] cpos] [] pos) (eListItems f) := (LiI.pe_listItems hc he hg hm rfl hbase hline hs).pre fun σ H Q h => by
  refine (seqG Is h).imp fun x H1 h1 => ?_
  obtain ⟨τ, M, ρ, c, rs, rm, i, r⟩ := h1
  have r : RE (X.gx W.Tb) W σ ρ H1 Is (liOf c M) Q := r
  unfold liOf at r
  split at r
  · rename_i d
    cases i with
    | dct hl =>
      rename_i a
      split at r
      · rename_i kvs ec
        obtain ⟨vs, hH, iv⟩ := rm.at_ _ _ _ hl ec
        refine ⟨a, _, rfl, hH, fun H' q ts keep hq hts hqt hlist hpair => ?_⟩
        let Hb : Hp := fun b => if b = q then none else H' b
        have hHb : upd Hb q (.lst (ts.map V.ref)) = H' := by
          funext b
          by_cases z : b = q
          · subst z; rw [upd_same, hlist]
          · rw [upd_ne z]; show (if b = q then none else H' b) = H' b; rw [if_neg z]
        have kb : ∀ b o, H1 b = some o → Hb b = some o := fun b o e => by
          show (if b = q then none else H' b) = some o
          rw [if_neg (fun z => by rw [z, hq] at e; cases e)]
          exact keep b o e
        have hbq : Hb q = none := by show (if q = q then none else H' q) = none; rw [if_pos rfl]
        have mb : RM (X.gx W.Tb).w ρ Hb M := rm.grow (fun b u _ e => kb b u e) kb
        have gH : Grow H1 H' := fun b u _ e => keep b u e
        have ii : IsAll (ρ ++ [q]) H' (kvs.map itemA) (ts.map V.ref) := items_is hpair (iv.mono (.snoc ρ q) gH)
        have mm : RM (X.gx W.Tb).w (ρ ++ [q]) H' (M ++ [.lst (kvs.map itemA)]) := by
          have := mb.push (p := q) (o := .lst (ts.map V.ref)) (c := .lst (kvs.map itemA)) hbq ⟨ts.map V.ref, upd_same, by rw [hHb]; exact ii⟩
          rwa [hHb] at this
        exact r.okv (.snoc ρ q) gH mm (.lst (by rw [← rm.len]; simp))
      · exact r.elim
  · exact r.elim
/-- sorted of a view of a dict's keys, ints, fewer than 64 -/
def rKeysI : V → Hp → VK → Prop := fun x H Q => ∃ (a : Addr) (kvs : List (Key × V)) (ks : List Int), x = .ref a ∧ Rd H a (.dK kvs) ∧ kvs.map (·.1) = ks.map Sum.inl ∧ ks.length < 64 ∧ ∀ (ys : List Int) (p : Addr), ys.Perm ks → ys.Pairwise (· ≤ ·) → H p = none → Q (.ref p) (upd H p (.lst (ys.map V.int)))
theorem pe_sortedKeys {te : TE} {p apos cpos : Pos} (hc : X.calm = true) (hm : X.mg "sorted" = none) (he : PE X e te) (hg : Gl X "sorted" := by rfl) (hbase : attributeBase e "keys" X.env (eval e X.env) = eval e X.env := by rfl) (hline : (apos.endLine == cpos.line) = true := by rfl)
    (hs : starEach [.Call (.Attribute e "keys" apos) [] [] cpos] X.env = (false, eval (.Call (.Attribute e "keys" apos) [] [] cpos) X.env) :: starEach [] X.env := by rfl) :
    PE X (.Call (.Name "sorted" p) [.Call (.Attribute e "keys" apos) [] [] cpos] [] pos) (fun σ H Q => te σ H fun x H1 => rKeysI x H1 Q) := by
  refine ⟨fun pins s σ H Q I hq => ?_⟩
  refine Call_ (ld_blt I hg hm (by rfl) ?_)
  refine PyProof.Rows.callWith_builtin1 (PyProof.Rows.args_cons ?_ hs) rfl rfl
  refine wpAny_Call_method (T := "dict") (id := "dict.keys") hbase rfl hline F.plainAttrs_dict F.slot_dict_keys F.type_dict_keys (thn (he.run pins s σ H _ I hq) fun u s1 ⟨x, H1, I1, rx, a, kvs, ks, ex, hd, hks, h64, q⟩ => ?_)
  subst ex
  obtain rfl : u = Value.ref a := rx
  obtain ⟨z, lo, vs, rel, dd⟩ := dk_rd I1.hok hd
  obtain ⟨ep, hat⟩ := dd.dictAt
  have hkeys : vs.map (·.1) = ks.map Sum.inl := rel.keys.symm.trans hks
  have hl : vs.length = ks.length := by
    have e := congrArg List.length hkeys
    rwa [List.length_map, List.length_map] at e
  have I2 : L2.Inv X pins σ H1 { s1 with heap := s1.heap.push { cls := .type "dict_keys", data := .fields #[.ref a] } } := I1.kept (t' := s1.toks) fun b ob q => Heap.get?_push_of_some _ q
  refine ⟨dd.typeIs, dd.mapOf.noDict, ?_⟩
  show wpAny _ _ (callWith cpos (.builtin "dict.keys") [.ref a] [] []) _ X.xe s1
  refine method_meetsIn F.slot_dict_keys F.entry_dict_keys rfl (PySem.evalArgs_none ⟨rfl, dd.typeIs, F.args_dict_keys_1 _, _, PySem.meets_dict_keys_raw a lo, (by obtain ⟨o, es, h1, h2, h3, _⟩ := hat; exact ⟨es, ep, o, h1, h2, h3⟩), ?_⟩)
  refine PyProof.Rows.args_nil ?_
  refine Calls.call_function_entry PyProof.Rows.kind_sorted PyProof.Rows.plain_sorted PyProof.Rows.entry_sorted (PyProof.Rows.args_sorted1 _) ?_
  unfold Builtin.«sorted»
  refine wpAny_bind (m := checkCount "sorted" 1 1 _) (wpAny_pure ?_)
  refine wpAny_bind (PySem.W.kdu_collect (A := X.A.in1) (PySem.W.kdl_keys (knd := mixKind X.prog X.w) (r := s1.heap.objs.size) (d := a) (kvs := vs) (ep := ep)) (I2.ok.hd hc) ⟨⟨_, Heap.get?_push_size _ rfl, rfl, rfl⟩, hat.push _⟩ (by rw [hl, sizeLine_eq]; omega) fun h' tk acc hk hacc => ?_)
  have hal : acc.toList.length = ks.length := by rw [Array.length_toList, hacc.1, hl]
  have hS : IntsAre acc.toList ks := ints_each hal fun j v e => by
    obtain ⟨k, x, e1, e2⟩ := hacc.2 j v (by rw [← Array.getElem?_toList]; exact e)
    have e3 : (vs.map (·.1))[j]? = some k := by rw [List.getElem?_map, e1]; rfl
    rw [hkeys, List.getElem?_map] at e3
    obtain ⟨y, e4, e5⟩ := Option.map_eq_some_iff.mp e3
    subst e5
    rcases keyIs_shape (show keyIs (Sum.inl y) v = true from e2) with ⟨i, t, ek, ev⟩ | ⟨z, t, ek, ev⟩
    · cases ek; exact ⟨y, t, e4, ev⟩
    · cases ek
  have I3 : L2.Inv X pins σ H1 { s1 with heap := h', toks := tk } := I2.kept hk
  refine wpAny_bind (wpAny_newList ?_ (by rw [hal, sizeLine_eq]; omega))
  have hoL : (h'.push (seqObj "list" acc.toList.toArray 0)).get? h'.objs.size = some (seqObj "list" acc.toList.toArray 0) := Heap.get?_push_size _ rfl
  show wpAny _ _ _ _ _ { s1 with heap := h'.push (seqObj "list" acc.toList.toArray 0), toks := tk }
  refine wpAny_bind (wpAny_holding (wpAny_call_entry PyProof.Rows.slot_list_sort ⟨_, hoL, rfl⟩ PyProof.Rows.entry_list_sort (PyProof.Rows.list_sort_tree (s := { s1 with heap := h'.push (seqObj "list" acc.toList.toArray 0), toks := tk }) hoL hS (by rw [hal]; exact h64) fun out ys g1 g2 g3 => ⟨_, rfl, ?_⟩) (PyProof.Rows.args_list_sort _)))
  obtain ⟨e', he'⟩ := PyProof.Rows.sortedHeap_at (vs := acc.toList) (out := out) hoL
  have hlen : (ys.map V.int).length ≤ sizeLine := by rw [List.length_map, g2.length_eq, sizeLine_eq]; omega
  refine wpAny_pure ⟨_, rfl, .ref h'.objs.size, upd H1 h'.objs.size (.lst (ys.map V.int)), I3.laid (t' := tk) (fun b u e => ?_) (Nat.le_refl _) (show ObjOk X.prog X.w _ _ _ (.lst (ys.map V.int)) from ⟨hlen, out.toList, e', vals_of_ints g1, by rw [Array.toArray_toList]; exact he'⟩), rfl, q ys _ g2 g3 (I3.hok.fresh (Nat.le_refl _))⟩
  have hb : b < h'.objs.size := Heap.lt_size e
  exact (PyProof.Rows.sortedHeap_old (Nat.ne_of_lt hb) (by rw [size_push']; exact Nat.lt_succ_of_lt hb)).trans (Heap.get?_push_of_some _ e)
def intKeys? : List Key → Option (List Int)
  | [] => some []
  | .inl i :: r => (intKeys? r).map (i :: ·)
  | .inr _ :: _ => none
theorem intKeys_ok : ∀ {ks : List Key} {is : List Int}, intKeys? ks = some is → ks = is.map Sum.inl
  | [], is, e => by cases e; rfl
  | .inl i :: r, is, e => by
    unfold intKeys? at e
    obtain ⟨js, h1, rfl⟩ := Option.map_eq_some_iff.mp e
    rw [intKeys_ok h1]; rfl
  | .inr x :: r, is, e => by cases e
theorem intKeys_map : ∀ is : List Int, intKeys? (is.map Sum.inl) = some is
  | [] => rfl
  | i :: is => by
    show (intKeys? (is.map Sum.inl)).map (i :: ·) = _
    rw [intKeys_map is]; rfl
def skOf (a : A) (M : Store) : EO A := match a with
  | .dct d => match M[d]? with
    | some (.dK kvs) => match intKeys? (kvs.map (·.1)) with
      | some ks => if ks.length < 64 then .ok (.lst M.length) (M ++ [.lst ((sortI ks).map A.int)]) else .bad
      | none => .bad
    | _ => .bad
  | _ => .bad
def eSortKeys (f : EF) : EF := fun τ M => (f τ M).bind skOf
theorem ae_sortKeys {p apos cpos : Pos} (hc : X.calm = true) (hm : X.mg "sorted" = none) (he : AE X W e f) (hg : Gl X "sorted" := by rfl) (hbase : attributeBase e "keys" X.env (eval e X.env) = eval e X.env := by rfl) (hline : (apos.endLine == cpos.line) = true := by rfl)
    (hs : starEach [.Call (.Attribute e "keys" apos) [] [] cpos] X.env = (false, eval (.Call (.Attribute e "keys" apos) [] [] cpos) X.env) :: starEach [] X.env := by rfl) :
    AE X W (.Call (.Name "sorted" p) [.Call (.Attribute e "keys" apos) [] [] cpos] [] pos) (eSortKeys f) := (pe_sortedKeys hc hm he hg hbase hline hs).pre fun σ H Q h => by
  refine (seqG Is h).imp fun x H1 h1 => ?_
  obtain ⟨τ, M, ρ, c, rs, rm, i, r⟩ := h1
  have r : RE (X.gx W.Tb) W σ ρ H1 Is (skOf c M) Q := r
  unfold skOf at r
  split at r
  · rename_i d
    cases i with
    | dct hl =>
      rename_i a
      split at r
      · rename_i kvs ec
        split at r
        · rename_i ks ek
          split at r
          · rename_i h64
            obtain ⟨vs, hH, iv⟩ := rm.at_ _ _ _ hl ec
            have hlen : (kvs.map (·.1)).length = vs.length := by have := iv.length; simpa using this
            refine ⟨a, _, ks, rfl, .inl hH, by rw [map_zip_fst hlen, intKeys_ok ek], h64, fun ys q hp hu hq => ?_⟩
            obtain rfl := sortI_uniq hp hu
            exact r.okv (.snoc ρ q) (.new hq) (rm.push hq ⟨_, upd_same, is_ints _⟩) (.lst (by rw [← rm.len]; simp))
          · exact r.elim
        · exact r.elim
      · exact r.elim
  · exact r.elim
end
section
variable {τ : Sl} {M : Store} {Q : A → Store → Prop} {f : EF}
theorem w_listItems (h : (f τ M).W fun a M1 => ∃ d kvs, a = .dct d ∧ M1[d]? = some (.dK kvs) ∧ Q (.lst M1.length) (M1 ++ [.lst (kvs.map itemA)])) : (eListItems f τ M).W Q := w_bind (h.imp fun a M1 ⟨d, kvs, e1, e2, h⟩ => by
  subst e1
  unfold liOf
  dsimp only
  rw [e2]
  with_unfolding_all exact h)
theorem w_sortKeys (h : (f τ M).W fun a M1 => ∃ d kvs ks, a = .dct d ∧ M1[d]? = some (.dK kvs) ∧ kvs.map (·.1) = ks.map Sum.inl ∧ ks.length < 64 ∧ Q (.lst M1.length) (M1 ++ [.lst ((sortI ks).map A.int)])) : (eSortKeys f τ M).W Q := w_bind (h.imp fun a M1 ⟨d, kvs, ks, e1, e2, e3, e4, h⟩ => by
  subst e1
  unfold skOf
  dsimp only
  rw [e2]
  dsimp only
  rw [e3, intKeys_map]
  dsimp only
  rw [if_pos e4]
  with_unfolding_all exact h)
end
end AB
/-! AB36: x = [.. for .. in .. for .. in ..] -/
namespace AB
open PySem PySem.Spec PyProof.Rows L2
section
variable {X : Cx} {W : WR} {pos : Pos}
theorem as_setLc2 (i : Nat) (own : List (Str × Nat)) (own1 : List Nat) {y : Str} {py spos : Pos} {elt tg iter tg1 iter1 : Expr} {ifs ifs1 : List Expr} {scope : Scope} {fi fi1 : EI} {t t1 : Tgt} {ft ft1 : EFb} {fe : EF} (hc : X.calm = true) (hN : X.N.Nodup) (hsw : swapsWith (.ListComp elt [⟨tg, iter, ifs, 0⟩, ⟨tg1, iter1, ifs1, 0⟩] scope pos) (some (.Name y py)) spos.line X.env = pure true) (ok : BlkOk X.N X.env.scope scope own) (ho : ∀ i ∈ t.own, i ∈ own.map (·.2)) (ho1 : ∀ i ∈ t1.own, i ∈ own1) (hv : ∀ i ∈ own1, i ∈ own.map (·.2)) (hi : AI X W tg iter fi)
    (hg : ∀ (s : Shared) (H : Hp) (C : Addr) (cl : List (Str × Addr)) (fp : List Addr), AG (X.blk s H scope (compEnvC scope cl C X.env) fp) tg t) (ht : ∀ (s : Shared) (H : Hp) (C : Addr) (cl : List (Str × Addr)) (fp : List Addr), ATs (X.blk s H scope (compEnvC scope cl C X.env) fp) W.nx ifs ft)
    (hi1 : ∀ (s : Shared) (H : Hp) (C : Addr) (cl : List (Str × Addr)) (fp : List Addr), AI (X.blk s H scope (compEnvC scope cl C X.env) fp) W.nx tg1 iter1 fi1)
    (hg1 : ∀ (s : Shared) (H : Hp) (C : Addr) (cl : List (Str × Addr)) (fp : List Addr), AG (X.blk s H scope (compEnvC scope cl C X.env) fp) tg1 t1) (ht1 : ∀ (s : Shared) (H : Hp) (C : Addr) (cl : List (Str × Addr)) (fp : List Addr), ATs (X.blk s H scope (compEnvC scope cl C X.env) fp) W.nx ifs1 ft1)
    (he : ∀ (s : Shared) (H : Hp) (C : Addr) (cl : List (Str × Addr)) (fp : List Addr), AE (X.blk s H scope (compEnvC scope cl C X.env) fp) W.nx elt fe) (hy : X.N[i]? = some y := by rfl) (hyl : X.env.scope.names.lookup y = some .local := by rfl) (hs : ∀ x, foldedSetIterable iter X.env x = pure x := by intro _; rfl) (hs1 : ∀ env x, foldedSetIterable iter1 env x = pure x := by intro _ _; rfl) :
    AS X W (.Assign [.Name y py] (.ListComp elt [⟨tg, iter, ifs, 0⟩, ⟨tg1, iter1, ifs1, 0⟩] scope pos) spos) (sAsg (.nm i) (eLc2 fi t ft fi1 t1 ft1 fe (own.map (·.2)) own1)) :=
  (ps_setLc2 (tt := tG (X.gx W.Tb) W.nx relB ft) (wi1 := tG (X.gx W.Tb) W.nx (relJ (X.am W.Tb)) fi1) (tt1 := tG (X.gx W.Tb) W.nx relB ft1) (te := tG (X.gx W.Tb) W.nx Is fe) hc hN hy hyl hsw hi ok hv hg ht hi1 hg1 ht1 he hs hs1).pre fun D σ H h => by
    have h1 := asg_tK h
    refine lc2_tK ho ho1 (h1.imp fun x H1 q => ?_)
    obtain ⟨a, τ, ρ, τ', ia, rs, e, q⟩ := q
    simp only [Tgt.set] at e
    cases e
    refine q _ (rs.set ia i) ⟨by simp, fun j hj => ?_⟩
    rw [List.getElem?_set_ne (by intro z; exact hj (by simp [Tgt.own, z]))]
end
end AB
/-! AB37: for k in d, the dict locked meanwhile -/
namespace AB
open PySem PySem.Spec PyProof.Rows L2
section
variable {ρ : List Addr} {H : Hp} {a : Addr} {u : HO} {od : Obj}
mutual
theorem Is.unl (h : H a = some (.frz od u)) : ∀ {t : A} {v : V}, Is ρ H t v → Is ρ (upd H a u) t v
  | _, _, .non => .non
  | _, _, .bl b => .bl b
  | _, _, .int i => .int i
  | _, _, .str s => .str s
  | _, _, .tup e r => .tup (by rw [upd_ne (fun z => by rw [z, h] at e; cases e)]; exact e) (IsAll.unl h r)
  | _, _, .lst e => .lst e
  | _, _, .dct e => .dct e
  | _, _, .ty n => .ty n
  | _, _, .obj e => .obj e
  | _, _, .rng e => .rng (by rw [upd_ne (fun z => by rw [z, h] at e; cases e)]; exact e)
theorem IsAll.unl (h : H a = some (.frz od u)) : ∀ {ts : List A} {vs : List V}, IsAll ρ H ts vs → IsAll ρ (upd H a u) ts vs
  | _, _, .nil => .nil
  | _, _, .cons r rs => .cons (Is.unl h r) (IsAll.unl h rs)
end
theorem RS0.unl (h : H a = some (.frz od u)) : ∀ {τ : Sl} {σ : L2.St}, RS0 ρ H τ σ → RS0 ρ (upd H a u) τ σ
  | _, _, .nil => .nil
  | _, _, .no r => .no (RS0.unl h r)
  | _, _, .yes i r => .yes (i.unl h) (RS0.unl h r)
/-- a locked cell is let go -/
theorem RM.unl {w : Amb} {M : Store} {l : Nat} {c c' : Cell} (m : RM w ρ H M) (hl : ρ[l]? = some a) (hc : M[l]? = some c) (hF : c.isF = true) (h : H a = some (.frz od u)) (hM : c'.isM = true) (hF' : c'.isF = false) (hfz : ∀ xs, c' ≠ .frz xs) (hc' : RC w ρ (upd H a u) a c') : RM w ρ (upd H a u) (M.set l c') := by
  have hlt : l < M.length := (List.getElem?_eq_some_iff.mp hc).1
  have getM : ∀ (j : Nat) (d : Cell), (M.set l c')[j]? = Option.some d → (j = l ∧ d = c') ∨ (j ≠ l ∧ M[j]? = Option.some d) := fun j d e => by
    by_cases hj : j = l
    · subst hj
      rw [List.getElem?_set_self hlt] at e
      exact .inl ⟨rfl, (Option.some.inj e).symm⟩
    · rw [List.getElem?_set_ne (Ne.symm hj)] at e
      exact .inr ⟨hj, e⟩
  have noM : ∀ (j : Nat) (d : Cell), ρ[j]? = Option.some a → M[j]? = Option.some d → d.isM = true → False := fun j d h1 h2 h3 => by
    obtain ⟨o, e, lo⟩ := (m.at_ j a d h1 h2).there h3
    rw [h] at e
    exact lo.fz _ _ (Option.some.inj e).symm
  refine ⟨by simp [m.len], fun j k b d d' h1 h2 h3 h4 h5 h6 => ?_, fun j b d h1 h2 => ?_, ?_, fun j k b d xs h1 h2 h3 h4 h5 => ?_, fun j k b d d' h1 h2 h3 h4 h5 h6 => ?_⟩
  · rcases getM j d h3 with ⟨q1, _⟩ | ⟨q1, q2⟩
    · rcases getM k d' h4 with ⟨q3, _⟩ | ⟨q3, q4⟩
      · rw [q1, q3]
      · subst q1; rw [hl] at h1; obtain rfl := Option.some.inj h1
        exact (noM k d' h2 q4 h6).elim
    · rcases getM k d' h4 with ⟨q3, _⟩ | ⟨q3, q4⟩
      · subst q3; rw [hl] at h2; obtain rfl := Option.some.inj h2
        exact (noM j d h1 q2 h5).elim
      · exact m.nd j k b d d' h1 h2 q2 q4 h5 h6
  · rcases getM j d h2 with ⟨q1, q2⟩ | ⟨q1, q2⟩
    · subst q1 q2; rw [hl] at h1; obtain rfl := Option.some.inj h1
      exact hc'
    · have r := m.at_ j b d h1 q2
      by_cases hb : b = a
      · subst hb
        cases d with
        | obj => trivial
        | frz xs =>
          obtain ⟨vs, e, i⟩ := r
          rcases e with (⟨o, e⟩ | e) | e
          · exfalso
            rw [h] at e
            have := HO.frz.inj (Option.some.inj e)
            obtain ⟨_, hu⟩ := this
            cases c with
            | fk ks => obtain ⟨o1, v1, e1, _⟩ := m.at_ l b _ hl hc; rw [h] at e1; have := (HO.frz.inj (Option.some.inj e1)).2; rw [hu] at this; cases this
            | fT ks => obtain ⟨o1, v1, e1, _⟩ := m.at_ l b _ hl hc; rw [h] at e1; have := (HO.frz.inj (Option.some.inj e1)).2; rw [hu] at this; cases this
            | _ => cases hF
          · rw [h] at e; cases e
          · exact ⟨vs, .inr e, i.unl h⟩
        | fk ks => exact absurd (m.fu j l b _ c h1 hl q2 hc rfl hF) q1
        | fT ks => exact absurd (m.fu j l b _ c h1 hl q2 hc rfl hF) q1
        | _ => exact (noM j _ h1 q2 rfl).elim
      · have eb : upd H a u b = H b := upd_ne hb
        cases d with
        | lst xs => obtain ⟨vs, e, i⟩ := r; exact ⟨vs, eb.trans e, i.unl h⟩
        | frz xs =>
          obtain ⟨vs, e, i⟩ := r
          refine ⟨vs, ?_, i.unl h⟩
          rcases e with (⟨o, e⟩ | e) | e
          · exact .inl (.inl ⟨o, eb.trans e⟩)
          · exact .inl (.inr (eb.trans e))
          · exact .inr e
        | dK xs => obtain ⟨vs, e, i⟩ := r; exact ⟨vs, eb.trans e, i.unl h⟩
        | dT xs => obtain ⟨vs, e, i⟩ := r; exact ⟨vs, eb.trans e, i.unl h⟩
        | dN xs => obtain ⟨bs, vs, e, i, j, d⟩ := r; exact ⟨bs, vs, eb.trans e, i.unl h, j.unl h, d⟩
        | st xs => obtain ⟨S, e, i⟩ := r; exact ⟨S, eb.trans e, i⟩
        | obj => trivial
        | xd xs => obtain ⟨vs, e, i⟩ := r; exact ⟨vs, eb.trans e, i.unl h⟩
        | fk xs => obtain ⟨o, vs, e, i⟩ := r; exact ⟨o, vs, eb.trans e, i.unl h⟩
        | fT xs => obtain ⟨o, vs, e, i⟩ := r; exact ⟨o, vs, eb.trans e, i.unl h⟩
        | ins C fs => obtain ⟨Ca, dx, vs, h0, e, e2, i⟩ := r; exact ⟨Ca, dx, vs, h0, eb.trans e, by rw [upd_ne (fun z => by rw [z, h] at e2; cases e2)]; exact e2, i.unl h⟩
  · intro p hp
    obtain ⟨ps, t1, t2, t3⟩ := m.tabs p hp
    refine ⟨ps, ?_, t2, fun pos cv hcv => ?_⟩
    · rw [upd_ne (fun z => by rw [z, h] at t1; cases t1)]; exact t1
    · obtain ⟨c, e1, e2⟩ := t3 pos cv hcv
      refine ⟨c, e1, ?_⟩
      rw [upd_ne (fun z => by
        rw [z, h] at e2
        have := Option.some.inj e2
        unfold LamX.CodeO at this
        cases this)]
      exact e2
  · rcases getM k _ h4 with ⟨q3, q4⟩ | ⟨q3, q4⟩
    · exact absurd q4.symm (hfz xs)
    · rcases getM j d h3 with ⟨q1, q2⟩ | ⟨q1, q2⟩
      · subst q1; rw [hl] at h1; obtain rfl := Option.some.inj h1
        obtain ⟨vs, e, i⟩ := m.at_ k a _ h2 q4
        rcases e with (⟨o, e⟩ | e) | e
        · exfalso
          rw [h] at e
          obtain ⟨_, hu⟩ := HO.frz.inj (Option.some.inj e)
          cases c with
          | fk ks => obtain ⟨o1, v1, e1, _⟩ := m.at_ j a _ hl hc; rw [h] at e1; have := (HO.frz.inj (Option.some.inj e1)).2; rw [hu] at this; cases this
          | fT ks => obtain ⟨o1, v1, e1, _⟩ := m.at_ j a _ hl hc; rw [h] at e1; have := (HO.frz.inj (Option.some.inj e1)).2; rw [hu] at this; cases this
          | _ => cases hF
        · rw [h] at e; cases e
        · exact ⟨vs, e, i.unl h⟩
      · obtain ⟨vs, f1, f2⟩ := m.fz j k b d xs h1 h2 q2 q4 h5
        exact ⟨vs, f1, f2.unl h⟩
  · rcases getM j d h3 with ⟨q1, q2⟩ | ⟨q1, q2⟩
    · rw [q2, hF'] at h5; cases h5
    · rcases getM k d' h4 with ⟨q3, q4⟩ | ⟨q3, q4⟩
      · rw [q4, hF'] at h6; cases h6
      · exact m.fu j k b d d' h1 h2 q2 q4 h5 h6
end
def letGoS (l : Nat) : SO → SO
  | .nx τ M => match M[l]? with
    | some (.fk kvs) => .nx τ (M.set l (.dK kvs))
    | _ => .bad
  | .rt a M => match M[l]? with
    | some (.fk kvs) => .rt a (M.set l (.dK kvs))
    | _ => .bad
  | _ => .bad
def keyL (kvs : List (Key × A)) : List A := kvs.map fun kv => keyA kv.1
def sForD (i : Nat) (t : Tgt) (b : SF) : SF := fun τ M => match τ[i]? with
  | some (some (.dct l)) => match M[l]? with
    | some (.dK kvs) => letGoS l (forA (.snap (keyL kvs)) t b (kvs.length + 1) 0 τ (M.set l (.fk kvs)))
    | _ => .bad
  | _ => .bad
section
variable {X : Cx} {W : WR} {pos : Pos}
/-- the ends of what runs while d is locked -/
abbrev lockD (D : Ends) (d : Addr) (u : HO) (od : Obj) : Ends := ⟨fun σ' H' => H' d = some (.frz od u) ∧ D.nx σ' (upd H' d u), fun v H' => H' d = some (.frz od u) ∧ D.rt v (upd H' d u), fun σ' H' => H' d = some (.frz od u) ∧ D.bk σ' (upd H' d u), fun σ' H' => H' d = some (.frz od u) ∧ D.ct σ' (upd H' d u)⟩
theorem lock_conv {G : Gx} {D : Ends} {ρ : List Addr} {H : Hp} {d : Addr} {kz : List (Key × V)} {od : Obj} {l : Nat} {o : SO} (hl : ρ[l]? = some d) (hd : H d = some (.dK kz)) (hW : Grow W.h H) (r : RSO G W D ρ H (letGoS l o)) : RSO G W (lockD D d (.dK kz) od) ρ (upd H d (.frz od (.dK kz))) o := by
  have gg : ∀ {H' : Hp}, Grow (upd H d (.frz od (.dK kz))) H' → Grow H (upd H' d (.dK kz)) := fun {H'} g b w iw e => by
    have nb : b ≠ d := fun z => by
      subst z
      rw [hd] at e
      cases e
      generalize hz : HO.dK kz = z at iw
      cases iw with
      | code c q => unfold LamX.CodeO at hz; cases hz
      | _ => cases hz
    rw [upd_ne nb]
    exact g b w iw (by rw [upd_ne nb]; exact e)
  have mm : ∀ {H' : Hp} {ρ' : List Addr} {M : Store} {kvs : List (Key × A)}, Ext ρ ρ' → RM G.w ρ' H' M → H' d = some (.frz od (.dK kz)) → M[l]? = some (.fk kvs) → RM G.w ρ' (upd H' d (.dK kz)) (M.set l (.dK kvs)) := fun {H' ρ' M kvs} x m hf ec => by
    obtain ⟨o1, v1, e1, i1⟩ := m.at_ l d _ (x.get hl) ec
    rw [hf] at e1
    have hu := (HO.frz.inj (Option.some.inj e1)).2
    exact m.unl (x.get hl) ec rfl hf rfl rfl (fun xs z => by cases z) ⟨v1, by rw [upd_same, hu], i1.unl hf⟩
  cases o with
  | nx τ M =>
    intro σ' H' ρ' x g m i
    have hf := g d _ (.frz _ _) upd_same
    refine ⟨hf, ?_⟩
    have r : RSO G W D ρ H (match M[l]? with
      | some (.fk kvs) => .nx τ (M.set l (.dK kvs))
      | _ => .bad) := r
    cases ec : M[l]? with
    | none => rw [ec] at r; exact r.elim
    | some c =>
      rw [ec] at r
      cases c with
      | fk kvs => exact r σ' _ ρ' x (gg g) (mm x m hf ec) ⟨i.ext, hW.trans (gg g), i.s.unl hf⟩
      | _ => exact r.elim
  | rt a M =>
    intro v H' ρ' x g m i
    have hf := g d _ (.frz _ _) upd_same
    refine ⟨hf, ?_⟩
    have r : RSO G W D ρ H (match M[l]? with
      | some (.fk kvs) => .rt a (M.set l (.dK kvs))
      | _ => .bad) := r
    cases ec : M[l]? with
    | none => rw [ec] at r; exact r.elim
    | some c =>
      rw [ec] at r
      cases c with
      | fk kvs => exact r v _ ρ' x (gg g) (mm x m hf ec) (i.unl hf)
      | _ => exact r.elim
  | bk τ M => exact r.elim
  | ct τ M => exact r.elim
  | ex e τ M => exact r.elim
  | bad => exact r.elim
theorem as_forD {tg e : Expr} {body : List Stmt} {i : Nat} {t : Tgt} {fb : SF} (hp : PassesOwn (model X.prog X.w) X.A X.env X.xe) (hc : X.calm = true) (he : AE X W e (eVar i)) (hg : AG X tg t) (hb : ASs X W body fb)
    (hs : ∀ x, foldedSetIterable e X.env x = pure x := by intro _; rfl) : AS X W (.For tg e body [] pos) (sForD i t fb) := (ps_lock (ps_for hp hc (pi_keys he) hg hb hs)).pre fun D σ H h => by
  obtain ⟨τ, M, ρ, rs, rm, r⟩ := h
  unfold sForD at r
  split at r
  · rename_i l ei
    split at r
    · rename_i kvs ec
      obtain ⟨v, hv, iv⟩ := rs.get ei
      cases iv with
      | @dct _ d hl =>
        obtain ⟨vs, hH, iis⟩ := rm.at_ _ _ _ hl ec
        refine ⟨d, _, hH, trivial, fun od => ?_⟩
        have gL : Grow H (upd H d (.frz od (.dK ((kvs.map (·.1)).zip vs)))) := rm.growSet hl ec
        have mL : RM (X.gx W.Tb).w ρ (upd H d (.frz od (.dK ((kvs.map (·.1)).zip vs)))) (M.set l (.fk kvs)) := rm.set hl ec ⟨od, vs, upd_same, iis.mono (.refl _) gL⟩
        have rL := lock_conv (od := od) hl hH rs.grow r
        refine ⟨τ, M.set l (.fk kvs), ρ, rs.mono (.refl _) gL, mL, ?_⟩
        have ev : eVar i τ (M.set l (.fk kvs)) = .ok (.dct l) (M.set l (.fk kvs)) := by unfold eVar; rw [ei]
        rw [ev]
        intro b H1 ρ1 x1 g1 m1 i1
        cases i1 with
        | @dct _ d' hl1 =>
          rw [x1.get hl] at hl1
          obtain rfl := Option.some.inj hl1
          refine ⟨d, od, rfl, .inl ⟨_, g1 d _ (.frz _ _) upd_same, ?_⟩⟩
          have ij : SrcJ (X.am W.Tb) ρ1 H1 (.snap (keyL kvs)) (Itk d od ((kvs.map (·.1)).zip vs)) := by
            intro ρ2 H2 M2 j x g m
            have hf : H2 d = some (.frz od (.dK ((kvs.map (·.1)).zip vs))) := g d _ (.frz _ _) (g1 d _ (.frz _ _) upd_same)
            have hlen : (kvs.map (·.1)).length = vs.length := by have := iis.length; simpa using this
            have hzl : ((kvs.map (·.1)).zip vs).length = kvs.length := by rw [List.length_zip, ← hlen]; simp
            simp only [Src.at]
            cases e : (keyL kvs)[j]? with
            | none =>
              have := List.getElem?_eq_none_iff.mp e
              unfold keyL at this
              rw [List.length_map] at this
              exact ⟨hf, by rw [hzl]; exact this⟩
            | some y =>
              have hj := (List.getElem?_eq_some_iff.mp e).1
              unfold keyL at hj e
              rw [List.length_map] at hj
              refine ⟨⟨hf, by rw [hzl]; exact hj⟩, fun v H3 ⟨e3, k, w, e4, e5⟩ => ?_⟩
              subst e3 e5
              refine ⟨.refl _, m, ?_⟩
              have ek : (kvs.map (·.1))[j]? = some k := by
                have := congrArg (Option.map (·.1)) e4
                rw [← List.getElem?_map, map_zip_fst hlen] at this
                exact this
              rw [List.getElem?_map] at ek e
              cases ekv : kvs[j]? with
              | none => rw [ekv] at ek; cases ek
              | some kv =>
                rw [ekv] at ek e
                cases ek
                cases e
                exact keyA_is kv.1
          refine ⟨fun j m σ H => ∃ τ M ρ', Ext ρ1 ρ' ∧ Grow H1 H ∧ RS W ρ' H τ σ ∧ RM (X.am W.Tb) ρ' H M ∧ RSO (X.gx W.Tb) W (lockD D d (.dK ((kvs.map (·.1)).zip vs)) od) ρ' H (forA (.snap (keyL kvs)) t fb m j τ M), ⟨kvs.length + 1, τ, _, ρ1, .refl _, .refl _, (rs.mono (.refl _) gL).mono x1 g1, m1, RSO.mono rL x1 g1⟩, ?_⟩
          clear r rs rm rL mL m1
          rintro j m σ H ⟨τ, M, ρ', x', g', rs, rm, r⟩
          cases m with
          | zero => exact r.elim
          | succ m =>
            unfold forA at r
            have jj := ij ρ' H M j x' g' rm
            cases ea : (Src.snap (keyL kvs)).at M j with
            | none => rw [ea] at r; exact r.elim
            | some o =>
              cases o with
              | none =>
                rw [ea] at r jj
                exact .inl ⟨jj, r _ _ ρ' (.refl _) (.refl _) rm rs⟩
              | some a =>
                rw [ea] at r jj
                obtain ⟨go, yy⟩ := jj
                refine .inr ⟨go, fun σ' H' => ∃ τ M ρ', Ext ρ1 ρ' ∧ Grow H1 H' ∧ RS W ρ' H' τ σ' ∧ RM (X.am W.Tb) ρ' H' M ∧ RSO (X.gx W.Tb) W (lockD D d (.dK ((kvs.map (·.1)).zip vs)) od) ρ' H' (forA (.snap (keyL kvs)) t fb m (j + 1) τ M), fun σ' H' q => ⟨m, Nat.lt_succ_self m, q⟩, fun v H2 y => ?_⟩
                obtain ⟨g2, m2, ia⟩ := yy v H2 y
                have r : RSO (X.gx W.Tb) W (lockD D d (.dK ((kvs.map (·.1)).zip vs)) od) ρ' H (match t.set a τ with
                  | none => .bad
                  | some τ1 => match fb τ1 M with
                    | .nx τ2 M2 => forA (.snap (keyL kvs)) t fb m (j + 1) τ2 M2
                    | .ct τ2 M2 => forA (.snap (keyL kvs)) t fb m (j + 1) τ2 M2
                    | .bk τ2 M2 => .nx τ2 M2
                    | o => o) := r
                cases et : t.set a τ with
                | none => rw [et] at r; exact r.elim
                | some τ1 =>
                  rw [et] at r
                  refine ⟨a, τ, ρ', τ1, ia, (rs.mono (.refl _) g2).s, et, fun σ1 rs1 _ => ⟨τ1, M, ρ', (rs.mono (.refl _) g2).of rs1, m2, ?_⟩⟩
                  have r := RSO.mono r (.refl _) g2
                  have r : RSO (X.gx W.Tb) W (lockD D d (.dK ((kvs.map (·.1)).zip vs)) od) ρ' H2 (match fb τ1 M with
                    | .nx τ2 M2 => forA (.snap (keyL kvs)) t fb m (j + 1) τ2 M2
                    | .ct τ2 M2 => forA (.snap (keyL kvs)) t fb m (j + 1) τ2 M2
                    | .bk τ2 M2 => .nx τ2 M2
                    | o => o) := r
                  cases eb : fb τ1 M with
                  | nx τ2 M2 => rw [eb] at r; exact fun σ2 H3 ρ3 x g m i => ⟨τ2, M2, ρ3, x'.trans x, (g'.trans g2).trans g, i, m, RSO.mono r x g⟩
                  | ct τ2 M2 => rw [eb] at r; exact fun σ2 H3 ρ3 x g m i => ⟨τ2, M2, ρ3, x'.trans x, (g'.trans g2).trans g, i, m, RSO.mono r x g⟩
                  | bk τ2 M2 => rw [eb] at r; exact r
                  | rt a M2 => rw [eb] at r; exact r
                  | ex en τ2 M2 => rw [eb] at r; exact r
                  | bad => rw [eb] at r; exact r
    · exact r.elim
  · exact r.elim
end
end AB
/-! AB38: [.. for k in d], tuple keys, the dict locked meanwhile -/
namespace AB
open PySem PySem.Spec PyProof.Rows L2
def letGoE (l : Nat) : EO A → EO A
  | .ok a M => match M[l]? with
    | some (.fT kvs) => .ok a (M.set l (.dT kvs))
    | _ => .bad
  | _ => .bad
def keyLT (kvs : List (List Key × A)) : List A := kvs.map fun kv => .tup (kv.1.map keyA)
def eLcD (i : Nat) (t : Tgt) (ft : EFb) (fe : EF) (own : List Nat) : EF := fun τ M => match τ[i]? with
  | some (some (.dct l)) => match M[l]? with
    | some (.dT kvs) => letGoE l (eLc (fun _ M1 => .ok (.snap (keyLT kvs)) M1) t ft fe own τ (M.set l (.fT kvs)))
    | _ => .bad
  | _ => .bad
section
variable {X : Cx} {W : WR} {pos : Pos}
theorem lockE_conv {G : Gx} {σ : L2.St} {ρ : List Addr} {H : Hp} {d : Addr} {kz : List (List Key × V)} {od : Obj} {l : Nat} {o : EO A} {Q : VK} (hl : ρ[l]? = some d) (hd : H d = some (.dT kz)) (r : RE G W σ ρ H Is (letGoE l o) Q) :
    RE G W σ ρ (upd H d (.frz od (.dT kz))) Is o (fun v H' => H' d = some (.frz od (.dT kz)) ∧ Q v (upd H' d (.dT kz))) := by
  cases o with
  | ok a M =>
    intro v H' ρ' x g m i
    have hf := g d _ (.frz _ _) upd_same
    refine ⟨hf, ?_⟩
    have gg : Grow H (upd H' d (.dT kz)) := fun b w iw e => by
      have nb : b ≠ d := fun z => by
        subst z
        rw [hd] at e
        cases e
        generalize hz : HO.dT kz = z at iw
        cases iw with
        | code c q => unfold LamX.CodeO at hz; cases hz
        | _ => cases hz
      rw [upd_ne nb]
      exact g b w iw (by rw [upd_ne nb]; exact e)
    have r : RE G W σ ρ H Is (match M[l]? with
      | some (.fT kvs) => .ok a (M.set l (.dT kvs))
      | _ => .bad) Q := r
    cases ec : M[l]? with
    | none => rw [ec] at r; exact r.elim
    | some c =>
      rw [ec] at r
      cases c with
      | fT kvs =>
        obtain ⟨o1, v1, e1, i1⟩ := m.at_ l d _ (x.get hl) ec
        rw [hf] at e1
        have hu := (HO.frz.inj (Option.some.inj e1)).2
        exact r v _ ρ' x gg (m.unl (x.get hl) ec rfl hf rfl rfl (fun xs z => by cases z) ⟨v1, by rw [upd_same, hu], i1.unl hf⟩) (i.unl hf)
      | _ => exact r.elim
  | ex e M => exact r.elim
  | bad => exact r.elim
theorem srcJ_keysT {w : Amb} {ρ : List Addr} {H : Hp} {d : Addr} {od : Obj} {kvs : List (List Key × A)} {vs : List V} (hlen : (kvs.map (·.1)).length = vs.length) (hf : H d = some (.frz od (.dT ((kvs.map (·.1)).zip vs)))) : SrcJ w ρ H (.snap (keyLT kvs)) (Itkt d od ((kvs.map (·.1)).zip vs)) := by
  intro ρ2 H2 M2 j x g m
  have hf := g d _ (.frz _ _) hf
  have hzl : ((kvs.map (·.1)).zip vs).length = kvs.length := by rw [List.length_zip, ← hlen]; simp
  simp only [Src.at]
  cases e : (keyLT kvs)[j]? with
  | none =>
    have := List.getElem?_eq_none_iff.mp e
    unfold keyLT at this
    rw [List.length_map] at this
    exact ⟨hf, by rw [hzl]; exact this⟩
  | some y =>
    have hj := (List.getElem?_eq_some_iff.mp e).1
    unfold keyLT at hj e
    rw [List.length_map] at hj
    refine ⟨⟨hf, by rw [hzl]; exact hj⟩, fun v H3 ⟨e3, k, w, q, e4, e5, e6⟩ => ?_⟩
    subst e3 e5
    refine ⟨.refl _, m, ?_⟩
    have ek : (kvs.map (·.1))[j]? = some k := by
      have := congrArg (Option.map (·.1)) e4
      rw [← List.getElem?_map, map_zip_fst hlen] at this
      exact this
    rw [List.getElem?_map] at ek e
    cases ekv : kvs[j]? with
    | none => rw [ekv] at ek; cases ek
    | some kv =>
      rw [ekv] at ek e
      cases ek
      cases e
      exact .tup e6 (keysA_is kv.1)
theorem ae_lcD (i : Nat) (own : List (Str × Nat)) {x : Str} {px : Pos} {elt tg : Expr} {ifs : List Expr} {scope : Scope} {t : Tgt} {ft : EFb} {fe : EF} (hc : X.calm = true) (hN : X.N.Nodup) (ok : BlkOk X.N X.env.scope scope own) (ho : ∀ i ∈ t.own, i ∈ own.map (·.2))
    (hg : ∀ (s : Shared) (H : Hp) (C : Addr) (cl : List (Str × Addr)) (fp : List Addr), AG (X.blk s H scope (compEnvC scope cl C X.env) fp) tg t) (ht : ∀ (s : Shared) (H : Hp) (C : Addr) (cl : List (Str × Addr)) (fp : List Addr), ATs (X.blk s H scope (compEnvC scope cl C X.env) fp) W.nx ifs ft)
    (he : ∀ (s : Shared) (H : Hp) (C : Addr) (cl : List (Str × Addr)) (fp : List Addr), AE (X.blk s H scope (compEnvC scope cl C X.env) fp) W.nx elt fe) (hx : X.N[i]? = some x := by rfl) (hv : Vis X.env.scope x := by first | exact Or.inl rfl | exact Or.inr (Or.inl rfl) | exact Or.inr (Or.inr rfl)) (hd : (x == ("__debug__" : Str)) = false := by decide)
    (hcd : (x == ("__classdict__" : Str)) = false := by decide) (hs : ∀ y, foldedSetIterable (.Name x px) X.env y = pure y := by intro _; rfl) :
    AE X W (.ListComp elt [⟨tg, .Name x px, ifs, 0⟩] scope pos) (eLcD i t ft fe (own.map (·.2))) := (pe_lock (pe_lc (tt := tG (X.gx W.Tb) W.nx relB ft) (te := tG (X.gx W.Tb) W.nx Is fe) hc hN (pi_keys (pe_var hx hv hd hcd)) ok hg ht he hs)).pre fun σ H Q h => by
  obtain ⟨τ, M, ρ, rs, rm, r⟩ := h
  unfold eLcD at r
  split at r
  · rename_i l ei
    split at r
    · rename_i kvs ec
      obtain ⟨v, hv2, iv⟩ := rs.get ei
      cases iv with
      | @dct _ d hl =>
        obtain ⟨vs, hH, iis⟩ := rm.at_ _ _ _ hl ec
        refine ⟨d, _, hH, trivial, fun od => ?_⟩
        have gL : Grow H (upd H d (.frz od (.dT ((kvs.map (·.1)).zip vs)))) := rm.growSet hl ec
        have mL : RM (X.gx W.Tb).w ρ (upd H d (.frz od (.dT ((kvs.map (·.1)).zip vs)))) (M.set l (.fT kvs)) := rm.set hl ec ⟨od, vs, upd_same, iis.mono (.refl _) gL⟩
        have rL := lockE_conv (od := od) hl hH r
        have hlen : (kvs.map (·.1)).length = vs.length := by have := iis.length; simpa using this
        have k := lc_tK (G := X.gx W.Tb) (W := W) (fi := fun _ M1 => .ok (.snap (keyLT kvs)) M1) ho ⟨τ, M.set l (.fT kvs), ρ, rs.mono (.refl _) gL, mL, rL⟩
        obtain ⟨τ1, M1, ρ1, rs1, rm1, r1⟩ := k
        exact ⟨.ref d, hv2, d, od, rfl, .inr ⟨_, upd_same, RE.okv (a := Src.snap (keyLT kvs)) (M := M1) (rel := relJ (X.am W.Tb)) r1 (.refl _) (.refl _) rm1 (srcJ_keysT hlen upd_same)⟩⟩
    · exact r.elim
  · exact r.elim
end
end AB
/-! AB39: any(t), a tuple of ints -/
namespace AB
open PySem PySem.Spec PyProof.Rows L2
def oAnyI : On := fun as M => match as with
  | [.tup xs] => (ints? xs).map fun ns => (.bl (ns.any fun n => decide (n ≠ 0)), M)
  | _ => none
section
variable {X : Cx} {Tb : Tbl}
theorem truth_ints {prog : Program} {w : World} {A : Around} {ns : List Int} {its : List Value} (hi : IntsAre its ns) : TruthOf prog w A (fun i v => its.toArray[i]? = some v) (fun i => decide (ns.getD i 0 ≠ 0)) := fun i v s Q E hv hq => by
  have hv' : its[i]? = some v := by simpa using hv
  obtain ⟨n, t, e1, e2⟩ : ∃ n t, ns[i]? = some n ∧ v = .int n t := by
    clear hq hv
    induction hi generalizing i with
    | nil => simp at hv'
    | cons n t h ih =>
      cases i with
      | zero => simp at hv'; exact ⟨n, t, rfl, hv'.symm⟩
      | succ i => exact ih i (by simpa using hv')
  subst e2
  have hg : ns.getD i 0 = n := by rw [List.getD_eq_getElem?_getD, e1]; rfl
  have hq : Q (decide (ns.getD i 0 ≠ 0)) s := hq
  rw [hg] at hq
  refine PyProof.Rows.truthy_int ?_
  have e : (n != 0) = decide (n ≠ 0) := by by_cases z : n = 0 <;> simp [z]
  rw [e]; exact hq
theorem any_rangeI : ∀ ns : List Int, (List.range ns.length).any (fun i => decide (ns.getD i 0 ≠ 0)) = ns.any fun n => decide (n ≠ 0)
  | [] => rfl
  | n :: ns => by
    rw [List.length_cons, List.range_succ_eq_map, List.any_cons, List.any_map, List.any_cons, ← any_rangeI ns]
    rfl
theorem cr_anyI (hc : X.calm = true) : CallR X (.builtin "any") (rn (X.am Tb) oAnyI) := by
  intro pins s σ H xs us Q I r h
  obtain ⟨as, M, ρ, is, m, ro⟩ := h
  unfold oAnyI at ro
  split at ro
  · rename_i ys
    cases is with
    | cons i1 is =>
      cases is
      cases i1 with
      | @tup l _ vs hl iv =>
        cases eq : ints? ys with
        | none => rw [eq] at ro; exact ro.elim
        | some ns =>
          rw [eq] at ro
          obtain rfl := ints_of eq
          obtain rfl := isAll_ints iv
          obtain ⟨its, rv, ⟨o, ho, hcl, n, hd⟩, hs⟩ := I.tuple (.inl (.inl hl))
          rw [Vals.ref1 r]
          have hi := rv.ints
          have ht : s.heap.IsTuple l its.toArray := ⟨o, ho, hcl, n, hd⟩
          have lt : l < s.heap.objs.size := Heap.lt_size ho
          have hln : its.length = ns.length := hi.length
          refine call_any_walk (wpAny_pyIter_tuple ht ?_)
          refine ⟨_, [_, l], [_], _, _, _, _, rfl, Walks.tuple (A := X.A.in1) (I.ok.hd hc) _ l (Nat.ne_of_lt lt) its.toArray, ⟨⟨_, Heap.get?_push_size _ rfl, rfl, rfl⟩, ht.push _⟩, truth_ints hi, fun h' tk hk => ?_⟩
          refine ⟨.bl _, H, I.kept (t' := tk) fun b ob e => hk b ob (fun z => by
            have z : b = s.heap.objs.size := by simpa using z
            exact Nat.lt_irrefl _ (z ▸ Heap.lt_size e)) (Heap.get?_push_of_some _ e), rfl, ?_⟩
          have e : (List.range its.toArray.size).any (fun i => decide (ns.getD i 0 ≠ 0)) = ns.any fun n => decide (n ≠ 0) := by rw [List.size_toArray, hln]; exact any_rangeI ns
          rw [e]
          exact ro.val m (.bl _)
  · exact ro.elim
end
end AB
namespace P66
open PySem PySem.Spec PyProof.Rows L2 AB
def topS (i : Nat) : Stmt := PySem.Challenge.pw_toldwhat_k66_whole_counts_alone.main.body.getD i (.Pass ⟨0, 0, 0, 0⟩)
def tt_PLACELESS : List Str := ["in", "inout"]
def tt_TAKING : List Str := ["stack", "deque", "inout"]
def tb_WORDS : List (Str × List Str) := [("end", ["put"]), ("ends", ["front", "put"]), ("stack", ["chop", "put"]), ("deque", ["behead", "chop", "front", "put"]), ("in", ["put"]), ("inout", ["put", "take"]), ("relabel", ["put", "turn"]), ("reverse", ["put", "turn"])]
structure Txt (w : World) (K : PySem.W.Frag) (mg : Str → Option Value) : Prop where
  b_all : mg "all" = none
  b_any : mg "any" = none
  b_bool : mg "bool" = none
  b_enumerate : mg "enumerate" = none
  b_int : mg "int" = none
  b_isinstance : mg "isinstance" = none
  b_len : mg "len" = none
  b_list : mg "list" = none
  b_max : mg "max" = none
  b_range : mg "range" = none
  b_set : mg "set" = none
  b_sorted : mg "sorted" = none
  b_str : mg "str" = none
  b_sum : mg "sum" = none
  b_tuple : mg "tuple" = none
  c_MOST_ANSWER : ∃ t, mg "MOST_ANSWER" = some (.int 3 t)
  c_MOST_COUNT : ∃ t, mg "MOST_COUNT" = some (.int 20 t)
  c_MOST_LETTERS : ∃ t, mg "MOST_LETTERS" = some (.int 3 t)
  c_MOST_STATES : ∃ t, mg "MOST_STATES" = some (.int 40 t)
  c_MOST_SURE : ∃ t, mg "MOST_SURE" = some (.int 5 t)
  g_PLACELESS : ∃ a, mg "PLACELESS" = some (.ref a) ∧ KTup K a tt_PLACELESS
  g_TAKING : ∃ a, mg "TAKING" = some (.ref a) ∧ KTup K a tt_TAKING
  g_WORDS : ∃ a, mg "WORDS" = some (.ref a) ∧ KTab K w a tb_WORDS
section
variable {P : Program} {w : World} {K : PySem.W.Frag} {mg : Str → Option Value} {Tb : Tbl} {base : Heap}
abbrev s_law_all : Stmt := topS 46
theorem sc_law_all : FnScope ["counts", "found", "letter", "less", "text"] ["counts"] (defScope s_law_all) := ⟨rfl, rfl, rfl, by decide +kernel, rfl, by decide +kernel, by decide +kernel⟩
def S_law_all (R_law_all : On') : SF :=
  (sSeq (sIf (eB (eOp oEq (eFn oSumI (eCons (eVar 0) eNil)) (eC (.int 0)))) (sSeq (sRet (eLst (eCons (eTup eNil) eNil)))
    sNil) sNil)
    (sSeq (sAsg (.nm 1) (eLst eNil))
    (sSeq (sFor (iRng1 (eCons (eFn oLenN (eCons (eVar 0) eNil)) eNil)) (.nm 2) (sSeq (sIf (eB (eOp oGt (eOp oIx (eVar 0) (eVar 2)) (eC (.int 0)))) (sSeq (sAsg (.nm 3) (eOp oAdd (eOp oAdd (eSl (eVar 0) eNoPart (ePart (eVar 2))) (eTup (eCons (eOp oSub (eOp oIx (eVar 0) (eVar 2)) (eC (.int 1))) eNil))) (eSl (eVar 0) (ePart (eOp oAdd (eVar 2) (eC (.int 1)))) eNoPart)))
    (sSeq (sAsg (.nm 1) (eOp oAdd (eVar 1) (eLc (iSeq (eCall 1 R_law_all (eCons (eVar 3) eNil))) (.nm 4) bYes (eOp oAdd (eVar 4) (eTup (eCons (eVar 2) eNil))) [4])))
    sNil)) sNil)
    sNil))
    (sSeq (sRet (eVar 1))
    sNil))))
def F_law_all : Nat → On'
  | 0 => fun _ _ => .bad
  | n + 1 => defA 5 (S_law_all (F_law_all n))
set_option maxHeartbeats 16000000 in
theorem ok_law_all {fa : Addr} {fd : FuncData} (T : Txt w K mg)  (F : Fun K "_law_all" "_law_all" s_law_all fa fd) (hm : mg "_law_all" = some (.ref fa)) : ∀ n, FnX P w K mg Tb base "_law_all" (0 + n) 1 (F_law_all n)
  | 0 => ⟨fa, fd, ["counts"], fn_bad, hm, F.kp, F.binds (ps := ["counts"]) fun _ _ _ _ _ _ us hl => match us, hl with | [_], _ => rfl⟩
  | n + 1 => by
    have G_law_all := ok_law_all T  F hm n
    refine ⟨fa, fd, ["counts"], fn_A (k := 0 + n) F sc_law_all (fun cdv A outer s₀ H E hr => ?_), hm, F.kp, F.binds (ps := ["counts"]) fun _ _ _ _ _ _ us hl => match us, hl with | [_], _ => rfl⟩
    unfold S_law_all
    exact (ass_cons (as_if (at_cmp (op_eqA (hu64 hr)) (ae_B (cr_sumI rfl) T.b_sum (aa_cons (ae_v 0) aa_nil)) ae_int) (ass_cons (as_ret (ae_lst (aa_cons (ae_tup aa_nil) aa_nil)))
    ass_nil) ass_nil)
    (ass_cons (as_set 1 sc_law_all.nd (ae_lst aa_nil))
    (ass_cons (as_for (passes_of rfl) rfl (ai_rng1 T.b_range (aa_cons (ae_B cr_lenN T.b_len (aa_cons (ae_v 0) aa_nil)) aa_nil)) (ag_nm 2 sc_law_all.nd) (ass_cons (as_if (at_cmp (op_gtA) (ae_ix (ae_v 0) (ae_v 2)) ae_int) (ass_cons (as_set 3 sc_law_all.nd (ae_op op_addA (ae_op op_addA (ae_sl (ae_v 0) ap_none (ap_some (ae_v 2))) (ae_tup (aa_cons (ae_op op_subA (ae_ix (ae_v 0) (ae_v 2)) ae_int) aa_nil))) (ae_sl (ae_v 0) (ap_some (ae_op op_addA (ae_v 2) ae_int)) ap_none)))
    (ass_cons (as_set 1 sc_law_all.nd (ae_op op_addA (ae_v 1) (ae_lc [("text", 4)] rfl sc_law_all.nd (blkOk_by rfl) (by decide) (ai_seq (ae_callX G_law_all (hr.mono (by omega)) (takes_of rfl rfl rfl rfl) (aa_cons (ae_v 3) aa_nil))) (fun _ _ _ _ _ => (ag_nm 4 sc_law_all.nd)) (fun _ _ _ _ _ => ats_nil) (fun _ _ _ _ _ => (ae_op op_addA (ae_v 4) (ae_tup (aa_cons (ae_v 2) aa_nil)))))))
    ass_nil)) ass_nil)
    ass_nil))
    (ass_cons (as_ret (ae_v 1))
    ass_nil))))
abbrev s_law_taken : Stmt := topS 40
theorem sc_law_taken : FnScope ["row", "many", "cell", "found"] ["row", "many"] (defScope s_law_taken) := ⟨rfl, rfl, rfl, by decide +kernel, rfl, by decide +kernel, by decide +kernel⟩
def S_law_taken : SF :=
  (sSeq (sIf (eB (eOp oGt (eOp oIx (eVar 0) (eC (.int 3))) (eC (.int 0)))) (sSeq (sAsg (.nm 3) (eOp oMod (eFn oInt1 (eCons (eOp oIx (eVar 0) (eC (.int 3))) eNil)) (eVar 1)))
    (sSeq (sSetL (eVar 0) (eC (.int 3)) (eOp oFdiv (eOp oIx (eVar 0) (eC (.int 3))) (eVar 1)))
    (sSeq (sRet (eVar 3))
    sNil))) sNil)
    (sSeq (sSetL (eVar 0) (eC (.int 1)) (eOp oAdd (eOp oIx (eVar 0) (eC (.int 1))) (eC (.int 1))))
    (sSeq (sIf (eB (eOp oGt (eOp oIx (eVar 0) (eC (.int 1))) (eFn oLenN (eCons (eOp oIx (eVar 0) (eC (.int 0))) eNil)))) (sSeq (sSetL (eVar 0) (eC (.int 2)) (eOp oMod (eFn oInt1 (eCons (eOp oAdd (eOp oMul (eOp oIx (eVar 0) (eC (.int 2))) (eC (.int 48271))) (eC (.int 11))) eNil)) (eC (.int 2147483647))))
    (sSeq (sRet (eOp oMod (eFn oInt1 (eCons (eOp oFdiv (eOp oIx (eVar 0) (eC (.int 2))) (eC (.int 7))) eNil)) (eVar 1)))
    sNil)) sNil)
    (sSeq (sAsg (.nm 2) (eOp oIx (eOp oIx (eVar 0) (eC (.int 0))) (eOp oSub (eOp oIx (eVar 0) (eC (.int 1))) (eC (.int 1)))))
    (sSeq (sSetL (eVar 0) (eC (.int 2)) (eOp oMod (eFn oInt1 (eCons (eOp oAdd (eOp oAdd (eOp oMul (eOp oIx (eVar 0) (eC (.int 2))) (eC (.int 48271))) (eVar 2)) (eC (.int 11))) eNil)) (eC (.int 2147483647))))
    (sSeq (sIf (eB (eOp oGe (eVar 2) (eOp oPow (eC (.int 10)) (eC (.int 18))))) (sSeq (sSetL (eVar 0) (eC (.int 3)) (eOp oFdiv (eVar 2) (eVar 1)))
    sNil) sNil)
    (sSeq (sRet (eOp oMod (eFn oInt1 (eCons (eVar 2) eNil)) (eVar 1)))
    sNil)))))))
def F_law_taken : On' := defA 4 S_law_taken
set_option maxHeartbeats 16000000 in
theorem ok_law_taken {fa : Addr} {fd : FuncData} (T : Txt w K mg)  (F : Fun K "_law_taken" "_law_taken" s_law_taken fa fd) (hm : mg "_law_taken" = some (.ref fa)) : FnX P w K mg Tb base "_law_taken" 1 2 F_law_taken := by
  refine ⟨fa, fd, ["row", "many"], fn_A (k := 0) F sc_law_taken (fun cdv A outer s₀ H E hr => ?_), hm, F.kp, F.binds (ps := ["row", "many"]) fun _ _ _ _ _ _ us hl => match us, hl with | [_, _], _ => rfl⟩
  unfold S_law_taken
  exact (ass_cons (as_if (at_cmp (op_gtA) (ae_ix (ae_v 0) ae_int) ae_int) (ass_cons (as_set 3 sc_law_taken.nd (ae_op op_modA (ae_Ty cr_int T.b_int (aa_cons (ae_ix (ae_v 0) ae_int) aa_nil)) (ae_v 1)))
    (ass_cons (as_setL (ae_v 0) ae_int (ae_op op_fdivA (ae_ix (ae_v 0) ae_int) (ae_v 1)))
    (ass_cons (as_ret (ae_v 3))
    ass_nil))) ass_nil)
    (ass_cons (as_setL (ae_v 0) ae_int (ae_op op_addA (ae_ix (ae_v 0) ae_int) ae_int))
    (ass_cons (as_if (at_cmp (op_gtA) (ae_ix (ae_v 0) ae_int) (ae_B cr_lenN T.b_len (aa_cons (ae_ix (ae_v 0) ae_int) aa_nil))) (ass_cons (as_setL (ae_v 0) ae_int (ae_op op_modA (ae_Ty cr_int T.b_int (aa_cons (ae_op op_addA (ae_op op_mulA (ae_ix (ae_v 0) ae_int) ae_int) ae_int) aa_nil)) ae_int))
    (ass_cons (as_ret (ae_op op_modA (ae_Ty cr_int T.b_int (aa_cons (ae_op op_fdivA (ae_ix (ae_v 0) ae_int) ae_int) aa_nil)) (ae_v 1)))
    ass_nil)) ass_nil)
    (ass_cons (as_set 2 sc_law_taken.nd (ae_ix (ae_ix (ae_v 0) ae_int) (ae_op op_subA (ae_ix (ae_v 0) ae_int) ae_int)))
    (ass_cons (as_setL (ae_v 0) ae_int (ae_op op_modA (ae_Ty cr_int T.b_int (aa_cons (ae_op op_addA (ae_op op_addA (ae_op op_mulA (ae_ix (ae_v 0) ae_int) ae_int) (ae_v 2)) ae_int) aa_nil)) ae_int))
    (ass_cons (as_if (at_cmp (op_geA) (ae_v 2) (ae_op op_powA ae_int ae_int)) (ass_cons (as_setL (ae_v 0) ae_int (ae_op op_fdivA (ae_v 2) (ae_v 1)))
    ass_nil) ass_nil)
    (ass_cons (as_ret (ae_op op_modA (ae_Ty cr_int T.b_int (aa_cons (ae_v 2) aa_nil)) (ae_v 1)))
    ass_nil)))))))
abbrev s_law_pick : Stmt := topS 41
theorem sc_law_pick : FnScope ["row", "things"] ["row", "things"] (defScope s_law_pick) := ⟨rfl, rfl, rfl, by decide +kernel, rfl, by decide +kernel, by decide +kernel⟩
def S_law_pick : SF :=
  (sSeq (sRet (eOp oIx (eVar 1) (eCall 2 F_law_taken (eCons (eVar 0) (eCons (eFn oLenN (eCons (eVar 1) eNil)) eNil)))))
    sNil)
def F_law_pick : On' := defA 2 S_law_pick
set_option maxHeartbeats 16000000 in
theorem ok_law_pick {fa : Addr} {fd : FuncData} (T : Txt w K mg) (G_law_taken : FnX P w K mg Tb base "_law_taken" 1 2 F_law_taken) (F : Fun K "_law_pick" "_law_pick" s_law_pick fa fd) (hm : mg "_law_pick" = some (.ref fa)) : FnX P w K mg Tb base "_law_pick" 2 2 F_law_pick := by
  refine ⟨fa, fd, ["row", "things"], fn_A (k := 1) F sc_law_pick (fun cdv A outer s₀ H E hr => ?_), hm, F.kp, F.binds (ps := ["row", "things"]) fun _ _ _ _ _ _ us hl => match us, hl with | [_, _], _ => rfl⟩
  unfold S_law_pick
  exact (ass_cons (as_ret (ae_ix (ae_v 1) (ae_callX G_law_taken (hr.mono (by first | decide | omega)) (takes_of rfl rfl rfl rfl) (aa_cons (ae_v 0) (aa_cons (ae_B cr_lenN T.b_len (aa_cons (ae_v 1) aa_nil)) aa_nil)))))
    ass_nil)
abbrev s_is_number : Stmt := topS 10
theorem sc_is_number : FnScope ["value", "low", "high"] ["value", "low", "high"] (defScope s_is_number) := ⟨rfl, rfl, rfl, by decide +kernel, rfl, by decide +kernel, by decide +kernel⟩
def S_is_number : SF :=
  (sSeq (sRet (eAnd (eFn oIsi (eCons (eVar 0) (eCons (eC (.ty "int")) eNil))) (eAnd (eNot (eFn oIsi (eCons (eVar 0) (eCons (eC (.ty "bool")) eNil)))) (eChain oLe oLe (eVar 1) (eVar 0) (eVar 2)))))
    sNil)
def F_is_number : On' := defA 3 S_is_number
set_option maxHeartbeats 16000000 in
theorem ok_is_number {fa : Addr} {fd : FuncData} (T : Txt w K mg)  (F : Fun K "is_number" "is_number" s_is_number fa fd) (hm : mg "is_number" = some (.ref fa)) : FnX P w K mg Tb base "is_number" 1 3 F_is_number := by
  refine ⟨fa, fd, ["value", "low", "high"], fn_A (k := 0) F sc_is_number (fun cdv A outer s₀ H E hr => ?_), hm, F.kp, F.binds (ps := ["value", "low", "high"]) fun _ _ _ _ _ _ us hl => match us, hl with | [_, _, _], _ => rfl⟩
  unfold S_is_number
  exact (ass_cons (as_ret (ae_and (ae_B cr_isi T.b_isinstance (aa_cons (ae_v 0) (aa_cons (ae_type T.b_int) aa_nil))) (ae_and (ae_not (ae_B cr_isi T.b_isinstance (aa_cons (ae_v 0) (aa_cons (ae_type T.b_bool) aa_nil)))) (ae_one (ae_chain (op_leA) (op_leA) (ae_v 1) (ae_v 0) (ae_v 2))))))
    ass_nil)
abbrev s_are_numbers : Stmt := topS 11
theorem sc_are_numbers : FnScope ["value", "many", "high", "number"] ["value", "many", "high"] (defScope s_are_numbers) := ⟨rfl, rfl, rfl, by decide +kernel, rfl, by decide +kernel, by decide +kernel⟩
def S_are_numbers : SF :=
  (sSeq (sIf (bOr (bNot (eT (eFn oIsi (eCons (eVar 0) (eCons (eC (.ty "tuple")) eNil))))) (eB (eOp oNe (eFn oLenN (eCons (eVar 0) eNil)) (eVar 1)))) (sSeq (sRet (eC (.bl false)))
    sNil) sNil)
    (sSeq (sRet (eFn oAll (eCons (eLc (iSeq (eVar 0)) (.nm 3) bYes (eCall 3 F_is_number (eCons (eVar 3) (eCons (eC (.int 0)) (eCons (eVar 2) eNil)))) [3]) eNil)))
    sNil))
def F_are_numbers : On' := defA 4 S_are_numbers
set_option maxHeartbeats 16000000 in
theorem ok_are_numbers {fa : Addr} {fd : FuncData} (T : Txt w K mg) (G_is_number : FnX P w K mg Tb base "is_number" 1 3 F_is_number) (F : Fun K "are_numbers" "are_numbers" s_are_numbers fa fd) (hm : mg "are_numbers" = some (.ref fa)) : FnX P w K mg Tb base "are_numbers" 2 3 F_are_numbers := by
  refine ⟨fa, fd, ["value", "many", "high"], fn_A (k := 1) F sc_are_numbers (fun cdv A outer s₀ H E hr => ?_), hm, F.kp, F.binds (ps := ["value", "many", "high"]) fun _ _ _ _ _ _ us hl => match us, hl with | [_, _, _], _ => rfl⟩
  unfold S_are_numbers
  exact (ass_cons (as_if (AW.at (aw_or (at_not (at_val (ae_B cr_isi T.b_isinstance (aa_cons (ae_v 0) (aa_cons (ae_type T.b_tuple) aa_nil))))) (aw_or1 (at_cmp (op_neA (hu64 hr)) (ae_B cr_lenN T.b_len (aa_cons (ae_v 0) aa_nil)) (ae_v 1))))) (ass_cons (as_ret ae_bl)
    ass_nil) ass_nil)
    (ass_cons (as_ret (ae_B (cr_allA rfl) T.b_all (aa_cons (ae_lc [("number", 3)] rfl sc_are_numbers.nd (blkOk_by rfl) (by decide) (ai_seq (ae_v 0)) (fun _ _ _ _ _ => (ag_nm 3 sc_are_numbers.nd)) (fun _ _ _ _ _ => ats_nil) (fun _ _ _ _ _ => (ae_callX G_is_number (hr.mono (by first | decide | omega)) takes0 (aa_cons (ae_v 3) (aa_cons ae_int (aa_cons (ae_v 2) aa_nil)))))) aa_nil)))
    ass_nil))
abbrev s_are_steps : Stmt := topS 12
theorem sc_are_steps : FnScope ["value", "letters", "row"] ["value", "letters"] (defScope s_are_steps) := ⟨rfl, rfl, rfl, by decide +kernel, rfl, by decide +kernel, by decide +kernel⟩
def S_are_steps : SF :=
  (sSeq (sIf (bOr (bNot (eT (eFn oIsi (eCons (eVar 0) (eCons (eC (.ty "tuple")) eNil))))) (bNot (eB (eChain oLe oLe (eC (.int 1)) (eFn oLenN (eCons (eVar 0) eNil)) (eC (.int 40)))))) (sSeq (sRet (eC (.bl false)))
    sNil) sNil)
    (sSeq (sRet (eFn oAll (eCons (eLc (iSeq (eVar 0)) (.nm 2) bYes (eCall 3 F_are_numbers (eCons (eVar 2) (eCons (eVar 1) (eCons (eOp oSub (eFn oLenN (eCons (eVar 0) eNil)) (eC (.int 1))) eNil)))) [2]) eNil)))
    sNil))
def F_are_steps : On' := defA 3 S_are_steps
set_option maxHeartbeats 16000000 in
theorem ok_are_steps {fa : Addr} {fd : FuncData} (T : Txt w K mg) (G_are_numbers : FnX P w K mg Tb base "are_numbers" 2 3 F_are_numbers) (F : Fun K "are_steps" "are_steps" s_are_steps fa fd) (hm : mg "are_steps" = some (.ref fa)) : FnX P w K mg Tb base "are_steps" 3 2 F_are_steps := by
  refine ⟨fa, fd, ["value", "letters"], fn_A (k := 2) F sc_are_steps (fun cdv A outer s₀ H E hr => ?_), hm, F.kp, F.binds (ps := ["value", "letters"]) fun _ _ _ _ _ _ us hl => match us, hl with | [_, _], _ => rfl⟩
  unfold S_are_steps
  exact (ass_cons (as_if (AW.at (aw_or (at_not (at_val (ae_B cr_isi T.b_isinstance (aa_cons (ae_v 0) (aa_cons (ae_type T.b_tuple) aa_nil))))) (aw_or1 (at_not (at_chain (op_leA) (op_leA) ae_int (ae_B cr_lenN T.b_len (aa_cons (ae_v 0) aa_nil)) (ae_glob T.c_MOST_STATES.choose_spec (fun _ _ => .int 40) ⟨_, rfl⟩)))))) (ass_cons (as_ret ae_bl)
    ass_nil) ass_nil)
    (ass_cons (as_ret (ae_B (cr_allA rfl) T.b_all (aa_cons (ae_lc [("row", 2)] rfl sc_are_steps.nd (blkOk_by rfl) (by decide) (ai_seq (ae_v 0)) (fun _ _ _ _ _ => (ag_nm 2 sc_are_steps.nd)) (fun _ _ _ _ _ => ats_nil) (fun _ _ _ _ _ => (ae_callX G_are_numbers (hr.mono (by first | decide | omega)) takes0 (aa_cons (ae_v 2) (aa_cons (ae_v 1) (aa_cons (ae_op op_subA (ae_B cr_lenN T.b_len (aa_cons (ae_v 0) aa_nil)) ae_int) aa_nil)))))) aa_nil)))
    ass_nil))
abbrev s_check_question : Stmt := topS 13
theorem sc_check_question : FnScope ["question", "letters", "steps", "answers"] ["question"] (defScope s_check_question) := ⟨rfl, rfl, rfl, by decide +kernel, rfl, by decide +kernel, by decide +kernel⟩
def S_check_question : SF :=
  (sSeq (sIf (bOr (bNot (eT (eFn oIsi (eCons (eVar 0) (eCons (eC (.ty "tuple")) eNil))))) (eB (eOp oNe (eFn oLenN (eCons (eVar 0) eNil)) (eC (.int 3))))) sBad sNil)
    (sSeq (sAsg (.tp [(.nm 1), (.nm 2), (.nm 3)]) (eVar 0))
    (sSeq (sIf (bNot (eT (eCall 3 F_is_number (eCons (eVar 1) (eCons (eC (.int 1)) (eCons (eC (.int 3)) eNil)))))) sBad sNil)
    (sSeq (sIf (bNot (eT (eCall 2 F_are_steps (eCons (eVar 2) (eCons (eVar 1) eNil))))) sBad sNil)
    (sSeq (sIf (bNot (eT (eCall 3 F_are_numbers (eCons (eVar 3) (eCons (eFn oLenN (eCons (eVar 2) eNil)) (eCons (eC (.int 3)) eNil)))))) sBad sNil)
    sNil)))))
def F_check_question : On' := defA 4 S_check_question
set_option maxHeartbeats 16000000 in
theorem ok_check_question {fa : Addr} {fd : FuncData} (T : Txt w K mg) (G_is_number : FnX P w K mg Tb base "is_number" 1 3 F_is_number) (G_are_steps : FnX P w K mg Tb base "are_steps" 3 2 F_are_steps) (G_are_numbers : FnX P w K mg Tb base "are_numbers" 2 3 F_are_numbers) (F : Fun K "check_question" "check_question" s_check_question fa fd) (hm : mg "check_question" = some (.ref fa)) : FnX P w K mg Tb base "check_question" 4 1 F_check_question := by
  refine ⟨fa, fd, ["question"], fn_A (k := 3) F sc_check_question (fun cdv A outer s₀ H E hr => ?_), hm, F.kp, F.binds (ps := ["question"]) fun _ _ _ _ _ _ us hl => match us, hl with | [_], _ => rfl⟩
  unfold S_check_question
  exact (ass_cons (as_if (AW.at (aw_or (at_not (at_val (ae_B cr_isi T.b_isinstance (aa_cons (ae_v 0) (aa_cons (ae_type T.b_tuple) aa_nil))))) (aw_or1 (at_cmp (op_neA (hu64 hr)) (ae_B cr_lenN T.b_len (aa_cons (ae_v 0) aa_nil)) ae_int)))) ass_never ass_nil)
    (ass_cons (as_asg (ae_v 0) (ag_tp rfl (ags_cons (ag_nm 1 sc_check_question.nd) (ags_cons (ag_nm 2 sc_check_question.nd) (ags_cons (ag_nm 3 sc_check_question.nd) ags_nil)))))
    (ass_cons (as_if (at_not (at_val (ae_callX G_is_number (hr.mono (by first | decide | omega)) (takes_of rfl rfl rfl rfl) (aa_cons (ae_v 1) (aa_cons ae_int (aa_cons (ae_glob T.c_MOST_LETTERS.choose_spec (fun _ _ => .int 3) ⟨_, rfl⟩) aa_nil)))))) ass_never ass_nil)
    (ass_cons (as_if (at_not (at_val (ae_callX G_are_steps (hr.mono (by first | decide | omega)) (takes_of rfl rfl rfl rfl) (aa_cons (ae_v 2) (aa_cons (ae_v 1) aa_nil))))) ass_never ass_nil)
    (ass_cons (as_if (at_not (at_val (ae_callX G_are_numbers (hr.mono (by first | decide | omega)) (takes_of rfl rfl rfl rfl) (aa_cons (ae_v 3) (aa_cons (ae_B cr_lenN T.b_len (aa_cons (ae_v 2) aa_nil)) (aa_cons (ae_glob T.c_MOST_ANSWER.choose_spec (fun _ _ => .int 3) ⟨_, rfl⟩) aa_nil)))))) ass_never ass_nil)
    ass_nil)))))
abbrev s_parted_groups : Stmt := topS 17
theorem sc_parted_groups : FnScope ["steps", "groups", "numbers", "parted", "state", "row", "sign", "reached"] ["steps", "groups"] (defScope s_parted_groups) := ⟨rfl, rfl, rfl, by decide +kernel, rfl, by decide +kernel, by decide +kernel⟩
def S_parted_groups : SF :=
  (sSeq (sAsg (.nm 2) eNewN)
    (sSeq (sAsg (.nm 3) (eLst eNil))
    (sSeq (sFor (iEnumA (eCons (eVar 0) eNil)) (.tp [(.nm 4), (.nm 5)]) (sSeq (sAsg (.nm 6) (eTup (eCons (eOp oIx (eVar 1) (eVar 4)) (eCons (eFn oTuple (eCons (eLc (iSeq (eVar 5)) (.nm 7) bYes (eOp oIx (eVar 1) (eVar 7)) [7]) eNil)) eNil))))
    (sSeq (sExpr (eMeth oAppend (eVar 3) (eCons (eMethN oSetd (eVar 2) (eCons (eVar 6) (eCons (eFn oLenN (eCons (eVar 2) eNil)) eNil))) eNil)))
    sNil)))
    (sSeq (sRet (eVar 3))
    sNil))))
def F_parted_groups : On' := defA 8 S_parted_groups
set_option maxHeartbeats 16000000 in
theorem ok_parted_groups {fa : Addr} {fd : FuncData} (T : Txt w K mg)  (F : Fun K "parted_groups" "parted_groups" s_parted_groups fa fd) (hm : mg "parted_groups" = some (.ref fa)) : FnX P w K mg Tb base "parted_groups" 1 2 F_parted_groups := by
  refine ⟨fa, fd, ["steps", "groups"], fn_A (k := 0) F sc_parted_groups (fun cdv A outer s₀ H E hr => ?_), hm, F.kp, F.binds (ps := ["steps", "groups"]) fun _ _ _ _ _ _ us hl => match us, hl with | [_, _], _ => rfl⟩
  unfold S_parted_groups
  exact (ass_cons (as_set 2 sc_parted_groups.nd ae_newN)
    (ass_cons (as_set 3 sc_parted_groups.nd (ae_lst aa_nil))
    (ass_cons (as_for (passes_of rfl) rfl (ai_enum T.b_enumerate (aa_cons (ae_v 0) aa_nil)) (ag_tp rfl (ags_cons (ag_nm 4 sc_parted_groups.nd) (ags_cons (ag_nm 5 sc_parted_groups.nd) ags_nil))) (ass_cons (as_set 6 sc_parted_groups.nd (ae_tup (aa_cons (ae_ix (ae_v 1) (ae_v 4)) (aa_cons (ae_Ty cr_tuple T.b_tuple (aa_cons (ae_lc [("reached", 7)] rfl sc_parted_groups.nd (blkOk_by rfl) (by decide) (ai_seq (ae_v 5)) (fun _ _ _ _ _ => (ag_nm 7 sc_parted_groups.nd)) (fun _ _ _ _ _ => ats_nil) (fun _ _ _ _ _ => (ae_ix (ae_v 1) (ae_v 7)))) aa_nil)) aa_nil))))
    (ass_cons (as_expr (ae_append (ae_v 3) (aa_cons (ae_setd (hu9 hr) (ae_v 2) (aa_cons (ae_v 6) (aa_cons (ae_B cr_lenN T.b_len (aa_cons (ae_v 2) aa_nil)) aa_nil))) aa_nil)))
    ass_nil)))
    (ass_cons (as_ret (ae_v 3))
    ass_nil))))
abbrev s_groups_of : Stmt := topS 16
theorem sc_groups_of : FnScope ["question", "most", "groups", "many"] ["question", "most"] (defScope s_groups_of) := ⟨rfl, rfl, rfl, by decide +kernel, rfl, by decide +kernel, by decide +kernel⟩
def S_groups_of : SF :=
  (sSeq (sAsg (.nm 2) (eFn oList (eCons (eOp oIx (eVar 0) (eC (.int 2))) eNil)))
    (sSeq (sAsg (.nm 3) (eC (.int 0)))
    (sSeq (fun τ M => whileA (eB (eOp oGt (eUn oLenSetX (eVar 2)) (eVar 3))) (sSeq (sAsg (.nm 3) (eUn oLenSetX (eVar 2)))
    (sSeq (sIf (bAnd (eB (eOp oIsNot (eVar 1) (eC .non))) (eB (eOp oGt (eVar 3) (eVar 1)))) sBad sNil)
    (sSeq (sAsg (.nm 2) (eCall 2 F_parted_groups (eCons (eOp oIx (eVar 0) (eC (.int 1))) (eCons (eVar 2) eNil))))
    sNil))) fuel τ M)
    (sSeq (sRet (eVar 2))
    sNil))))
def F_groups_of : On' := defA 4 S_groups_of
set_option maxHeartbeats 16000000 in
theorem ok_groups_of {fa : Addr} {fd : FuncData} (T : Txt w K mg) (G_parted_groups : FnX P w K mg Tb base "parted_groups" 1 2 F_parted_groups) (F : FunD K "groups_of" "groups_of" (defArgs s_groups_of) (defBody s_groups_of) (defScope s_groups_of) [.non] [] fa fd) (hm : mg "groups_of" = some (.ref fa)) : FnXD P w K mg Tb base "groups_of" 2 2 [.non] F_groups_of := by
  have h1 := F.binds1 (ps := ["question", "most"]) 2 1 (by simp) rfl fun _ _ _ _ _ _ _ us its hl hd => match us, its, hl, hd with | [_, _], [_], _, _ => ⟨_, rfl, rfl⟩
  have h2 := F.binds1 (ps := ["question", "most"]) 1 0 (by simp) rfl fun _ _ _ _ _ _ _ us its hl hd => match us, its, hl, hd with | [_], [_], _, _ => ⟨_, rfl, rfl⟩
  obtain ⟨u1, v1, h1⟩ := h1
  cases v1
  obtain ⟨u2, v2, h2⟩ := h2
  refine ⟨fa, fd, ["question", "most"], fn_AD (k := 1) (st := s_groups_of) F sc_groups_of (fun cdv A outer s₀ H E hr => ?_), hm, F.kp, h1, u2, h2, _, v2, fun _ _ => .cons .non .nil⟩
  unfold S_groups_of
  exact (ass_cons (as_set 2 sc_groups_of.nd (ae_Ty (cr_list rfl) T.b_list (aa_cons (ae_ix (ae_v 0) ae_int) aa_nil)))
    (ass_cons (as_set 3 sc_groups_of.nd ae_int)
    (ass_cons (as_while (fun _ _ => fuel) (passes_of rfl) (at_cmp (op_gtA) (ae_lenSetX T.b_len T.b_set (ae_v 2)) (ae_v 3)) (ass_cons (as_set 3 sc_groups_of.nd (ae_lenSetX T.b_len T.b_set (ae_v 2)))
    (ass_cons (as_if (AW.at (aw_and (at_cmp (op_isNotA) (ae_v 1) ae_non) (aw_and1 (at_cmp (op_gtA) (ae_v 3) (ae_v 1))))) ass_never ass_nil)
    (ass_cons (as_set 2 sc_groups_of.nd (ae_callX G_parted_groups (hr.mono (by first | decide | omega)) (takes_of rfl rfl rfl rfl) (aa_cons (ae_ix (ae_v 0) ae_int) (aa_cons (ae_v 2) aa_nil))))
    ass_nil))))
    (ass_cons (as_ret (ae_v 2))
    ass_nil))))
abbrev s_least_of : Stmt := topS 15
theorem sc_least_of : FnScope ["question", "most", "groups", "chosen", "numbers", "rows", "letters", "steps", "answers", "state", "row", "reached"] ["question", "most"] (defScope s_least_of) := ⟨rfl, rfl, rfl, by decide +kernel, rfl, by decide +kernel, by decide +kernel⟩
def S_least_of : SF :=
  (sSeq (sAsg (.tp [(.nm 6), (.nm 7), (.nm 8)]) (eVar 0))
    (sSeq (sAsg (.nm 2) (eCall 2 F_groups_of (eCons (eVar 0) (eCons (eVar 1) eNil))))
    (sSeq (sAsg (.nm 3) (eLst (eCons (eC (.int 0)) eNil)))
    (sSeq (sAsg (.nm 4) (eDisp1 (eOp oIx (eVar 2) (eC (.int 0))) (eC (.int 0))))
    (sSeq (sAsg (.nm 5) (eLst eNil))
    (sSeq (fun τ M => whileA (eB (eOp oLt (eFn oLenN (eCons (eVar 5) eNil)) (eFn oLenN (eCons (eVar 3) eNil)))) (sSeq (sAsg (.nm 9) (eOp oIx (eVar 3) (eFn oLenN (eCons (eVar 5) eNil))))
    (sSeq (sAsg (.nm 10) (eLst eNil))
    (sSeq (sFor (iSeq (eOp oIx (eVar 7) (eVar 9))) (.nm 11) (sSeq (sIf (eB (eOp oNotIn (eOp oIx (eVar 2) (eVar 11)) (eVar 4))) (sSeq (sDput (eVar 4) (eOp oIx (eVar 2) (eVar 11)) (eFn oLenN (eCons (eVar 3) eNil)))
    (sSeq (sExpr (eMeth oAppend (eVar 3) (eCons (eVar 11) eNil)))
    sNil)) sNil)
    (sSeq (sExpr (eMeth oAppend (eVar 10) (eCons (eOp oDget (eVar 4) (eOp oIx (eVar 2) (eVar 11))) eNil)))
    sNil)))
    (sSeq (sExpr (eMeth oAppend (eVar 5) (eCons (eFn oTuple (eCons (eVar 10) eNil)) eNil)))
    sNil)))) fuel τ M)
    (sSeq (sRet (eTup (eCons (eVar 6) (eCons (eFn oTuple (eCons (eVar 5) eNil)) (eCons (eFn oTuple (eCons (eLc (iSeq (eVar 3)) (.nm 9) bYes (eOp oIx (eVar 8) (eVar 9)) [9]) eNil)) eNil)))))
    sNil)))))))
def F_least_of : On' := defA 12 S_least_of
set_option maxHeartbeats 16000000 in
theorem ok_least_of {fa : Addr} {fd : FuncData} (T : Txt w K mg) (G_groups_of : FnXD P w K mg Tb base "groups_of" 2 2 [.non] F_groups_of) (F : FunD K "least_of" "least_of" (defArgs s_least_of) (defBody s_least_of) (defScope s_least_of) [.non] [] fa fd) (hm : mg "least_of" = some (.ref fa)) : FnXD P w K mg Tb base "least_of" 3 2 [.non] F_least_of := by
  have h1 := F.binds1 (ps := ["question", "most"]) 2 1 (by simp) rfl fun _ _ _ _ _ _ _ us its hl hd => match us, its, hl, hd with | [_, _], [_], _, _ => ⟨_, rfl, rfl⟩
  have h2 := F.binds1 (ps := ["question", "most"]) 1 0 (by simp) rfl fun _ _ _ _ _ _ _ us its hl hd => match us, its, hl, hd with | [_], [_], _, _ => ⟨_, rfl, rfl⟩
  obtain ⟨u1, v1, h1⟩ := h1
  cases v1
  obtain ⟨u2, v2, h2⟩ := h2
  refine ⟨fa, fd, ["question", "most"], fn_AD (k := 2) (st := s_least_of) F sc_least_of (fun cdv A outer s₀ H E hr => ?_), hm, F.kp, h1, u2, h2, _, v2, fun _ _ => .cons .non .nil⟩
  unfold S_least_of
  exact (ass_cons (as_asg (ae_v 0) (ag_tp rfl (ags_cons (ag_nm 6 sc_least_of.nd) (ags_cons (ag_nm 7 sc_least_of.nd) (ags_cons (ag_nm 8 sc_least_of.nd) ags_nil)))))
    (ass_cons (as_set 2 sc_least_of.nd (ae_callX G_groups_of.x (hr.mono (by first | decide | omega)) (takes_of rfl rfl rfl rfl) (aa_cons (ae_v 0) (aa_cons (ae_v 1) aa_nil))))
    (ass_cons (as_set 3 sc_least_of.nd (ae_lst (aa_cons ae_int aa_nil)))
    (ass_cons (as_set 4 sc_least_of.nd (ae_disp1 (ae_ix (ae_v 2) ae_int) ae_int))
    (ass_cons (as_set 5 sc_least_of.nd (ae_lst aa_nil))
    (ass_cons (as_while (fun _ _ => fuel) (passes_of rfl) (at_cmp (op_ltA) (ae_B cr_lenN T.b_len (aa_cons (ae_v 5) aa_nil)) (ae_B cr_lenN T.b_len (aa_cons (ae_v 3) aa_nil))) (ass_cons (as_set 9 sc_least_of.nd (ae_ix (ae_v 3) (ae_B cr_lenN T.b_len (aa_cons (ae_v 5) aa_nil))))
    (ass_cons (as_set 10 sc_least_of.nd (ae_lst aa_nil))
    (ass_cons (as_for (passes_of rfl) rfl (ai_seq (ae_ix (ae_v 7) (ae_v 9))) (ag_nm 11 sc_least_of.nd) (ass_cons (as_if (at_cmp (op_notInA (hu65 hr)) (ae_ix (ae_v 2) (ae_v 11)) (ae_v 4)) (ass_cons (as_dput (hu1 hr) (ae_v 4) (ae_ix (ae_v 2) (ae_v 11)) (ae_B cr_lenN T.b_len (aa_cons (ae_v 3) aa_nil)))
    (ass_cons (as_expr (ae_append (ae_v 3) (aa_cons (ae_v 11) aa_nil)))
    ass_nil)) ass_nil)
    (ass_cons (as_expr (ae_append (ae_v 10) (aa_cons (ae_dget (hu1 hr) (ae_v 4) (ae_ix (ae_v 2) (ae_v 11))) aa_nil)))
    ass_nil)))
    (ass_cons (as_expr (ae_append (ae_v 5) (aa_cons (ae_Ty cr_tuple T.b_tuple (aa_cons (ae_v 10) aa_nil)) aa_nil)))
    ass_nil)))))
    (ass_cons (as_ret (ae_tup (aa_cons (ae_v 6) (aa_cons (ae_Ty cr_tuple T.b_tuple (aa_cons (ae_v 5) aa_nil)) (aa_cons (ae_Ty cr_tuple T.b_tuple (aa_cons (ae_lc [("state", 9)] rfl sc_least_of.nd (blkOk_by rfl) (by decide) (ai_seq (ae_v 3)) (fun _ _ _ _ _ => (ag_nm 9 sc_least_of.nd)) (fun _ _ _ _ _ => ats_nil) (fun _ _ _ _ _ => (ae_ix (ae_v 8) (ae_v 9)))) aa_nil)) aa_nil)))))
    ass_nil)))))))
abbrev s_answers_of : Stmt := topS 25
theorem sc_answers_of : FnScope ["small", "states", "found", "state", "told"] ["small", "states"] (defScope s_answers_of) := ⟨rfl, rfl, rfl, by decide +kernel, rfl, by decide +kernel, by decide +kernel⟩
def S_answers_of : SF :=
  (sSeq (sAsg (.nm 2) eNewK)
    (sSeq (sForD 1 (.nm 3) (sSeq (sAsg (.nm 4) (eOp oIx (eOp oIx (eVar 0) (eC (.int 2))) (eVar 3)))
    (sSeq (sDput (eVar 2) (eVar 4) (eOp oAdd (eGet2 (eVar 2) (eVar 4) (eC (.int 0))) (eOp oDget (eVar 1) (eVar 3))))
    sNil)))
    (sSeq (sRet (eFn oTuple (eCons (eFn oSortM (eCons (eListItems (eVar 2)) eNil)) eNil)))
    sNil)))
def F_answers_of : On' := defA 5 S_answers_of
set_option maxHeartbeats 16000000 in
theorem ok_answers_of {fa : Addr} {fd : FuncData} (T : Txt w K mg)  (F : Fun K "answers_of" "answers_of" s_answers_of fa fd) (hm : mg "answers_of" = some (.ref fa)) : FnX P w K mg Tb base "answers_of" 1 2 F_answers_of := by
  refine ⟨fa, fd, ["small", "states"], fn_A (k := 0) F sc_answers_of (fun cdv A outer s₀ H E hr => ?_), hm, F.kp, F.binds (ps := ["small", "states"]) fun _ _ _ _ _ _ us hl => match us, hl with | [_, _], _ => rfl⟩
  unfold S_answers_of
  exact (ass_cons (as_set 2 sc_answers_of.nd ae_newK)
    (ass_cons (as_forD (passes_of rfl) rfl (ae_v 1) (ag_nm 3 sc_answers_of.nd) (ass_cons (as_set 4 sc_answers_of.nd (ae_ix (ae_ix (ae_v 0) ae_int) (ae_v 3)))
    (ass_cons (as_dput (hu1 hr) (ae_v 2) (ae_v 4) (ae_op op_addA (ae_get2 (hu1 hr) (ae_v 2) (ae_v 4) ae_int) (ae_dget (hu1 hr) (ae_v 1) (ae_v 3))))
    ass_nil)))
    (ass_cons (as_ret (ae_Ty cr_tuple T.b_tuple (aa_cons (ae_B (cr_sortM (hu64 hr)) T.b_sorted (aa_cons (ae_listItems rfl T.b_list (ae_v 2)) aa_nil)) aa_nil)))
    ass_nil)))
abbrev s_counts_up_to : Stmt := topS 28
theorem sc_counts_up_to : FnScope ["counts", "rows", "most", "row", "many"] ["counts"] (defScope s_counts_up_to) := ⟨rfl, rfl, rfl, by decide +kernel, rfl, by decide +kernel, by decide +kernel⟩
def S_counts_up_to : SF :=
  (sSeq (sAsg (.nm 1) (eLst (eCons (eTup eNil) eNil)))
    (sSeq (sFor (iSeq (eVar 0)) (.nm 2) (sSeq (sAsg (.nm 1) (eLc2 (iSeq (eVar 1)) (.nm 3) bYes (iRng1 (eCons (eOp oAdd (eVar 2) (eC (.int 1))) eNil)) (.nm 4) bYes (eOp oAdd (eVar 3) (eTup (eCons (eVar 4) eNil))) [3, 4] [4]))
    sNil))
    (sSeq (sRet (eVar 1))
    sNil)))
def F_counts_up_to : On' := defA 5 S_counts_up_to
set_option maxHeartbeats 16000000 in
theorem ok_counts_up_to {fa : Addr} {fd : FuncData} (T : Txt w K mg)  (F : Fun K "counts_up_to" "counts_up_to" s_counts_up_to fa fd) (hm : mg "counts_up_to" = some (.ref fa)) : FnX P w K mg Tb base "counts_up_to" 1 1 F_counts_up_to := by
  refine ⟨fa, fd, ["counts"], fn_A (k := 0) F sc_counts_up_to (fun cdv A outer s₀ H E hr => ?_), hm, F.kp, F.binds (ps := ["counts"]) fun _ _ _ _ _ _ us hl => match us, hl with | [_], _ => rfl⟩
  unfold S_counts_up_to
  exact (ass_cons (as_set 1 sc_counts_up_to.nd (ae_lst (aa_cons (ae_tup aa_nil) aa_nil)))
    (ass_cons (as_for (passes_of rfl) rfl (ai_seq (ae_v 0)) (ag_nm 2 sc_counts_up_to.nd) (ass_cons (as_setLc2 1 [("row", 3), ("many", 4)] [4] rfl sc_counts_up_to.nd (sw_true rfl rfl rfl (by decide +kernel)) (blkOk_by rfl) (by decide) (by decide) (by decide) (ai_seq (ae_v 1)) (fun _ _ _ _ _ => (ag_nm 3 sc_counts_up_to.nd)) (fun _ _ _ _ _ => ats_nil) (fun _ _ _ _ _ => (ai_rng1 T.b_range (aa_cons (ae_op op_addA (ae_v 2) ae_int) aa_nil))) (fun _ _ _ _ _ => (ag_nm 4 sc_counts_up_to.nd)) (fun _ _ _ _ _ => ats_nil) (fun _ _ _ _ _ => (ae_op op_addA (ae_v 3) (ae_tup (aa_cons (ae_v 4) aa_nil)))))
    ass_nil))
    (ass_cons (as_ret (ae_v 1))
    ass_nil)))
abbrev s_add_ways : Stmt := topS 27
theorem sc_add_ways : FnScope ["states", "small", "letter", "before", "state", "reached"] ["states", "small", "letter", "before"] (defScope s_add_ways) := ⟨rfl, rfl, rfl, by decide +kernel, rfl, by decide +kernel, by decide +kernel⟩
def S_add_ways : SF :=
  (sSeq (sForD 3 (.nm 4) (sSeq (sAsg (.nm 5) (eOp oIx (eOp oIx (eOp oIx (eVar 1) (eC (.int 1))) (eVar 4)) (eVar 2)))
    (sSeq (sDput (eVar 0) (eVar 5) (eOp oAdd (eGet2 (eVar 0) (eVar 5) (eC (.int 0))) (eOp oDget (eVar 3) (eVar 4))))
    sNil)))
    sNil)
def F_add_ways : On' := defA 6 S_add_ways
set_option maxHeartbeats 16000000 in
theorem ok_add_ways {fa : Addr} {fd : FuncData} (T : Txt w K mg)  (F : Fun K "add_ways" "add_ways" s_add_ways fa fd) (hm : mg "add_ways" = some (.ref fa)) : FnX P w K mg Tb base "add_ways" 1 4 F_add_ways := by
  refine ⟨fa, fd, ["states", "small", "letter", "before"], fn_A (k := 0) F sc_add_ways (fun cdv A outer s₀ H E hr => ?_), hm, F.kp, F.binds (ps := ["states", "small", "letter", "before"]) fun _ _ _ _ _ _ us hl => match us, hl with | [_, _, _, _], _ => rfl⟩
  unfold S_add_ways
  exact (ass_cons (as_forD (passes_of rfl) rfl (ae_v 3) (ag_nm 4 sc_add_ways.nd) (ass_cons (as_set 5 sc_add_ways.nd (ae_ix (ae_ix (ae_ix (ae_v 1) ae_int) (ae_v 4)) (ae_v 2)))
    (ass_cons (as_dput (hu1 hr) (ae_v 0) (ae_v 5) (ae_op op_addA (ae_get2 (hu1 hr) (ae_v 0) (ae_v 5) ae_int) (ae_dget (hu1 hr) (ae_v 3) (ae_v 4))))
    ass_nil)))
    ass_nil)
abbrev s_ways_up_to : Stmt := topS 26
theorem sc_ways_up_to : FnScope ["small", "counts", "found", "row", "states", "letter", "many"] ["small", "counts"] (defScope s_ways_up_to) := ⟨rfl, rfl, rfl, by decide +kernel, rfl, by decide +kernel, by decide +kernel⟩
def S_ways_up_to : SF :=
  (sSeq (sAsg (.nm 2) eNewT)
    (sSeq (sFor (iSeq (eCall 1 F_counts_up_to (eCons (eVar 1) eNil))) (.nm 3) (sSeq (sAsg (.nm 4) (eIf (eT (eFn oAnyI (eCons (eVar 3) eNil))) eNewK (eDisp1 (eC (.int 0)) (eC (.int 1)))))
    (sSeq (sFor (iEnumA (eCons (eVar 3) eNil)) (.tp [(.nm 5), (.nm 6)]) (sSeq (sIf (eB (eOp oGt (eVar 6) (eC (.int 0)))) (sSeq (sExpr (eCall 4 F_add_ways (eCons (eVar 4) (eCons (eVar 0) (eCons (eVar 5) (eCons (eOp oDget (eVar 2) (eOp oAdd (eOp oAdd (eSl (eVar 3) eNoPart (ePart (eVar 5))) (eTup (eCons (eOp oSub (eVar 6) (eC (.int 1))) eNil))) (eSl (eVar 3) (ePart (eOp oAdd (eVar 5) (eC (.int 1)))) eNoPart))) eNil))))))
    sNil) sNil)
    sNil))
    (sSeq (sDput (eVar 2) (eVar 3) (eVar 4))
    sNil))))
    (sSeq (sRet (eVar 2))
    sNil)))
def F_ways_up_to : On' := defA 7 S_ways_up_to
set_option maxHeartbeats 16000000 in
theorem ok_ways_up_to {fa : Addr} {fd : FuncData} (T : Txt w K mg) (G_counts_up_to : FnX P w K mg Tb base "counts_up_to" 1 1 F_counts_up_to) (G_add_ways : FnX P w K mg Tb base "add_ways" 1 4 F_add_ways) (F : Fun K "ways_up_to" "ways_up_to" s_ways_up_to fa fd) (hm : mg "ways_up_to" = some (.ref fa)) : FnX P w K mg Tb base "ways_up_to" 2 2 F_ways_up_to := by
  refine ⟨fa, fd, ["small", "counts"], fn_A (k := 1) F sc_ways_up_to (fun cdv A outer s₀ H E hr => ?_), hm, F.kp, F.binds (ps := ["small", "counts"]) fun _ _ _ _ _ _ us hl => match us, hl with | [_, _], _ => rfl⟩
  unfold S_ways_up_to
  exact (ass_cons (as_set 2 sc_ways_up_to.nd ae_newT)
    (ass_cons (as_for (passes_of rfl) rfl (ai_seq (ae_callX G_counts_up_to (hr.mono (by first | decide | omega)) (takes_of rfl rfl rfl rfl) (aa_cons (ae_v 1) aa_nil))) (ag_nm 3 sc_ways_up_to.nd) (ass_cons (as_set 4 sc_ways_up_to.nd (ae_if (at_val (ae_B (cr_anyI rfl) T.b_any (aa_cons (ae_v 3) aa_nil))) ae_newK (ae_disp1 ae_int ae_int)))
    (ass_cons (as_for (passes_of rfl) rfl (ai_enum T.b_enumerate (aa_cons (ae_v 3) aa_nil)) (ag_tp rfl (ags_cons (ag_nm 5 sc_ways_up_to.nd) (ags_cons (ag_nm 6 sc_ways_up_to.nd) ags_nil))) (ass_cons (as_if (at_cmp (op_gtA) (ae_v 6) ae_int) (ass_cons (as_expr (ae_callX G_add_ways (hr.mono (by first | decide | omega)) (takes_of rfl rfl rfl rfl) (aa_cons (ae_v 4) (aa_cons (ae_v 0) (aa_cons (ae_v 5) (aa_cons (ae_dget (hu1 hr) (ae_v 2) (ae_op op_addA (ae_op op_addA (ae_sl (ae_v 3) ap_none (ap_some (ae_v 5))) (ae_tup (aa_cons (ae_op op_subA (ae_v 6) ae_int) aa_nil))) (ae_sl (ae_v 3) (ap_some (ae_op op_addA (ae_v 5) ae_int)) ap_none))) aa_nil))))))
    ass_nil) ass_nil)
    ass_nil))
    (ass_cons (as_dput (hu1 hr) (ae_v 2) (ae_v 3) (ae_v 4))
    ass_nil))))
    (ass_cons (as_ret (ae_v 2))
    ass_nil)))
abbrev s_arrangements : Stmt := topS 21
theorem sc_arrangements : FnScope ["question", "counts", "small"] ["question", "counts"] (defScope s_arrangements) := ⟨rfl, rfl, rfl, by decide +kernel, rfl, by decide +kernel, by decide +kernel⟩
def S_arrangements : SF :=
  (sSeq (sExpr (eCall 1 F_check_question (eCons (eVar 0) eNil)))
    (sSeq (sIf (bNot (eT (eCall 3 F_are_numbers (eCons (eVar 1) (eCons (eOp oIx (eVar 0) (eC (.int 0))) (eCons (eC (.int 20)) eNil)))))) sBad sNil)
    (sSeq (sAsg (.nm 2) (eCallD 2 F_least_of [.non] (eCons (eVar 0) eNil)))
    (sSeq (sRet (eCall 2 F_answers_of (eCons (eVar 2) (eCons (eOp oDget (eCall 2 F_ways_up_to (eCons (eVar 2) (eCons (eVar 1) eNil))) (eVar 1)) eNil))))
    sNil))))
def F_arrangements : On' := defA 3 S_arrangements
set_option maxHeartbeats 16000000 in
theorem ok_arrangements {fa : Addr} {fd : FuncData} (T : Txt w K mg) (G_check_question : FnX P w K mg Tb base "check_question" 4 1 F_check_question) (G_are_numbers : FnX P w K mg Tb base "are_numbers" 2 3 F_are_numbers) (G_least_of : FnXD P w K mg Tb base "least_of" 3 2 [.non] F_least_of) (G_answers_of : FnX P w K mg Tb base "answers_of" 1 2 F_answers_of) (G_ways_up_to : FnX P w K mg Tb base "ways_up_to" 2 2 F_ways_up_to) (F : Fun K "arrangements" "arrangements" s_arrangements fa fd) (hm : mg "arrangements" = some (.ref fa)) : FnX P w K mg Tb base "arrangements" 5 2 F_arrangements := by
  refine ⟨fa, fd, ["question", "counts"], fn_A (k := 4) F sc_arrangements (fun cdv A outer s₀ H E hr => ?_), hm, F.kp, F.binds (ps := ["question", "counts"]) fun _ _ _ _ _ _ us hl => match us, hl with | [_, _], _ => rfl⟩
  unfold S_arrangements
  exact (ass_cons (as_expr (ae_callX G_check_question (hr.mono (by first | decide | omega)) (takes_of rfl rfl rfl rfl) (aa_cons (ae_v 0) aa_nil)))
    (ass_cons (as_if (at_not (at_val (ae_callX G_are_numbers (hr.mono (by first | decide | omega)) (takes_of rfl rfl rfl rfl) (aa_cons (ae_v 1) (aa_cons (ae_ix (ae_v 0) ae_int) (aa_cons (ae_glob T.c_MOST_COUNT.choose_spec (fun _ _ => .int 20) ⟨_, rfl⟩) aa_nil)))))) ass_never ass_nil)
    (ass_cons (as_set 2 sc_arrangements.nd (ae_callXD G_least_of (hr.mono (by first | decide | omega)) (takes_of rfl rfl rfl rfl) (aa_cons (ae_v 0) aa_nil)))
    (ass_cons (as_ret (ae_callX G_answers_of (hr.mono (by first | decide | omega)) (takes_of rfl rfl rfl rfl) (aa_cons (ae_v 2) (aa_cons (ae_dget (hu1 hr) (ae_callX G_ways_up_to (hr.mono (by first | decide | omega)) (takes_of rfl rfl rfl rfl) (aa_cons (ae_v 2) (aa_cons (ae_v 1) aa_nil))) (ae_v 1)) aa_nil))))
    ass_nil))))
abbrev s_possible : Stmt := topS 22
theorem sc_possible : FnScope ["question", "counts", "told", "_"] ["question", "counts"] (defScope s_possible) := ⟨rfl, rfl, rfl, by decide +kernel, rfl, by decide +kernel, by decide +kernel⟩
def S_possible : SF :=
  (sSeq (sRet (eFn oTuple (eCons (eLc (iSeq (eCall 2 F_arrangements (eCons (eVar 0) (eCons (eVar 1) eNil)))) (.tp [(.nm 2), (.nm 3)]) bYes (eVar 2) [2, 3]) eNil)))
    sNil)
def F_possible : On' := defA 4 S_possible
set_option maxHeartbeats 16000000 in
theorem ok_possible {fa : Addr} {fd : FuncData} (T : Txt w K mg) (G_arrangements : FnX P w K mg Tb base "arrangements" 5 2 F_arrangements) (F : Fun K "possible" "possible" s_possible fa fd) (hm : mg "possible" = some (.ref fa)) : FnX P w K mg Tb base "possible" 6 2 F_possible := by
  refine ⟨fa, fd, ["question", "counts"], fn_A (k := 5) F sc_possible (fun cdv A outer s₀ H E hr => ?_), hm, F.kp, F.binds (ps := ["question", "counts"]) fun _ _ _ _ _ _ us hl => match us, hl with | [_, _], _ => rfl⟩
  unfold S_possible
  exact (ass_cons (as_ret (ae_Ty cr_tuple T.b_tuple (aa_cons (ae_lc [("told", 2), ("_", 3)] rfl sc_possible.nd (blkOk_by rfl) (by decide) (ai_seq (ae_callX G_arrangements (hr.mono (by first | decide | omega)) (takes_of rfl rfl rfl rfl) (aa_cons (ae_v 0) (aa_cons (ae_v 1) aa_nil)))) (fun _ _ _ _ _ => (ag_tp rfl (ags_cons (ag_nm 2 sc_possible.nd) (ags_cons (ag_nm 3 sc_possible.nd) ags_nil)))) (fun _ _ _ _ _ => ats_nil) (fun _ _ _ _ _ => (ae_v 2))) aa_nil)))
    ass_nil)
abbrev s_is_sure : Stmt := topS 23
theorem sc_is_sure : FnScope ["question", "counts"] ["question", "counts"] (defScope s_is_sure) := ⟨rfl, rfl, rfl, by decide +kernel, rfl, by decide +kernel, by decide +kernel⟩
def S_is_sure : SF :=
  (sSeq (sRet (eOp oEq (eFn oLenN (eCons (eCall 2 F_arrangements (eCons (eVar 0) (eCons (eVar 1) eNil))) eNil)) (eC (.int 1))))
    sNil)
def F_is_sure : On' := defA 2 S_is_sure
set_option maxHeartbeats 16000000 in
theorem ok_is_sure {fa : Addr} {fd : FuncData} (T : Txt w K mg) (G_arrangements : FnX P w K mg Tb base "arrangements" 5 2 F_arrangements) (F : Fun K "is_sure" "is_sure" s_is_sure fa fd) (hm : mg "is_sure" = some (.ref fa)) : FnX P w K mg Tb base "is_sure" 6 2 F_is_sure := by
  refine ⟨fa, fd, ["question", "counts"], fn_A (k := 5) F sc_is_sure (fun cdv A outer s₀ H E hr => ?_), hm, F.kp, F.binds (ps := ["question", "counts"]) fun _ _ _ _ _ _ us hl => match us, hl with | [_, _], _ => rfl⟩
  unfold S_is_sure
  exact (ass_cons (as_ret (ae_cmp (op_eqA (hu64 hr)) (ae_B cr_lenN T.b_len (aa_cons (ae_callX G_arrangements (hr.mono (by first | decide | omega)) (takes_of rfl rfl rfl rfl) (aa_cons (ae_v 0) (aa_cons (ae_v 1) aa_nil))) aa_nil)) ae_int))
    ass_nil)
abbrev s_law_alike : Stmt := topS 45
theorem sc_law_alike : FnScope ["found", "due", "k"] ["found", "due"] (defScope s_law_alike) := ⟨rfl, rfl, rfl, by decide +kernel, rfl, by decide +kernel, by decide +kernel⟩
def S_law_alike (R_law_alike : On') : SF :=
  (sSeq (sIf (eT (eFn oIsi (eCons (eVar 1) (eCons (eTup (eCons (eC (.ty "tuple")) (eCons (eC (.ty "list")) eNil))) eNil)))) (sSeq (sIf (bOr (bNot (eT (eFn oIsi (eCons (eVar 0) (eCons (eTup (eCons (eC (.ty "tuple")) (eCons (eC (.ty "list")) eNil))) eNil))))) (eB (eOp oNe (eFn oIsi (eCons (eVar 0) (eCons (eC (.ty "list")) eNil))) (eFn oIsi (eCons (eVar 1) (eCons (eC (.ty "list")) eNil)))))) (sSeq (sRet (eC (.bl false)))
    sNil) sNil)
    (sSeq (sIf (eB (eOp oNe (eFn oLenN (eCons (eVar 0) eNil)) (eFn oLenN (eCons (eVar 1) eNil)))) (sSeq (sRet (eC (.bl false)))
    sNil) sNil)
    (sSeq (sRet (eOp oEq (eLc (iRng1 (eCons (eFn oLenN (eCons (eVar 1) eNil)) eNil)) (.nm 2) (bNot (eT (eCall 2 R_law_alike (eCons (eOp oIx (eVar 0) (eVar 2)) (eCons (eOp oIx (eVar 1) (eVar 2)) eNil))))) (eVar 2) [2]) (eLst eNil)))
    sNil))) sNil)
    (sSeq (sIf (bOr (eB (eOp oIs (eVar 1) (eC .non))) (eT (eFn oIsi (eCons (eVar 1) (eCons (eC (.ty "str")) eNil))))) (sSeq (sRet (eAnd (eOp oEq (eVar 0) (eVar 1)) (eOp oEq (eFn oIsi (eCons (eVar 0) (eCons (eC (.ty "str")) eNil))) (eFn oIsi (eCons (eVar 1) (eCons (eC (.ty "str")) eNil))))))
    sNil) sNil)
    (sSeq (sRet (eAnd (eFn oIsi (eCons (eVar 0) (eCons (eC (.ty "int")) eNil))) (eAnd (eOp oEq (eFn oIsi (eCons (eVar 0) (eCons (eC (.ty "bool")) eNil))) (eFn oIsi (eCons (eVar 1) (eCons (eC (.ty "bool")) eNil)))) (eOp oEq (eVar 0) (eVar 1)))))
    sNil)))
def F_law_alike : Nat → On'
  | 0 => fun _ _ => .bad
  | n + 1 => defA 3 (S_law_alike (F_law_alike n))
set_option maxHeartbeats 16000000 in
theorem ok_law_alike {fa : Addr} {fd : FuncData} (T : Txt w K mg)  (F : Fun K "_law_alike" "_law_alike" s_law_alike fa fd) (hm : mg "_law_alike" = some (.ref fa)) : ∀ n, FnX P w K mg Tb base "_law_alike" (0 + n) 2 (F_law_alike n)
  | 0 => ⟨fa, fd, ["found", "due"], fn_bad, hm, F.kp, F.binds (ps := ["found", "due"]) fun _ _ _ _ _ _ us hl => match us, hl with | [_, _], _ => rfl⟩
  | n + 1 => by
    have G_law_alike := ok_law_alike T  F hm n
    refine ⟨fa, fd, ["found", "due"], fn_A (k := 0 + n) F sc_law_alike (fun cdv A outer s₀ H E hr => ?_), hm, F.kp, F.binds (ps := ["found", "due"]) fun _ _ _ _ _ _ us hl => match us, hl with | [_, _], _ => rfl⟩
    unfold S_law_alike
    exact (ass_cons (as_if (at_val (ae_B cr_isi T.b_isinstance (aa_cons (ae_v 1) (aa_cons (ae_tup (aa_cons (ae_type T.b_tuple) (aa_cons (ae_type T.b_list) aa_nil))) aa_nil)))) (ass_cons (as_if (AW.at (aw_or (at_not (at_val (ae_B cr_isi T.b_isinstance (aa_cons (ae_v 0) (aa_cons (ae_tup (aa_cons (ae_type T.b_tuple) (aa_cons (ae_type T.b_list) aa_nil))) aa_nil))))) (aw_or1 (at_cmp (op_neA (hu64 hr)) (ae_B cr_isi T.b_isinstance (aa_cons (ae_v 0) (aa_cons (ae_type T.b_list) aa_nil))) (ae_B cr_isi T.b_isinstance (aa_cons (ae_v 1) (aa_cons (ae_type T.b_list) aa_nil))))))) (ass_cons (as_ret ae_bl)
    ass_nil) ass_nil)
    (ass_cons (as_if (at_cmp (op_neA (hu64 hr)) (ae_B cr_lenN T.b_len (aa_cons (ae_v 0) aa_nil)) (ae_B cr_lenN T.b_len (aa_cons (ae_v 1) aa_nil))) (ass_cons (as_ret ae_bl)
    ass_nil) ass_nil)
    (ass_cons (as_ret (ae_cmp (op_eqA (hu64 hr)) (ae_lc [("k", 2)] rfl sc_law_alike.nd (blkOk_by rfl) (by decide) (ai_rng1 T.b_range (aa_cons (ae_B cr_lenN T.b_len (aa_cons (ae_v 1) aa_nil)) aa_nil)) (fun _ _ _ _ _ => (ag_nm 2 sc_law_alike.nd)) (fun _ _ _ _ _ => (ats_one (at_not (at_val (ae_callX G_law_alike (hr.mono (by omega)) takes0 (aa_cons (ae_ix (ae_v 0) (ae_v 2)) (aa_cons (ae_ix (ae_v 1) (ae_v 2)) aa_nil))))))) (fun _ _ _ _ _ => (ae_v 2))) (ae_lst aa_nil)))
    ass_nil))) ass_nil)
    (ass_cons (as_if (AW.at (aw_or (at_cmp (op_isA) (ae_v 1) ae_non) (aw_or1 (at_val (ae_B cr_isi T.b_isinstance (aa_cons (ae_v 1) (aa_cons (ae_type T.b_str) aa_nil))))))) (ass_cons (as_ret (ae_and (ae_cmp (op_eqA (hu64 hr)) (ae_v 0) (ae_v 1)) (ae_one (ae_cmp (op_eqA (hu64 hr)) (ae_B cr_isi T.b_isinstance (aa_cons (ae_v 0) (aa_cons (ae_type T.b_str) aa_nil))) (ae_B cr_isi T.b_isinstance (aa_cons (ae_v 1) (aa_cons (ae_type T.b_str) aa_nil)))))))
    ass_nil) ass_nil)
    (ass_cons (as_ret (ae_and (ae_B cr_isi T.b_isinstance (aa_cons (ae_v 0) (aa_cons (ae_type T.b_int) aa_nil))) (ae_and (ae_cmp (op_eqA (hu64 hr)) (ae_B cr_isi T.b_isinstance (aa_cons (ae_v 0) (aa_cons (ae_type T.b_bool) aa_nil))) (ae_B cr_isi T.b_isinstance (aa_cons (ae_v 1) (aa_cons (ae_type T.b_bool) aa_nil)))) (ae_one (ae_cmp (op_eqA (hu64 hr)) (ae_v 0) (ae_v 1))))))
    ass_nil)))
abbrev s_check_world : Stmt := topS 31
theorem sc_check_world : FnScope ["world"] ["world"] (defScope s_check_world) := ⟨rfl, rfl, rfl, by decide +kernel, rfl, by decide +kernel, by decide +kernel⟩
def S_check_world : SF :=
  (sSeq (sIf (bOr (bNot (eT (eFn oIsi (eCons (eVar 0) (eCons (eC (.ty "str")) eNil))))) (eB (eInT true tb_WORDS (eVar 0)))) sBad sNil)
    sNil)
def F_check_world : On' := defA 1 S_check_world
set_option maxHeartbeats 16000000 in
theorem ok_check_world {fa : Addr} {fd : FuncData} (T : Txt w K mg)  (F : Fun K "check_world" "check_world" s_check_world fa fd) (hm : mg "check_world" = some (.ref fa)) : FnX P w K mg Tb base "check_world" 1 1 F_check_world := by
  refine ⟨fa, fd, ["world"], fn_A (k := 0) F sc_check_world (fun cdv A outer s₀ H E hr => ?_), hm, F.kp, F.binds (ps := ["world"]) fun _ _ _ _ _ _ us hl => match us, hl with | [_], _ => rfl⟩
  unfold S_check_world
  exact (ass_cons (as_if (AW.at (aw_or (at_not (at_val (ae_B cr_isi T.b_isinstance (aa_cons (ae_v 0) (aa_cons (ae_type T.b_str) aa_nil))))) (aw_or1 (at_ninT T.g_WORDS.choose_spec.1 T.g_WORDS.choose_spec.2 (ae_v 0))))) ass_never ass_nil)
    ass_nil)
abbrev s_is_parting : Stmt := topS 38
theorem sc_is_parting : FnScope ["small", "letters", "steps", "_", "letter", "row"] ["small"] (defScope s_is_parting) := ⟨rfl, rfl, rfl, by decide +kernel, rfl, by decide +kernel, by decide +kernel⟩
def S_is_parting : SF :=
  (sSeq (sAsg (.tp [(.nm 1), (.nm 2), (.nm 3)]) (eVar 0))
    (sSeq (sRet (eFn oAll (eCons (eLc (iRng1 (eCons (eVar 1) eNil)) (.nm 4) bYes (eOp oEq (eFn oLenSt (eCons (eSc (iSeq (eVar 2)) (.nm 5) bYes (eOp oIx (eVar 5) (eVar 4)) [5]) eNil)) (eFn oLenN (eCons (eVar 2) eNil))) [4]) eNil)))
    sNil))
def F_is_parting : On' := defA 6 S_is_parting
set_option maxHeartbeats 16000000 in
theorem ok_is_parting {fa : Addr} {fd : FuncData} (T : Txt w K mg)  (F : Fun K "is_parting" "is_parting" s_is_parting fa fd) (hm : mg "is_parting" = some (.ref fa)) : FnX P w K mg Tb base "is_parting" 1 1 F_is_parting := by
  refine ⟨fa, fd, ["small"], fn_A (k := 0) F sc_is_parting (fun cdv A outer s₀ H E hr => ?_), hm, F.kp, F.binds (ps := ["small"]) fun _ _ _ _ _ _ us hl => match us, hl with | [_], _ => rfl⟩
  unfold S_is_parting
  exact (ass_cons (as_asg (ae_v 0) (ag_tp rfl (ags_cons (ag_nm 1 sc_is_parting.nd) (ags_cons (ag_nm 2 sc_is_parting.nd) (ags_cons (ag_nm 3 sc_is_parting.nd) ags_nil)))))
    (ass_cons (as_ret (ae_B (cr_allA rfl) T.b_all (aa_cons (ae_lc [("letter", 4)] rfl sc_is_parting.nd (blkOk_by rfl) (by decide) (ai_rng1 T.b_range (aa_cons (ae_v 1) aa_nil)) (fun _ _ _ _ _ => (ag_nm 4 sc_is_parting.nd)) (fun _ _ _ _ _ => ats_nil) (fun _ _ _ _ _ => (ae_cmp (op_eqA (hu64 hr)) (ae_B cr_lenSt T.b_len (aa_cons (ae_sc [("row", 5)] rfl sc_is_parting.nd (blkOk_by rfl) (by decide) (ai_seq (ae_v 2)) (fun _ _ _ _ _ => (ag_nm 5 sc_is_parting.nd)) (fun _ _ _ _ _ => ats_nil) (fun _ _ _ _ _ => (ae_ix (ae_v 5) (ae_v 4)))) aa_nil)) (ae_B cr_lenN T.b_len (aa_cons (ae_v 2) aa_nil))))) aa_nil)))
    ass_nil))
abbrev s_is_commuting : Stmt := topS 37
theorem sc_is_commuting : FnScope ["small", "row", "letters", "steps", "_", "a", "b"] ["small"] (defScope s_is_commuting) := ⟨rfl, rfl, rfl, by decide +kernel, rfl, by decide +kernel, by decide +kernel⟩
def S_is_commuting : SF :=
  (sSeq (sAsg (.tp [(.nm 2), (.nm 3), (.nm 4)]) (eVar 0))
    (sSeq (sFor (iSeq (eVar 3)) (.nm 1) (sSeq (sFor (iRng1 (eCons (eVar 2) eNil)) (.nm 5) (sSeq (sIf (eT (eFn oAny (eCons (eLc (iRng1 (eCons (eVar 5) eNil)) (.nm 6) bYes (eOp oNe (eOp oIx (eOp oIx (eVar 3) (eOp oIx (eVar 1) (eVar 5))) (eVar 6)) (eOp oIx (eOp oIx (eVar 3) (eOp oIx (eVar 1) (eVar 6))) (eVar 5))) [6]) eNil))) (sSeq (sRet (eC (.bl false)))
    sNil) sNil)
    sNil))
    sNil))
    (sSeq (sRet (eC (.bl true)))
    sNil)))
def F_is_commuting : On' := defA 7 S_is_commuting
set_option maxHeartbeats 16000000 in
theorem ok_is_commuting {fa : Addr} {fd : FuncData} (T : Txt w K mg)  (F : Fun K "is_commuting" "is_commuting" s_is_commuting fa fd) (hm : mg "is_commuting" = some (.ref fa)) : FnX P w K mg Tb base "is_commuting" 1 1 F_is_commuting := by
  refine ⟨fa, fd, ["small"], fn_A (k := 0) F sc_is_commuting (fun cdv A outer s₀ H E hr => ?_), hm, F.kp, F.binds (ps := ["small"]) fun _ _ _ _ _ _ us hl => match us, hl with | [_], _ => rfl⟩
  unfold S_is_commuting
  exact (ass_cons (as_asg (ae_v 0) (ag_tp rfl (ags_cons (ag_nm 2 sc_is_commuting.nd) (ags_cons (ag_nm 3 sc_is_commuting.nd) (ags_cons (ag_nm 4 sc_is_commuting.nd) ags_nil)))))
    (ass_cons (as_for (passes_of rfl) rfl (ai_seq (ae_v 3)) (ag_nm 1 sc_is_commuting.nd) (ass_cons (as_for (passes_of rfl) rfl (ai_rng1 T.b_range (aa_cons (ae_v 2) aa_nil)) (ag_nm 5 sc_is_commuting.nd) (ass_cons (as_if (at_val (ae_B (cr_anyA rfl) T.b_any (aa_cons (ae_lc [("b", 6)] rfl sc_is_commuting.nd (blkOk_by rfl) (by decide) (ai_rng1 T.b_range (aa_cons (ae_v 5) aa_nil)) (fun _ _ _ _ _ => (ag_nm 6 sc_is_commuting.nd)) (fun _ _ _ _ _ => ats_nil) (fun _ _ _ _ _ => (ae_cmp (op_neA (hu64 hr)) (ae_ix (ae_ix (ae_v 3) (ae_ix (ae_v 1) (ae_v 5))) (ae_v 6)) (ae_ix (ae_ix (ae_v 3) (ae_ix (ae_v 1) (ae_v 6))) (ae_v 5))))) aa_nil))) (ass_cons (as_ret ae_bl)
    ass_nil) ass_nil)
    ass_nil))
    ass_nil))
    (ass_cons (as_ret ae_bl)
    ass_nil)))
abbrev s_is_kept : Stmt := topS 36
theorem sc_is_kept : FnScope ["world", "small"] ["world", "small"] (defScope s_is_kept) := ⟨rfl, rfl, rfl, by decide +kernel, rfl, by decide +kernel, by decide +kernel⟩
def S_is_kept : SF :=
  (sSeq (sIf (bAnd (eB (eInK false (eVar 0) (kC tt_PLACELESS))) (bNot (eT (eCall 1 F_is_commuting (eCons (eVar 1) eNil))))) (sSeq (sRet (eC (.bl false)))
    sNil) sNil)
    (sSeq (sRet (eOr (eInK true (eVar 0) (kC tt_TAKING)) (eCall 1 F_is_parting (eCons (eVar 1) eNil))))
    sNil))
def F_is_kept : On' := defA 2 S_is_kept
set_option maxHeartbeats 16000000 in
theorem ok_is_kept {fa : Addr} {fd : FuncData} (T : Txt w K mg) (G_is_commuting : FnX P w K mg Tb base "is_commuting" 1 1 F_is_commuting) (G_is_parting : FnX P w K mg Tb base "is_parting" 1 1 F_is_parting) (F : Fun K "is_kept" "is_kept" s_is_kept fa fd) (hm : mg "is_kept" = some (.ref fa)) : FnX P w K mg Tb base "is_kept" 2 2 F_is_kept := by
  refine ⟨fa, fd, ["world", "small"], fn_A (k := 1) F sc_is_kept (fun cdv A outer s₀ H E hr => ?_), hm, F.kp, F.binds (ps := ["world", "small"]) fun _ _ _ _ _ _ us hl => match us, hl with | [_, _], _ => rfl⟩
  unfold S_is_kept
  exact (ass_cons (as_if (AW.at (aw_and (at_inK (ae_v 0) (ak_nm T.g_PLACELESS.choose_spec.1 T.g_PLACELESS.choose_spec.2)) (aw_and1 (at_not (at_val (ae_callX G_is_commuting (hr.mono (by first | decide | omega)) (takes_of rfl rfl rfl rfl) (aa_cons (ae_v 1) aa_nil))))))) (ass_cons (as_ret ae_bl)
    ass_nil) ass_nil)
    (ass_cons (as_ret (ae_or (ae_ninK (ae_v 0) (ak_nm T.g_TAKING.choose_spec.1 T.g_TAKING.choose_spec.2)) (ae_one (ae_callX G_is_parting (hr.mono (by first | decide | omega)) (takes_of rfl rfl rfl rfl) (aa_cons (ae_v 1) aa_nil)))))
    ass_nil))
abbrev s_can_keep : Stmt := topS 35
theorem sc_can_keep : FnScope ["world", "question"] ["world", "question"] (defScope s_can_keep) := ⟨rfl, rfl, rfl, by decide +kernel, rfl, by decide +kernel, by decide +kernel⟩
def S_can_keep : SF :=
  (sSeq (sExpr (eCall 1 F_check_world (eCons (eVar 0) eNil)))
    (sSeq (sExpr (eCall 1 F_check_question (eCons (eVar 1) eNil)))
    (sSeq (sRet (eCall 2 F_is_kept (eCons (eVar 0) (eCons (eCallD 2 F_least_of [.non] (eCons (eVar 1) eNil)) eNil))))
    sNil)))
def F_can_keep : On' := defA 2 S_can_keep
set_option maxHeartbeats 16000000 in
theorem ok_can_keep {fa : Addr} {fd : FuncData} (T : Txt w K mg) (G_check_world : FnX P w K mg Tb base "check_world" 1 1 F_check_world) (G_check_question : FnX P w K mg Tb base "check_question" 4 1 F_check_question) (G_is_kept : FnX P w K mg Tb base "is_kept" 2 2 F_is_kept) (G_least_of : FnXD P w K mg Tb base "least_of" 3 2 [.non] F_least_of) (F : Fun K "can_keep" "can_keep" s_can_keep fa fd) (hm : mg "can_keep" = some (.ref fa)) : FnX P w K mg Tb base "can_keep" 5 2 F_can_keep := by
  refine ⟨fa, fd, ["world", "question"], fn_A (k := 4) F sc_can_keep (fun cdv A outer s₀ H E hr => ?_), hm, F.kp, F.binds (ps := ["world", "question"]) fun _ _ _ _ _ _ us hl => match us, hl with | [_, _], _ => rfl⟩
  unfold S_can_keep
  exact (ass_cons (as_expr (ae_callX G_check_world (hr.mono (by first | decide | omega)) (takes_of rfl rfl rfl rfl) (aa_cons (ae_v 0) aa_nil)))
    (ass_cons (as_expr (ae_callX G_check_question (hr.mono (by first | decide | omega)) (takes_of rfl rfl rfl rfl) (aa_cons (ae_v 1) aa_nil)))
    (ass_cons (as_ret (ae_callX G_is_kept (hr.mono (by first | decide | omega)) (takes_of rfl rfl rfl rfl) (aa_cons (ae_v 0) (aa_cons (ae_callXD G_least_of (hr.mono (by first | decide | omega)) (takes_of rfl rfl rfl rfl) (aa_cons (ae_v 1) aa_nil)) aa_nil))))
    ass_nil)))
abbrev s_law_state : Stmt := topS 44
theorem sc_law_state : FnScope ["question", "text", "state", "letter"] ["question", "text"] (defScope s_law_state) := ⟨rfl, rfl, rfl, by decide +kernel, rfl, by decide +kernel, by decide +kernel⟩
def S_law_state : SF :=
  (sSeq (sAsg (.nm 2) (eC (.int 0)))
    (sSeq (sFor (iSeq (eVar 1)) (.nm 3) (sSeq (sAsg (.nm 2) (eOp oIx (eOp oIx (eOp oIx (eVar 0) (eC (.int 1))) (eVar 2)) (eVar 3)))
    sNil))
    (sSeq (sRet (eVar 2))
    sNil)))
def F_law_state : On' := defA 4 S_law_state
set_option maxHeartbeats 16000000 in
theorem ok_law_state {fa : Addr} {fd : FuncData} (T : Txt w K mg)  (F : Fun K "_law_state" "_law_state" s_law_state fa fd) (hm : mg "_law_state" = some (.ref fa)) : FnX P w K mg Tb base "_law_state" 1 2 F_law_state := by
  refine ⟨fa, fd, ["question", "text"], fn_A (k := 0) F sc_law_state (fun cdv A outer s₀ H E hr => ?_), hm, F.kp, F.binds (ps := ["question", "text"]) fun _ _ _ _ _ _ us hl => match us, hl with | [_, _], _ => rfl⟩
  unfold S_law_state
  exact (ass_cons (as_set 2 sc_law_state.nd ae_int)
    (ass_cons (as_for (passes_of rfl) rfl (ai_seq (ae_v 1)) (ag_nm 3 sc_law_state.nd) (ass_cons (as_set 2 sc_law_state.nd (ae_ix (ae_ix (ae_ix (ae_v 0) ae_int) (ae_v 2)) (ae_v 3)))
    ass_nil))
    (ass_cons (as_ret (ae_v 2))
    ass_nil)))
abbrev s_sure_counts : Stmt := topS 24
theorem sc_sure_counts : FnScope ["question", "most", "small", "ways", "counts"] ["question", "most"] (defScope s_sure_counts) := ⟨rfl, rfl, rfl, by decide +kernel, rfl, by decide +kernel, by decide +kernel⟩
def S_sure_counts : SF :=
  (sSeq (sExpr (eCall 1 F_check_question (eCons (eVar 0) eNil)))
    (sSeq (sIf (bNot (eT (eCall 3 F_is_number (eCons (eVar 1) (eCons (eC (.int 0)) (eCons (eC (.int 5)) eNil)))))) sBad sNil)
    (sSeq (sAsg (.nm 2) (eCallD 2 F_least_of [.non] (eCons (eVar 0) eNil)))
    (sSeq (sAsg (.nm 3) (eCall 2 F_ways_up_to (eCons (eVar 2) (eCons (eOp oMulT (eTup (eCons (eVar 1) eNil)) (eOp oIx (eVar 2) (eC (.int 0)))) eNil))))
    (sSeq (sRet (eFn oTuple (eCons (eLcD 3 (.nm 4) (eB (eOp oEq (eFn oLenN (eCons (eCall 2 F_answers_of (eCons (eVar 2) (eCons (eOp oDget (eVar 3) (eVar 4)) eNil))) eNil)) (eC (.int 1)))) (eVar 4) [4]) eNil)))
    sNil)))))
def F_sure_counts : On' := defA 5 S_sure_counts
set_option maxHeartbeats 16000000 in
theorem ok_sure_counts {fa : Addr} {fd : FuncData} (T : Txt w K mg) (G_check_question : FnX P w K mg Tb base "check_question" 4 1 F_check_question) (G_is_number : FnX P w K mg Tb base "is_number" 1 3 F_is_number) (G_least_of : FnXD P w K mg Tb base "least_of" 3 2 [.non] F_least_of) (G_ways_up_to : FnX P w K mg Tb base "ways_up_to" 2 2 F_ways_up_to) (G_answers_of : FnX P w K mg Tb base "answers_of" 1 2 F_answers_of) (F : Fun K "sure_counts" "sure_counts" s_sure_counts fa fd) (hm : mg "sure_counts" = some (.ref fa)) : FnX P w K mg Tb base "sure_counts" 5 2 F_sure_counts := by
  refine ⟨fa, fd, ["question", "most"], fn_A (k := 4) F sc_sure_counts (fun cdv A outer s₀ H E hr => ?_), hm, F.kp, F.binds (ps := ["question", "most"]) fun _ _ _ _ _ _ us hl => match us, hl with | [_, _], _ => rfl⟩
  unfold S_sure_counts
  exact (ass_cons (as_expr (ae_callX G_check_question (hr.mono (by first | decide | omega)) (takes_of rfl rfl rfl rfl) (aa_cons (ae_v 0) aa_nil)))
    (ass_cons (as_if (at_not (at_val (ae_callX G_is_number (hr.mono (by first | decide | omega)) (takes_of rfl rfl rfl rfl) (aa_cons (ae_v 1) (aa_cons ae_int (aa_cons (ae_glob T.c_MOST_SURE.choose_spec (fun _ _ => .int 5) ⟨_, rfl⟩) aa_nil)))))) ass_never ass_nil)
    (ass_cons (as_set 2 sc_sure_counts.nd (ae_callXD G_least_of (hr.mono (by first | decide | omega)) (takes_of rfl rfl rfl rfl) (aa_cons (ae_v 0) aa_nil)))
    (ass_cons (as_set 3 sc_sure_counts.nd (ae_callX G_ways_up_to (hr.mono (by first | decide | omega)) (takes_of rfl rfl rfl rfl) (aa_cons (ae_v 2) (aa_cons (ae_op op_mulT (ae_tup (aa_cons (ae_v 1) aa_nil)) (ae_ix (ae_v 2) ae_int)) aa_nil))))
    (ass_cons (as_ret (ae_Ty cr_tuple T.b_tuple (aa_cons (ae_lcD 3 [("counts", 4)] rfl sc_sure_counts.nd (blkOk_by rfl) (by decide) (fun _ _ _ _ _ => (ag_nm 4 sc_sure_counts.nd)) (fun _ _ _ _ _ => (ats_one (at_cmp (op_eqA (hu64 hr)) (ae_B cr_lenN T.b_len (aa_cons (ae_callX G_answers_of (hr.mono (by first | decide | omega)) takes0 (aa_cons (ae_v 2) (aa_cons (ae_dget (hu1 hr) (ae_v 3) (ae_v 4)) aa_nil))) aa_nil)) ae_int))) (fun _ _ _ _ _ => (ae_v 4))) aa_nil)))
    ass_nil)))))
abbrev s_law_question : Stmt := topS 42
theorem sc_law_question : FnScope ["row", "letters", "most", "many", "steps", "state", "letter"] ["row", "letters", "most"] (defScope s_law_question) := ⟨rfl, rfl, rfl, by decide +kernel, rfl, by decide +kernel, by decide +kernel⟩
def S_law_question : SF :=
  (sSeq (sAsg (.nm 3) (eOp oAdd (eC (.int 1)) (eCall 2 F_law_taken (eCons (eVar 0) (eCons (eVar 2) eNil)))))
    (sSeq (sAsg (.nm 4) (eFn oTuple (eCons (eLc (iRng1 (eCons (eVar 3) eNil)) (.nm 5) bYes (eFn oTuple (eCons (eLc (iRng1 (eCons (eVar 1) eNil)) (.nm 6) bYes (eCall 2 F_law_taken (eCons (eVar 0) (eCons (eVar 3) eNil))) [6]) eNil)) [5]) eNil)))
    (sSeq (sRet (eTup (eCons (eVar 1) (eCons (eVar 4) (eCons (eFn oTuple (eCons (eLc (iRng1 (eCons (eVar 3) eNil)) (.nm 5) bYes (eCall 2 F_law_taken (eCons (eVar 0) (eCons (eC (.int 3)) eNil))) [5]) eNil)) eNil)))))
    sNil)))
def F_law_question : On' := defA 7 S_law_question
set_option maxHeartbeats 16000000 in
theorem ok_law_question {fa : Addr} {fd : FuncData} (T : Txt w K mg) (G_law_taken : FnX P w K mg Tb base "_law_taken" 1 2 F_law_taken) (F : Fun K "_law_question" "_law_question" s_law_question fa fd) (hm : mg "_law_question" = some (.ref fa)) : FnX P w K mg Tb base "_law_question" 2 3 F_law_question := by
  refine ⟨fa, fd, ["row", "letters", "most"], fn_A (k := 1) F sc_law_question (fun cdv A outer s₀ H E hr => ?_), hm, F.kp, F.binds (ps := ["row", "letters", "most"]) fun _ _ _ _ _ _ us hl => match us, hl with | [_, _, _], _ => rfl⟩
  unfold S_law_question
  exact (ass_cons (as_set 3 sc_law_question.nd (ae_op op_addA ae_int (ae_callX G_law_taken (hr.mono (by first | decide | omega)) (takes_of rfl rfl rfl rfl) (aa_cons (ae_v 0) (aa_cons (ae_v 2) aa_nil)))))
    (ass_cons (as_set 4 sc_law_question.nd (ae_Ty cr_tuple T.b_tuple (aa_cons (ae_lc [("state", 5)] rfl sc_law_question.nd (blkOk_by rfl) (by decide) (ai_rng1 T.b_range (aa_cons (ae_v 3) aa_nil)) (fun _ _ _ _ _ => (ag_nm 5 sc_law_question.nd)) (fun _ _ _ _ _ => ats_nil) (fun _ _ _ _ _ => (ae_Ty cr_tuple T.b_tuple (aa_cons (ae_lc [("letter", 6)] rfl sc_law_question.nd (blkOk_by rfl) (by decide) (ai_rng1 T.b_range (aa_cons (ae_v 1) aa_nil)) (fun _ _ _ _ _ => (ag_nm 6 sc_law_question.nd)) (fun _ _ _ _ _ => ats_nil) (fun _ _ _ _ _ => (ae_callX G_law_taken (hr.mono (by first | decide | omega)) takes0 (aa_cons (ae_v 0) (aa_cons (ae_v 3) aa_nil))))) aa_nil)))) aa_nil)))
    (ass_cons (as_ret (ae_tup (aa_cons (ae_v 1) (aa_cons (ae_v 4) (aa_cons (ae_Ty cr_tuple T.b_tuple (aa_cons (ae_lc [("state", 5)] rfl sc_law_question.nd (blkOk_by rfl) (by decide) (ai_rng1 T.b_range (aa_cons (ae_v 3) aa_nil)) (fun _ _ _ _ _ => (ag_nm 5 sc_law_question.nd)) (fun _ _ _ _ _ => ats_nil) (fun _ _ _ _ _ => (ae_callX G_law_taken (hr.mono (by first | decide | omega)) takes0 (aa_cons (ae_v 0) (aa_cons ae_int aa_nil))))) aa_nil)) aa_nil)))))
    ass_nil)))
abbrev s_law_counting : Stmt := topS 43
theorem sc_law_counting : FnScope ["row", "letters", "odd", "at", "modulus", "short", "weights", "states", "steps", "answers", "letter", "k", "counts", "line", "after"] ["row", "letters"] (defScope s_law_counting) := ⟨rfl, rfl, rfl, by decide +kernel, rfl, by decide +kernel, by decide +kernel⟩
def S_law_counting : SF :=
  (sSeq (sAsg (.tp [(.nm 4), (.nm 5)]) (eTup (eCons (eOp oAdd (eC (.int 1)) (eCall 2 F_law_taken (eCons (eVar 0) (eCons (eC (.int 3)) eNil)))) (eCons (eCall 2 F_law_taken (eCons (eVar 0) (eCons (eC (.int 3)) eNil))) eNil))))
    (sSeq (sAsg (.tp [(.nm 6), (.nm 7), (.nm 8), (.nm 9)]) (eTup (eCons (eLc (iRng1 (eCons (eVar 1) eNil)) (.nm 11) bYes (eCall 2 F_law_taken (eCons (eVar 0) (eCons (eVar 4) eNil))) [11]) (eCons (eLst (eCons (eTup (eCons (eOp oMulT (eTup (eCons (eC (.int 0)) eNil)) (eVar 1)) (eCons (eC (.int 0)) eNil))) eNil)) (eCons (eLst eNil) (eCons (eLst eNil) eNil))))))
    (sSeq (sAsg (.nm 2) (eLc (iRng1 (eCons (eC (.int 4)) eNil)) (.nm 11) bYes (eCall 2 F_law_taken (eCons (eVar 0) (eCons (eC (.int 3)) eNil))) [11]))
    (sSeq (sAsg (.nm 3) (eC (.int 0)))
    (sSeq (fun τ M => whileA (eB (eOp oLt (eVar 3) (eFn oLenN (eCons (eVar 7) eNil)))) (sSeq (sAsg (.tp [(.nm 12), (.nm 13)]) (eTup (eCons (eOp oIx (eOp oIx (eVar 7) (eVar 3)) (eC (.int 0))) (eCons (eLst eNil) eNil))))
    (sSeq (sFor (iRng1 (eCons (eVar 1) eNil)) (.nm 10) (sSeq (sAsg (.nm 14) (eTup (eCons (eC (.str (Str.ofString "long"))) (eCons (eOp oMod (eFn oInt1 (eCons (eOp oAdd (eOp oIx (eOp oIx (eVar 7) (eVar 3)) (eC (.int 1))) (eOp oIx (eVar 6) (eVar 10))) eNil)) (eVar 4)) eNil))))
    (sSeq (sIf (bAnd (eB (eOp oNe (eVar 12) (eC (.str (Str.ofString "long"))))) (eB (eOp oLt (eFn oSumI (eCons (eVar 12) eNil)) (eVar 5)))) (sSeq (sAsg (.nm 14) (eTup (eCons (eOp oAdd (eOp oAdd (eSl (eVar 12) eNoPart (ePart (eVar 10))) (eTup (eCons (eOp oAdd (eOp oIx (eVar 12) (eVar 10)) (eC (.int 1))) eNil))) (eSl (eVar 12) (ePart (eOp oAdd (eVar 10) (eC (.int 1)))) eNoPart)) (eCons (eOp oIx (eVar 14) (eC (.int 1))) eNil))))
    sNil) sNil)
    (sSeq (sAsg (.nm 7) (eIf (eB (eOp oNotIn (eVar 14) (eVar 7))) (eOp oAdd (eVar 7) (eLst (eCons (eVar 14) eNil))) (eVar 7)))
    (sSeq (sExpr (eMeth oAppend (eVar 13) (eCons (eMeth oIndexD (eVar 7) (eCons (eVar 14) eNil)) eNil)))
    sNil)))))
    (sSeq (sExpr (eMeth oAppend (eVar 8) (eCons (eFn oTuple (eCons (eVar 13) eNil)) eNil)))
    (sSeq (sExpr (eMeth oAppend (eVar 9) (eCons (eIf (eB (eOp oEq (eVar 12) (eC (.str (Str.ofString "long"))))) (eOp oIx (eOp oIx (eVar 7) (eVar 3)) (eC (.int 1))) (eOp oIx (eVar 2) (eOp oMod (eFn oInt1 (eCons (eFn oSumI (eCons (eLc (iRng1 (eCons (eVar 1) eNil)) (.nm 11) bYes (eOp oMul (eOp oAdd (eVar 11) (eC (.int 1))) (eOp oIx (eVar 12) (eVar 11))) [11]) eNil)) eNil)) (eC (.int 4))))) eNil)))
    (sSeq (sAsg (.nm 3) (eOp oAdd (eVar 3) (eC (.int 1))))
    sNil))))) fuel τ M)
    (sSeq (sRet (eTup (eCons (eVar 1) (eCons (eFn oTuple (eCons (eVar 8) eNil)) (eCons (eFn oTuple (eCons (eVar 9) eNil)) eNil)))))
    sNil))))))
def F_law_counting : On' := defA 15 S_law_counting
set_option maxHeartbeats 16000000 in
theorem ok_law_counting {fa : Addr} {fd : FuncData} (T : Txt w K mg) (G_law_taken : FnX P w K mg Tb base "_law_taken" 1 2 F_law_taken) (F : Fun K "_law_counting" "_law_counting" s_law_counting fa fd) (hm : mg "_law_counting" = some (.ref fa)) : FnX P w K mg Tb base "_law_counting" 2 2 F_law_counting := by
  refine ⟨fa, fd, ["row", "letters"], fn_A (k := 1) F sc_law_counting (fun cdv A outer s₀ H E hr => ?_), hm, F.kp, F.binds (ps := ["row", "letters"]) fun _ _ _ _ _ _ us hl => match us, hl with | [_, _], _ => rfl⟩
  unfold S_law_counting
  exact (ass_cons (as_asg (ae_tup (aa_cons (ae_op op_addA ae_int (ae_callX G_law_taken (hr.mono (by first | decide | omega)) (takes_of rfl rfl rfl rfl) (aa_cons (ae_v 0) (aa_cons ae_int aa_nil)))) (aa_cons (ae_callX G_law_taken (hr.mono (by first | decide | omega)) (takes_of rfl rfl rfl rfl) (aa_cons (ae_v 0) (aa_cons ae_int aa_nil))) aa_nil))) (ag_tp rfl (ags_cons (ag_nm 4 sc_law_counting.nd) (ags_cons (ag_nm 5 sc_law_counting.nd) ags_nil))))
    (ass_cons (as_asg (ae_tup (aa_cons (ae_lc [("k", 11)] rfl sc_law_counting.nd (blkOk_by rfl) (by decide) (ai_rng1 T.b_range (aa_cons (ae_v 1) aa_nil)) (fun _ _ _ _ _ => (ag_nm 11 sc_law_counting.nd)) (fun _ _ _ _ _ => ats_nil) (fun _ _ _ _ _ => (ae_callX G_law_taken (hr.mono (by first | decide | omega)) takes0 (aa_cons (ae_v 0) (aa_cons (ae_v 4) aa_nil))))) (aa_cons (ae_lst (aa_cons (ae_tup (aa_cons (ae_op op_mulT (ae_tup (aa_cons ae_int aa_nil)) (ae_v 1)) (aa_cons ae_int aa_nil))) aa_nil)) (aa_cons (ae_lst aa_nil) (aa_cons (ae_lst aa_nil) aa_nil))))) (ag_tp rfl (ags_cons (ag_nm 6 sc_law_counting.nd) (ags_cons (ag_nm 7 sc_law_counting.nd) (ags_cons (ag_nm 8 sc_law_counting.nd) (ags_cons (ag_nm 9 sc_law_counting.nd) ags_nil))))))
    (ass_cons (as_setLc 2 [("k", 11)] rfl sc_law_counting.nd (sw_true rfl rfl rfl (by decide +kernel)) (blkOk_by rfl) (by decide) (ai_rng1 T.b_range (aa_cons ae_int aa_nil)) (fun _ _ _ _ _ => (ag_nm 11 sc_law_counting.nd)) (fun _ _ _ _ _ => ats_nil) (fun _ _ _ _ _ => (ae_callX G_law_taken (hr.mono (by first | decide | omega)) takes0 (aa_cons (ae_v 0) (aa_cons ae_int aa_nil)))))
    (ass_cons (as_set 3 sc_law_counting.nd ae_int)
    (ass_cons (as_while (fun _ _ => fuel) (passes_of rfl) (at_cmp (op_ltA) (ae_v 3) (ae_B cr_lenN T.b_len (aa_cons (ae_v 7) aa_nil))) (ass_cons (as_asg (ae_tup (aa_cons (ae_ix (ae_ix (ae_v 7) (ae_v 3)) ae_int) (aa_cons (ae_lst aa_nil) aa_nil))) (ag_tp rfl (ags_cons (ag_nm 12 sc_law_counting.nd) (ags_cons (ag_nm 13 sc_law_counting.nd) ags_nil))))
    (ass_cons (as_for (passes_of rfl) rfl (ai_rng1 T.b_range (aa_cons (ae_v 1) aa_nil)) (ag_nm 10 sc_law_counting.nd) (ass_cons (as_set 14 sc_law_counting.nd (ae_tup (aa_cons ae_str (aa_cons (ae_op op_modA (ae_Ty cr_int T.b_int (aa_cons (ae_op op_addA (ae_ix (ae_ix (ae_v 7) (ae_v 3)) ae_int) (ae_ix (ae_v 6) (ae_v 10))) aa_nil)) (ae_v 4)) aa_nil))))
    (ass_cons (as_if (AW.at (aw_and (at_cmp (op_neA (hu64 hr)) (ae_v 12) ae_str) (aw_and1 (at_cmp (op_ltA) (ae_B (cr_sumI rfl) T.b_sum (aa_cons (ae_v 12) aa_nil)) (ae_v 5))))) (ass_cons (as_set 14 sc_law_counting.nd (ae_tup (aa_cons (ae_op op_addA (ae_op op_addA (ae_sl (ae_v 12) ap_none (ap_some (ae_v 10))) (ae_tup (aa_cons (ae_op op_addA (ae_ix (ae_v 12) (ae_v 10)) ae_int) aa_nil))) (ae_sl (ae_v 12) (ap_some (ae_op op_addA (ae_v 10) ae_int)) ap_none)) (aa_cons (ae_ix (ae_v 14) ae_int) aa_nil))))
    ass_nil) ass_nil)
    (ass_cons (as_set 7 sc_law_counting.nd (ae_if (at_cmp (op_notInA (hu65 hr)) (ae_v 14) (ae_v 7)) (ae_op op_addA (ae_v 7) (ae_lst (aa_cons (ae_v 14) aa_nil))) (ae_v 7)))
    (ass_cons (as_expr (ae_append (ae_v 13) (aa_cons (ae_indexD (hu65 hr) (ae_v 7) (aa_cons (ae_v 14) aa_nil)) aa_nil)))
    ass_nil)))))
    (ass_cons (as_expr (ae_append (ae_v 8) (aa_cons (ae_Ty cr_tuple T.b_tuple (aa_cons (ae_v 13) aa_nil)) aa_nil)))
    (ass_cons (as_expr (ae_append (ae_v 9) (aa_cons (ae_if (at_cmp (op_eqA (hu64 hr)) (ae_v 12) ae_str) (ae_ix (ae_ix (ae_v 7) (ae_v 3)) ae_int) (ae_ix (ae_v 2) (ae_op op_modA (ae_Ty cr_int T.b_int (aa_cons (ae_B (cr_sumI rfl) T.b_sum (aa_cons (ae_lc [("k", 11)] rfl sc_law_counting.nd (blkOk_by rfl) (by decide) (ai_rng1 T.b_range (aa_cons (ae_v 1) aa_nil)) (fun _ _ _ _ _ => (ag_nm 11 sc_law_counting.nd)) (fun _ _ _ _ _ => ats_nil) (fun _ _ _ _ _ => (ae_op op_mulA (ae_op op_addA (ae_v 11) ae_int) (ae_ix (ae_v 12) (ae_v 11))))) aa_nil)) aa_nil)) ae_int))) aa_nil)))
    (ass_cons (as_set 3 sc_law_counting.nd (ae_op op_addA (ae_v 3) ae_int))
    ass_nil))))))
    (ass_cons (as_ret (ae_tup (aa_cons (ae_v 1) (aa_cons (ae_Ty cr_tuple T.b_tuple (aa_cons (ae_v 8) aa_nil)) (aa_cons (ae_Ty cr_tuple T.b_tuple (aa_cons (ae_v 9) aa_nil)) aa_nil)))))
    ass_nil))))))
abbrev s_law : Stmt := topS 47
theorem sc_law : FnScope ["script", "row", "letters", "counts", "text", "due", "told", "number", "k", "question", "found", "one", "most", "sure", "some", "great", "total", "ways", "j", "answers", "many"] ["script"] (defScope s_law) := ⟨rfl, rfl, rfl, by decide +kernel, rfl, by decide +kernel, by decide +kernel⟩
def S_law : SF :=
  (sSeq (sAsg (.nm 1) (eLst (eCons (eVar 0) (eCons (eC (.int 0)) (eCons (eC (.int 11206)) (eCons (eC (.int 0)) eNil))))))
    (sSeq (sAsg (.nm 2) (eOp oAdd (eC (.int 1)) (eCall 2 F_law_taken (eCons (eVar 1) (eCons (eC (.int 3)) eNil)))))
    (sSeq (sAsg (.tp [(.nm 9), (.nm 10)]) (eTup (eCons (eCall 2 F_law_pick (eCons (eVar 1) (eCons (eLst (eCons (eCall 3 F_law_question (eCons (eVar 1) (eCons (eVar 2) (eCons (eC (.int 4)) eNil)))) (eCons (eCall 2 F_law_counting (eCons (eVar 1) (eCons (eVar 2) eNil))) eNil))) eNil))) (eCons eNewK eNil))))
    (sSeq (sAsg (.nm 3) (eFn oTuple (eCons (eLc (iRng1 (eCons (eVar 2) eNil)) (.nm 8) bYes (eCall 2 F_law_taken (eCons (eVar 1) (eCons (eC (.int 4)) eNil))) [8]) eNil)))
    (sSeq (sFor (iSeq (eCall 1 (F_law_all 12) (eCons (eVar 3) eNil))) (.nm 4) (sSeq (sAsg (.nm 11) (eOp oIx (eOp oIx (eVar 9) (eC (.int 2))) (eCall 2 F_law_state (eCons (eVar 9) (eCons (eVar 4) eNil)))))
    (sSeq (sDput (eVar 10) (eVar 11) (eOp oAdd (eGet2 (eVar 10) (eVar 11) (eC (.int 0))) (eC (.int 1))))
    sNil)))
    (sSeq (sAsg (.nm 5) (eFn oTuple (eCons (eLc (iSeq (eSortKeys (eVar 10))) (.nm 11) bYes (eTup (eCons (eVar 11) (eCons (eOp oDget (eVar 10) (eVar 11)) eNil))) [11]) eNil)))
    (sSeq (sAsg (.nm 6) (eLst (eCons (eCall 2 F_arrangements (eCons (eVar 9) (eCons (eVar 3) eNil))) (eCons (eCall 2 F_possible (eCons (eVar 9) (eCons (eVar 3) eNil))) (eCons (eCall 2 F_is_sure (eCons (eVar 9) (eCons (eVar 3) eNil))) eNil)))))
    (sSeq (sIf (bNot (eT (eCall 2 (F_law_alike 6) (eCons (eVar 6) (eCons (eLst (eCons (eVar 5) (eCons (eFn oTuple (eCons (eSortKeys (eVar 10)) eNil)) (eCons (eOp oEq (eFn oLenN (eCons (eVar 10) eNil)) (eC (.int 1))) eNil)))) eNil))))) (sSeq (sRet (eC (.bl false)))
    sNil) sNil)
    (sSeq (sPar 12 13 (eCons (eCall 2 F_law_taken (eCons (eVar 1) (eCons (eC (.int 3)) eNil))) (eCons (eLst eNil) eNil)))
    (sSeq (sFor (iRng1 (eCons (eC (.int 27)) eNil)) (.nm 7) (sSeq (sAsg (.nm 14) (eFn oTuple (eCons (eSl (eLst (eCons (eOp oFdiv (eVar 7) (eC (.int 9))) (eCons (eOp oMod (eFn oInt1 (eCons (eOp oFdiv (eVar 7) (eC (.int 3))) eNil)) (eC (.int 3))) (eCons (eOp oMod (eFn oInt1 (eCons (eVar 7) eNil)) (eC (.int 3))) eNil)))) (ePart (eOp oSub (eC (.int 3)) (eVar 2))) eNoPart) eNil)))
    (sSeq (sIf (bAnd (eB (eOp oLe (eFn oMaxI (eCons (eVar 14) eNil)) (eVar 12))) (bAnd (eB (eOp oNotIn (eVar 14) (eVar 13))) (bOr (eB (eOp oEq (eVar 2) (eC (.int 3)))) (eB (eOp oLt (eVar 7) (eOp oIx (eLst (eCons (eC (.int 3)) (eCons (eC (.int 9)) eNil))) (eOp oSub (eVar 2) (eC (.int 1))))))))) (sSeq (sAsg (.nm 19) (eLc (iSeq (eCall 1 (F_law_all 12) (eCons (eVar 14) eNil))) (.nm 4) bYes (eOp oIx (eOp oIx (eVar 9) (eC (.int 2))) (eCall 2 F_law_state (eCons (eVar 9) (eCons (eVar 4) eNil)))) [4]))
    (sSeq (sAsg (.nm 13) (eIf (eB (eOp oEq (eUn oLenSetX (eVar 19)) (eC (.int 1)))) (eOp oAdd (eVar 13) (eLst (eCons (eVar 14) eNil))) (eVar 13)))
    sNil)) sNil)
    sNil)))
    (sSeq (sIf (bNot (eT (eCall 2 (F_law_alike 6) (eCons (eCall 2 F_sure_counts (eCons (eVar 9) (eCons (eVar 12) eNil))) (eCons (eFn oTuple (eCons (eFn oSortM (eCons (eVar 13) eNil)) eNil)) eNil))))) (sSeq (sRet (eC (.bl false)))
    sNil) sNil)
    (sSeq (sIf (bAnd (eT (eCall 2 F_can_keep (eCons (eC (.str (Str.ofString "in"))) (eCons (eVar 9) eNil)))) (eB (eOp oNe (eFn oLenN (eCons (eCall 2 F_sure_counts (eCons (eVar 9) (eCons (eC (.int 2)) eNil))) eNil)) (eOp oIx (eLst (eCons (eC (.int 3)) (eCons (eC (.int 9)) (eCons (eC (.int 27)) eNil)))) (eOp oSub (eVar 2) (eC (.int 1))))))) (sSeq (sRet (eC (.bl false)))
    sNil) sNil)
    (sSeq (sPar3 15 16 17 (eCons (eFn oTuple (eCons (eLc (iRng1 (eCons (eVar 2) eNil)) (.nm 8) bYes (eCall 2 F_law_taken (eCons (eVar 1) (eCons (eC (.int 21)) eNil))) [8]) eNil)) (eCons (eC (.int 0)) (eCons (eC (.int 1)) eNil))))
    (sSeq (sFor (iRng1 (eCons (eVar 2) eNil)) (.nm 8) (sSeq (sFor (iRng1 (eCons (eOp oIx (eVar 15) (eVar 8)) eNil)) (.nm 18) (sSeq (sAsg (.nm 16) (eOp oAdd (eVar 16) (eC (.int 1))))
    (sSeq (sAsg (.nm 17) (eOp oFdiv (eOp oMul (eVar 17) (eVar 16)) (eOp oAdd (eVar 18) (eC (.int 1)))))
    sNil)))
    sNil))
    (sSeq (sRet (eOp oEq (eFn oSumI (eCons (eLc (iSeq (eCall 2 F_arrangements (eCons (eVar 9) (eCons (eVar 15) eNil)))) (.tp [(.nm 11), (.nm 20)]) bYes (eVar 20) [11, 20]) eNil)) (eVar 17)))
    sNil)))))))))))))))
def F_law : On' := defA 21 S_law
set_option maxHeartbeats 16000000 in
theorem ok_law {fa : Addr} {fd : FuncData} (T : Txt w K mg) (G_law_taken : FnX P w K mg Tb base "_law_taken" 1 2 F_law_taken) (G_law_pick : FnX P w K mg Tb base "_law_pick" 2 2 F_law_pick) (G_law_question : FnX P w K mg Tb base "_law_question" 2 3 F_law_question) (G_law_counting : FnX P w K mg Tb base "_law_counting" 2 2 F_law_counting) (G_law_all : FnX P w K mg Tb base "_law_all" 12 1 (F_law_all 12)) (G_law_state : FnX P w K mg Tb base "_law_state" 1 2 F_law_state) (G_arrangements : FnX P w K mg Tb base "arrangements" 5 2 F_arrangements) (G_possible : FnX P w K mg Tb base "possible" 6 2 F_possible) (G_is_sure : FnX P w K mg Tb base "is_sure" 6 2 F_is_sure) (G_law_alike : FnX P w K mg Tb base "_law_alike" 6 2 (F_law_alike 6)) (G_sure_counts : FnX P w K mg Tb base "sure_counts" 5 2 F_sure_counts) (G_can_keep : FnX P w K mg Tb base "can_keep" 5 2 F_can_keep) (F : Fun K "law" "law" s_law fa fd) : FnOk P w K mg base (L2.CX P w) 13 fa fd ["script"] (spA ⟨mg, ⟨w, K, mg, Tb⟩⟩ 1 F_law) := by
  refine fn_A (k := 12) F sc_law (fun cdv A outer s₀ H E hr => ?_)
  unfold S_law
  exact (ass_cons (as_set 1 sc_law.nd (ae_lst (aa_cons (ae_v 0) (aa_cons ae_int (aa_cons ae_int (aa_cons ae_int aa_nil))))))
    (ass_cons (as_set 2 sc_law.nd (ae_op op_addA ae_int (ae_callX G_law_taken (hr.mono (by first | decide | omega)) (takes_of rfl rfl rfl rfl) (aa_cons (ae_v 1) (aa_cons ae_int aa_nil)))))
    (ass_cons (as_asg (ae_tup (aa_cons (ae_callX G_law_pick (hr.mono (by first | decide | omega)) (takes_of rfl rfl rfl rfl) (aa_cons (ae_v 1) (aa_cons (ae_lst (aa_cons (ae_callX G_law_question (hr.mono (by first | decide | omega)) (takes_of rfl rfl rfl rfl) (aa_cons (ae_v 1) (aa_cons (ae_v 2) (aa_cons ae_int aa_nil)))) (aa_cons (ae_callX G_law_counting (hr.mono (by first | decide | omega)) (takes_of rfl rfl rfl rfl) (aa_cons (ae_v 1) (aa_cons (ae_v 2) aa_nil))) aa_nil))) aa_nil))) (aa_cons ae_newK aa_nil))) (ag_tp rfl (ags_cons (ag_nm 9 sc_law.nd) (ags_cons (ag_nm 10 sc_law.nd) ags_nil))))
    (ass_cons (as_set 3 sc_law.nd (ae_Ty cr_tuple T.b_tuple (aa_cons (ae_lc [("k", 8)] rfl sc_law.nd (blkOk_by rfl) (by decide) (ai_rng1 T.b_range (aa_cons (ae_v 2) aa_nil)) (fun _ _ _ _ _ => (ag_nm 8 sc_law.nd)) (fun _ _ _ _ _ => ats_nil) (fun _ _ _ _ _ => (ae_callX G_law_taken (hr.mono (by first | decide | omega)) takes0 (aa_cons (ae_v 1) (aa_cons ae_int aa_nil))))) aa_nil)))
    (ass_cons (as_for (passes_of rfl) rfl (ai_seq (ae_callX G_law_all (hr.mono (by first | decide | omega)) (takes_of rfl rfl rfl rfl) (aa_cons (ae_v 3) aa_nil))) (ag_nm 4 sc_law.nd) (ass_cons (as_set 11 sc_law.nd (ae_ix (ae_ix (ae_v 9) ae_int) (ae_callX G_law_state (hr.mono (by first | decide | omega)) (takes_of rfl rfl rfl rfl) (aa_cons (ae_v 9) (aa_cons (ae_v 4) aa_nil)))))
    (ass_cons (as_dput (hu1 hr) (ae_v 10) (ae_v 11) (ae_op op_addA (ae_get2 (hu1 hr) (ae_v 10) (ae_v 11) ae_int) ae_int))
    ass_nil)))
    (ass_cons (as_set 5 sc_law.nd (ae_Ty cr_tuple T.b_tuple (aa_cons (ae_lc [("one", 11)] rfl sc_law.nd (blkOk_by rfl) (by decide) (ai_seq (ae_sortKeys rfl T.b_sorted (ae_v 10))) (fun _ _ _ _ _ => (ag_nm 11 sc_law.nd)) (fun _ _ _ _ _ => ats_nil) (fun _ _ _ _ _ => (ae_tup (aa_cons (ae_v 11) (aa_cons (ae_dget (hu1 hr) (ae_v 10) (ae_v 11)) aa_nil))))) aa_nil)))
    (ass_cons (as_set 6 sc_law.nd (ae_lst (aa_cons (ae_callX G_arrangements (hr.mono (by first | decide | omega)) (takes_of rfl rfl rfl rfl) (aa_cons (ae_v 9) (aa_cons (ae_v 3) aa_nil))) (aa_cons (ae_callX G_possible (hr.mono (by first | decide | omega)) (takes_of rfl rfl rfl rfl) (aa_cons (ae_v 9) (aa_cons (ae_v 3) aa_nil))) (aa_cons (ae_callX G_is_sure (hr.mono (by first | decide | omega)) (takes_of rfl rfl rfl rfl) (aa_cons (ae_v 9) (aa_cons (ae_v 3) aa_nil))) aa_nil)))))
    (ass_cons (as_if (at_not (at_val (ae_callX G_law_alike (hr.mono (by first | decide | omega)) (takes_of rfl rfl rfl rfl) (aa_cons (ae_v 6) (aa_cons (ae_lst (aa_cons (ae_v 5) (aa_cons (ae_Ty cr_tuple T.b_tuple (aa_cons (ae_sortKeys rfl T.b_sorted (ae_v 10)) aa_nil)) (aa_cons (ae_cmp (op_eqA (hu64 hr)) (ae_B cr_lenN T.b_len (aa_cons (ae_v 10) aa_nil)) ae_int) aa_nil)))) aa_nil))))) (ass_cons (as_ret ae_bl)
    ass_nil) ass_nil)
    (ass_cons (as_par 12 13 rfl sc_law.nd (aa_cons (ae_callX G_law_taken (hr.mono (by first | decide | omega)) (takes_of rfl rfl rfl rfl) (aa_cons (ae_v 1) (aa_cons ae_int aa_nil))) (aa_cons (ae_lst aa_nil) aa_nil)))
    (ass_cons (as_for (passes_of rfl) rfl (ai_rng1 T.b_range (aa_cons ae_int aa_nil)) (ag_nm 7 sc_law.nd) (ass_cons (as_set 14 sc_law.nd (ae_Ty cr_tuple T.b_tuple (aa_cons (ae_sl (ae_lst (aa_cons (ae_op op_fdivA (ae_v 7) ae_int) (aa_cons (ae_op op_modA (ae_Ty cr_int T.b_int (aa_cons (ae_op op_fdivA (ae_v 7) ae_int) aa_nil)) ae_int) (aa_cons (ae_op op_modA (ae_Ty cr_int T.b_int (aa_cons (ae_v 7) aa_nil)) ae_int) aa_nil)))) (ap_some (ae_op op_subA ae_int (ae_v 2))) ap_none) aa_nil)))
    (ass_cons (as_if (AW.at (aw_and (at_cmp (op_leA) (ae_B (cr_maxI rfl) T.b_max (aa_cons (ae_v 14) aa_nil)) (ae_v 12)) (aw_and (at_cmp (op_notInA (hu65 hr)) (ae_v 14) (ae_v 13)) (aw_and1 (AW.at (aw_or (at_cmp (op_eqA (hu64 hr)) (ae_v 2) ae_int) (aw_or1 (at_cmp (op_ltA) (ae_v 7) (ae_ix (ae_lst (aa_cons ae_int (aa_cons ae_int aa_nil))) (ae_op op_subA (ae_v 2) ae_int)))))))))) (ass_cons (as_setLc 19 [("text", 4)] rfl sc_law.nd (sw_true rfl rfl rfl (by decide +kernel)) (blkOk_by rfl) (by decide) (ai_seq (ae_callX G_law_all (hr.mono (by first | decide | omega)) (takes_of rfl rfl rfl rfl) (aa_cons (ae_v 14) aa_nil))) (fun _ _ _ _ _ => (ag_nm 4 sc_law.nd)) (fun _ _ _ _ _ => ats_nil) (fun _ _ _ _ _ => (ae_ix (ae_ix (ae_v 9) ae_int) (ae_callX G_law_state (hr.mono (by first | decide | omega)) takes0 (aa_cons (ae_v 9) (aa_cons (ae_v 4) aa_nil))))))
    (ass_cons (as_set 13 sc_law.nd (ae_if (at_cmp (op_eqA (hu64 hr)) (ae_lenSetX T.b_len T.b_set (ae_v 19)) ae_int) (ae_op op_addA (ae_v 13) (ae_lst (aa_cons (ae_v 14) aa_nil))) (ae_v 13)))
    ass_nil)) ass_nil)
    ass_nil)))
    (ass_cons (as_if (at_not (at_val (ae_callX G_law_alike (hr.mono (by first | decide | omega)) (takes_of rfl rfl rfl rfl) (aa_cons (ae_callX G_sure_counts (hr.mono (by first | decide | omega)) (takes_of rfl rfl rfl rfl) (aa_cons (ae_v 9) (aa_cons (ae_v 12) aa_nil))) (aa_cons (ae_Ty cr_tuple T.b_tuple (aa_cons (ae_B (cr_sortM (hu64 hr)) T.b_sorted (aa_cons (ae_v 13) aa_nil)) aa_nil)) aa_nil))))) (ass_cons (as_ret ae_bl)
    ass_nil) ass_nil)
    (ass_cons (as_if (AW.at (aw_and (at_val (ae_callX G_can_keep (hr.mono (by first | decide | omega)) (takes_of rfl rfl rfl rfl) (aa_cons ae_str (aa_cons (ae_v 9) aa_nil)))) (aw_and1 (at_cmp (op_neA (hu64 hr)) (ae_B cr_lenN T.b_len (aa_cons (ae_callX G_sure_counts (hr.mono (by first | decide | omega)) (takes_of rfl rfl rfl rfl) (aa_cons (ae_v 9) (aa_cons ae_int aa_nil))) aa_nil)) (ae_ix (ae_lst (aa_cons ae_int (aa_cons ae_int (aa_cons ae_int aa_nil)))) (ae_op op_subA (ae_v 2) ae_int)))))) (ass_cons (as_ret ae_bl)
    ass_nil) ass_nil)
    (ass_cons (as_par3 15 16 17 rfl sc_law.nd (aa_cons (ae_Ty cr_tuple T.b_tuple (aa_cons (ae_lc [("k", 8)] rfl sc_law.nd (blkOk_by rfl) (by decide) (ai_rng1 T.b_range (aa_cons (ae_v 2) aa_nil)) (fun _ _ _ _ _ => (ag_nm 8 sc_law.nd)) (fun _ _ _ _ _ => ats_nil) (fun _ _ _ _ _ => (ae_callX G_law_taken (hr.mono (by first | decide | omega)) takes0 (aa_cons (ae_v 1) (aa_cons ae_int aa_nil))))) aa_nil)) (aa_cons ae_int (aa_cons ae_int aa_nil))))
    (ass_cons (as_for (passes_of rfl) rfl (ai_rng1 T.b_range (aa_cons (ae_v 2) aa_nil)) (ag_nm 8 sc_law.nd) (ass_cons (as_for (passes_of rfl) rfl (ai_rng1 T.b_range (aa_cons (ae_ix (ae_v 15) (ae_v 8)) aa_nil)) (ag_nm 18 sc_law.nd) (ass_cons (as_set 16 sc_law.nd (ae_op op_addA (ae_v 16) ae_int))
    (ass_cons (as_set 17 sc_law.nd (ae_op op_fdivA (ae_op op_mulA (ae_v 17) (ae_v 16)) (ae_op op_addA (ae_v 18) ae_int)))
    ass_nil)))
    ass_nil))
    (ass_cons (as_ret (ae_cmp (op_eqA (hu64 hr)) (ae_B (cr_sumI rfl) T.b_sum (aa_cons (ae_lc [("one", 11), ("many", 20)] rfl sc_law.nd (blkOk_by rfl) (by decide) (ai_seq (ae_callX G_arrangements (hr.mono (by first | decide | omega)) (takes_of rfl rfl rfl rfl) (aa_cons (ae_v 9) (aa_cons (ae_v 15) aa_nil)))) (fun _ _ _ _ _ => (ag_tp rfl (ags_cons (ag_nm 11 sc_law.nd) (ags_cons (ag_nm 20 sc_law.nd) ags_nil)))) (fun _ _ _ _ _ => ats_nil) (fun _ _ _ _ _ => (ae_v 20))) aa_nil)) (ae_v 17)))
    ass_nil)))))))))))))))
end
end P66
namespace P66
open PySem PySem.Spec PyProof.Rows L2 AB
/-! ### data -/
abbrev nI (n : Nat) : A := .int n
abbrev tI (xs : List Nat) : A := .tup (xs.map nI)
structure Qn where
  L : Nat
  st : List (List Nat)
  an : List Nat
deriving DecidableEq
def Qn.A (q : Qn) : A := .tup [nI q.L, .tup (q.st.map tI), tI q.an]
structure Qn.Ok (q : Qn) : Prop where
  l1 : 1 ≤ q.L
  l3 : q.L ≤ 3
  n1 : 1 ≤ q.st.length
  n40 : q.st.length ≤ 40
  row : ∀ r ∈ q.st, r.length = q.L ∧ ∀ x ∈ r, x < q.st.length
  an : q.an.length = q.st.length
  a3 : ∀ x ∈ q.an, x ≤ 3
def Qn.d (q : Qn) (s l : Nat) : Nat := (q.st.getD s []).getD l 0
def Qn.o (q : Qn) (s : Nat) : Nat := q.an.getD s 0
def Qn.run (q : Qn) (s : Nat) (w : List Nat) : Nat := w.foldl q.d s
theorem Qn.Ok.d_lt {q : Qn} (h : q.Ok) {s l : Nat} (hs : s < q.st.length) (hl : l < q.L) : q.d s l < q.st.length := by
  have hr := h.row q.st[s] (List.getElem_mem hs)
  unfold Qn.d
  rw [show q.st.getD s [] = q.st[s] by rw [List.getD_eq_getElem?_getD, List.getElem?_eq_getElem hs]; rfl]
  rw [List.getD_eq_getElem?_getD, List.getElem?_eq_getElem (by omega)]
  exact hr.2 _ (List.getElem_mem _)
theorem Qn.Ok.run_lt {q : Qn} (h : q.Ok) : ∀ (w : List Nat) {s : Nat}, s < q.st.length → (∀ l ∈ w, l < q.L) → q.run s w < q.st.length
  | [], _, hs, _ => hs
  | l :: w, s, hs, hw => h.run_lt w (h.d_lt hs (hw l (by simp))) fun x hx => hw x (by simp [hx])
section
variable {q : Qn} {M : Store} {s l : Nat}
theorem ixQ0 : oIx q.A (.int 0) M = some (nI q.L, M) := rfl
theorem ixQ1 : oIx q.A (.int 1) M = some (.tup (q.st.map tI), M) := rfl
theorem ixQ2 : oIx q.A (.int 2) M = some (tI q.an, M) := rfl
theorem ixRow (h : q.Ok) (hs : s < q.st.length) : oIx (.tup (q.st.map tI)) (nI s) M = some (tI (q.st.getD s []), M) :=
  ix_tup (by rw [List.getElem?_map, List.getD_eq_getElem?_getD, List.getElem?_eq_getElem hs]; rfl)
theorem ixD (h : q.Ok) (hs : s < q.st.length) (hl : l < q.L) : oIx (tI (q.st.getD s [])) (nI l) M = some (nI (q.d s l), M) := by
  have hr := h.row q.st[s] (List.getElem_mem hs)
  refine ix_tup ?_
  unfold Qn.d
  rw [List.getElem?_map, List.getD_eq_getElem?_getD, List.getElem?_eq_getElem hs]
  show Option.map nI (q.st[s])[l]? = some (nI (q.st[s].getD l 0))
  rw [List.getD_eq_getElem?_getD, List.getElem?_eq_getElem (by omega)]
  rfl
theorem ixO (h : q.Ok) (hs : s < q.st.length) : oIx (tI q.an) (nI s) M = some (nI (q.o s), M) := by
  have := h.an
  refine ix_tup ?_
  unfold Qn.o
  rw [List.getElem?_map, List.getD_eq_getElem?_getD, List.getElem?_eq_getElem (by omega)]
  rfl
end
/-! ### led, state_from -/
end P66
namespace P66
open PySem PySem.Spec PyProof.Rows L2 AB
section
variable {M : Store} {i j : Int} {xs : List A}
theorem isi_int : oIsi [.int i, .ty "int"] M = some (.bl true, M) := by simp [oIsi, tyOf?, isiT]
theorem isi_int_bool : oIsi [.int i, .ty "bool"] M = some (.bl false, M) := by simp [oIsi, tyOf?, isiT]
theorem isi_tup : oIsi [.tup xs, .ty "tuple"] M = some (.bl true, M) := by simp [oIsi, tyOf?, isiT]
theorem sizeLine_eq : sizeLine = 16777216 := rfl
theorem ne_int : oNe (.int i) (.int j) M = some (.bl (decide (i ≠ j)), M) := by
  show some (A.bl (!PyData.eqv (.int i) (.int j)), M) = _
  unfold PyData.eqv
  by_cases h : i = j <;> simp [h]
theorem eq_int : oEq (.int i) (.int j) M = some (.bl (decide (i = j)), M) := by
  show some (A.bl (PyData.eqv (.int i) (.int j)), M) = _
  unfold PyData.eqv
  by_cases h : i = j <;> simp [h]
end
theorem is_number_ok {M : Store} {n lo hi : Nat} (h1 : lo ≤ n) (h2 : n ≤ hi) : (F_is_number [nI n, nI lo, nI hi] M).W fun a M' => a = .bl true ∧ M' = M := by
  refine w_def ?_
  unfold S_is_number
  repeat walk_at "ws"
  refine w_toE isi_int ⟨true, rfl, ?_⟩
  rw [if_pos rfl]
  repeat walk_at "ws"
  refine w_toE isi_int_bool ⟨false, rfl, ⟨true, rfl, ?_⟩⟩
  rw [if_pos rfl]
  repeat walk_at "ws"
  refine w_toE rfl ⟨true, by simp; exact h1, ?_⟩
  rw [if_pos rfl]
  repeat walk_at "ws"
  exact w_toE rfl ⟨by simp; exact h2, rfl⟩
theorem bls_true : ∀ xs : List Nat, bls? (xs.map fun _ => A.bl true) = some (xs.map fun _ => true)
  | [] => rfl
  | x :: xs => by
    show (bls? (xs.map fun _ => A.bl true)).map (true :: ·) = _
    rw [bls_true xs]
    rfl
theorem all_true {M : Store} {l : Nat} {α : Type} (f : α → A) {xs : List α} (h : listAt M l = some (xs.map f)) (hf : ∀ x ∈ xs, f x = .bl true) : oAll [.lst l] M = some (.bl true, M) := by
  have e : ∀ xs : List α, (∀ x ∈ xs, f x = .bl true) → bls? (xs.map f) = some (xs.map fun _ => true) := by
    intro xs
    induction xs with
    | nil => intro _; rfl
    | cons x xs ih =>
      intro h
      show bls? (f x :: xs.map f) = _
      rw [h x (by simp)]
      show (bls? (xs.map f)).map (true :: ·) = _
      rw [ih fun y hy => h y (by simp [hy])]
      rfl
  show ((listAt M l).bind bls?).map _ = _
  rw [h]
  show (bls? (xs.map f)).map _ = _
  rw [e xs hf]
  simp
theorem are_numbers_ok {M : Store} {xs : List Nat} {hi : Nat} (hz : xs.length ≤ 1000) (h : ∀ x ∈ xs, x ≤ hi) : (F_are_numbers [tI xs, nI xs.length, nI hi] M).W fun a M' => a = .bl true ∧ Pre M M' := by
  refine w_def ?_
  unfold S_are_numbers
  repeat walk_at "ws"
  refine w_toE isi_tup ⟨true, rfl, ?_⟩
  rw [if_neg (by decide)]
  repeat walk_at "ws"
  refine w_toE rfl ?_
  repeat walk_at "ws"
  refine w_toE ne_int ⟨false, by simp, ?_⟩
  rw [if_neg (by decide)]
  repeat walk_at "ws"
  refine w_lc_map (fun _ => A.bl true) (w_iSeqT ?_)
  walk_at "ws"
  refine ⟨_, rfl, _, rfl, by rw [List.length_map, sizeLine_eq]; omega, fun M2 _ i => rfl, fun x M2 hx p => ?_, fun l M2 hl p h2 => ?_⟩
  · obtain ⟨n, hn, rfl⟩ := List.mem_map.mp hx
    refine ⟨_, rfl, ?_⟩
    repeat walk_at "ws"
    refine ⟨rfl, (is_number_ok (lo := 0) (Nat.zero_le _) (h n hn)).imp fun a M3 e => ⟨e.1, ?_⟩⟩
    rw [e.2]
    exact Fr.refl
  · walk_at "ws"
    refine w_toE (all_true (fun _ => A.bl true) (xs := xs.map nI) (listAt_of h2) fun _ _ => rfl) ⟨rfl, p⟩
theorem are_steps_ok {M : Store} {q : Qn} (h : q.Ok) : (F_are_steps [.tup (q.st.map tI), nI q.L] M).W fun a M' => a = .bl true ∧ Pre M M' := by
  have h1 := h.n1
  have h40 := h.n40
  refine w_def ?_
  unfold S_are_steps
  repeat walk_at "ws"
  refine w_toE isi_tup ⟨true, rfl, ?_⟩
  rw [if_neg (by decide)]
  repeat walk_at "ws"
  refine w_toE rfl ?_
  refine w_toE rfl ⟨true, by simp; omega, ?_⟩
  rw [if_pos rfl]
  repeat walk_at "ws"
  refine w_toE rfl ⟨true, by simp; omega, ?_⟩
  rw [if_neg (by decide)]
  repeat walk_at "ws"
  refine w_lc_map (fun _ => A.bl true) (w_iSeqT ?_)
  walk_at "ws"
  refine ⟨_, rfl, _, rfl, by rw [List.length_map, sizeLine_eq]; omega, fun M2 _ i => rfl, fun x M2 hx p => ?_, fun l M2 hl p h2 => ?_⟩
  · obtain ⟨r, hr, rfl⟩ := List.mem_map.mp hx
    have hr2 := h.row r hr
    refine ⟨_, rfl, ?_⟩
    repeat walk_at "ws"
    refine w_toE rfl ?_
    repeat walk_at "ws"
    refine w_toE rfl ?_
    walk_at "ws"
    refine ⟨rfl, ?_⟩
    have e : [tI r, nI q.L, A.int ((((q.st.map tI).length : Nat) : Int) - 1)] = [tI r, nI r.length, nI (q.st.length - 1)] := by
      rw [hr2.1, List.length_map]
      simp only [nI]
      congr 4
      omega
    rw [e]
    exact are_numbers_ok (by rw [hr2.1]; have := h.l3; omega) fun x hx => by have := hr2.2 x hx; omega
  · walk_at "ws"
    refine w_toE (all_true (fun _ => A.bl true) (xs := q.st.map tI) (listAt_of h2) fun _ _ => rfl) ⟨rfl, p⟩
theorem check_question_ok {M : Store} {q : Qn} (h : q.Ok) : (F_check_question [q.A] M).W fun a M' => a = .non ∧ Pre M M' := by
  have h1 := h.n1
  have h40 := h.n40
  refine w_def ?_
  unfold S_check_question
  repeat walk_at "ws"
  refine w_toE isi_tup ⟨true, rfl, ?_⟩
  rw [if_neg (by decide)]
  repeat walk_at "ws"
  refine w_toE rfl ?_
  repeat walk_at "ws"
  refine w_toE ne_int ⟨false, by simp, ?_⟩
  rw [if_neg (by decide)]
  repeat walk_at "ws"
  refine ⟨_, rfl, ?_⟩
  repeat walk_at "ws"
  refine ⟨rfl, (is_number_ok (lo := 1) (hi := 3) h.l1 h.l3).imp ?_⟩
  rintro _ _ ⟨rfl, rfl⟩
  refine ⟨true, rfl, ?_⟩
  rw [if_neg (by decide)]
  repeat walk_at "ws"
  refine ⟨rfl, (are_steps_ok h).imp ?_⟩
  rintro _ M1 ⟨rfl, p1⟩
  refine ⟨true, rfl, ?_⟩
  rw [if_neg (by decide)]
  repeat walk_at "ws"
  refine w_toE rfl ?_
  repeat walk_at "ws"
  refine ⟨rfl, ?_⟩
  rw [show [tI q.an, A.int ((q.st.map tI).length : Nat), A.int 3] = [tI q.an, nI q.an.length, nI 3] by rw [List.length_map, h.an]; rfl]
  refine (are_numbers_ok (by rw [h.an]; omega) h.a3).imp ?_
  rintro _ M2 ⟨rfl, p2⟩
  refine ⟨true, rfl, ?_⟩
  rw [if_neg (by decide)]
  repeat walk_at "ws"
  exact ⟨rfl, p1.trans p2⟩
end P66
namespace P66
open PySem PySem.Spec PyProof.Rows L2 AB
/-! ### alike -/
abbrev tl : A := .tup [.ty "tuple", .ty "list"]
section
variable {M : Store} {i j : Int} {xs ys : List A} {b c : Bool} {l k : Nat}
theorem isiA_int : oIsi [.int i, tl] M = some (.bl false, M) := by simp [oIsi, tyOf?, isiT, isiAny]
theorem isiA_bl : oIsi [.bl b, tl] M = some (.bl false, M) := by simp [oIsi, tyOf?, isiT, isiAny]
theorem isiA_non : oIsi [.non, tl] M = some (.bl false, M) := by simp [oIsi, tyOf?, isiT, isiAny]
theorem isiA_tup : oIsi [.tup xs, tl] M = some (.bl true, M) := by simp [oIsi, tyOf?, isiT, isiAny]
theorem isiA_lst (h : listAt M l = some xs) : oIsi [.lst l, tl] M = some (.bl true, M) := by simp [oIsi, tyOf?, isiT, isiAny, h]
theorem isi_tup_list : oIsi [.tup xs, .ty "list"] M = some (.bl false, M) := by simp [oIsi, tyOf?, isiT]
theorem isi_lst_list (h : listAt M l = some xs) : oIsi [.lst l, .ty "list"] M = some (.bl true, M) := by simp [oIsi, tyOf?, isiT, h]
theorem isi_int_str : oIsi [.int i, .ty "str"] M = some (.bl false, M) := by simp [oIsi, tyOf?, isiT]
theorem isi_bl_str : oIsi [.bl b, .ty "str"] M = some (.bl false, M) := by simp [oIsi, tyOf?, isiT]
theorem isi_non_str : oIsi [.non, .ty "str"] M = some (.bl false, M) := by simp [oIsi, tyOf?, isiT]
theorem isi_bl_int : oIsi [.bl b, .ty "int"] M = some (.bl true, M) := by simp [oIsi, tyOf?, isiT]
theorem isi_bl_bool : oIsi [.bl b, .ty "bool"] M = some (.bl true, M) := by simp [oIsi, tyOf?, isiT]
theorem ne_bl : oNe (.bl b) (.bl c) M = some (.bl (b != c), M) := by
  show some (A.bl (!PyData.eqv (.bool b) (.bool c)), M) = _
  unfold PyData.eqv
  cases b <;> cases c <;> rfl
theorem eq_bl : oEq (.bl b) (.bl c) M = some (.bl (b == c), M) := by
  show some (A.bl (PyData.eqv (.bool b) (.bool c)), M) = _
  unfold PyData.eqv
  cases b <;> cases c <;> rfl
theorem eq_non : oEq .non .non M = some (.bl true, M) := by
  show some (A.bl (PyData.eqv .none .none), M) = _
  unfold PyData.eqv
  rfl
theorem datS_nil (h : listAt M l = some []) : datS M (.lst l) = some (.list []) := by
  have e : dat M 8 (.lst l) = some (.list []) := by
    show ((listAt M l).bind fun xs => (xs.mapM (dat M 7)).map PyData.list) = _
    rw [h]
    rfl
  unfold datS
  rw [e]
  rfl
theorem eq_nil (h : listAt M l = some []) (h2 : listAt M k = some []) : oEq (.lst l) (.lst k) M = some (.bl true, M) := by
  unfold oEq
  rw [datS_nil h, datS_nil h2]
  dsimp only
  unfold PyData.eqv PyData.eqvAll
  rfl
end
theorem alike_int {n : Nat} {M : Store} {i : Int} : (F_law_alike (n + 1) [.int i, .int i] M).W fun a M' => a = .bl true ∧ Pre M M' := by
  refine w_def ?_
  unfold S_law_alike
  repeat walk_at "ws"
  refine ⟨by decide, ?_⟩
  walk_at "ws"
  exact w_toE isiA_int ⟨false, rfl, by
    rw [if_neg (by decide)]
    repeat walk_at "ws"
    refine w_toE rfl ⟨false, rfl, ?_⟩
    rw [if_neg (by decide)]
    repeat walk_at "ws"
    refine w_toE isi_int_str ⟨false, rfl, ?_⟩
    rw [if_neg (by decide)]
    repeat walk_at "ws"
    refine w_toE isi_int ⟨true, rfl, ?_⟩
    rw [if_pos rfl]
    repeat walk_at "ws"
    refine w_toE isi_int_bool ?_
    repeat walk_at "ws"
    refine w_toE isi_int_bool ?_
    refine w_toE eq_bl ⟨true, rfl, ?_⟩
    rw [if_pos rfl]
    repeat walk_at "ws"
    refine w_toE eq_int ⟨by simp, Fr.refl⟩⟩
theorem alike_bl {n : Nat} {M : Store} {b : Bool} : (F_law_alike (n + 1) [.bl b, .bl b] M).W fun a M' => a = .bl true ∧ Pre M M' := by
  refine w_def ?_
  unfold S_law_alike
  repeat walk_at "ws"
  refine ⟨by decide, ?_⟩
  walk_at "ws"
  exact w_toE isiA_bl ⟨false, rfl, by
    rw [if_neg (by decide)]
    repeat walk_at "ws"
    refine w_toE rfl ⟨false, rfl, ?_⟩
    rw [if_neg (by decide)]
    repeat walk_at "ws"
    refine w_toE isi_bl_str ⟨false, rfl, ?_⟩
    rw [if_neg (by decide)]
    repeat walk_at "ws"
    refine w_toE isi_bl_int ⟨true, rfl, ?_⟩
    rw [if_pos rfl]
    repeat walk_at "ws"
    refine w_toE isi_bl_bool ?_
    repeat walk_at "ws"
    refine w_toE isi_bl_bool ?_
    refine w_toE eq_bl ⟨true, rfl, ?_⟩
    rw [if_pos rfl]
    repeat walk_at "ws"
    refine w_toE eq_bl ⟨by simp, Fr.refl⟩⟩
theorem alike_non {n : Nat} {M : Store} : (F_law_alike (n + 1) [.non, .non] M).W fun a M' => a = .bl true ∧ Pre M M' := by
  refine w_def ?_
  unfold S_law_alike
  repeat walk_at "ws"
  refine ⟨by decide, ?_⟩
  walk_at "ws"
  exact w_toE isiA_non ⟨false, rfl, by
    rw [if_neg (by decide)]
    repeat walk_at "ws"
    refine w_toE rfl ⟨true, rfl, ?_⟩
    rw [if_pos rfl, if_pos rfl]
    repeat walk_at "ws"
    refine w_toE eq_non ⟨true, rfl, ?_⟩
    rw [if_pos rfl]
    repeat walk_at "ws"
    refine w_toE isi_non_str ?_
    repeat walk_at "ws"
    refine w_toE isi_non_str ?_
    refine w_toE eq_bl ⟨rfl, Fr.refl⟩⟩
def zmax : Nat := 10000
theorem zmax_eq : zmax = 10000 := rfl
theorem not_yes {x : Bool} (h : x = true) : (!x) = false := by rw [h]; rfl
theorem alike_tup {n : Nat} {M : Store} {xs : List A} (hz : xs.length ≤ zmax) (h : ∀ x ∈ xs, ∀ M1 : Store, (F_law_alike n [x, x] M1).W fun a M' => a = .bl true ∧ Pre M1 M') : (F_law_alike (n + 1) [.tup xs, .tup xs] M).W fun a M' => a = .bl true ∧ Pre M M' := by
  refine w_def ?_
  unfold S_law_alike
  repeat walk_at "ws"
  refine ⟨by decide, ?_⟩
  walk_at "ws"
  refine w_toE isiA_tup ⟨true, rfl, ?_⟩
  rw [if_pos rfl]
  repeat walk_at "ws"
  refine ⟨by decide, ?_⟩
  walk_at "ws"
  refine w_toE isiA_tup ⟨true, rfl, ?_⟩
  rw [if_neg (by decide)]
  repeat walk_at "ws"
  refine w_toE isi_tup_list ?_
  repeat walk_at "ws"
  refine w_toE isi_tup_list ?_
  refine w_toE ne_bl ⟨false, rfl, ?_⟩
  rw [if_neg (by decide)]
  repeat walk_at "ws"
  refine w_toE rfl ?_
  repeat walk_at "ws"
  refine w_toE rfl ?_
  refine w_toE ne_int ⟨false, by simp, ?_⟩
  rw [if_neg (by decide)]
  repeat walk_at "ws"
  with_reducible refine w_lc ?_
  with_reducible refine w_rng1 ?_
  repeat walk_at "ws"
  refine w_toE rfl ?_
  walk_at "ws"
  have hz2 := zmax_eq
  refine ⟨xs.length, rfl, by omega, (List.range xs.length).map nI, fun i acc M2 => acc = [] ∧ Pre M M2, by simp [Src.size], by rw [sizeLine_eq]; simp; omega, ⟨rfl, Fr.refl.app _⟩, fun i acc M2 _ => ?_, fun i x acc M2 hx hI hl _ => ?_, fun acc M2 hI hl => ?_⟩
  · show some (if i < xs.length then some (A.int (0 + (i : Nat))) else none) = _
    by_cases hi : i < xs.length
    · rw [if_pos hi, List.getElem?_map, List.getElem?_range hi]
      simp
    · rw [if_neg hi, List.getElem?_eq_none (by simp; omega)]
  · obtain ⟨rfl, p⟩ := hI
    rw [List.getElem?_map] at hx
    obtain ⟨m, hm, rfl⟩ := Option.map_eq_some_iff.mp hx
    have hm2 := List.getElem?_eq_some_iff.mp hm
    obtain ⟨hi, e⟩ := hm2
    rw [List.getElem_range] at e
    rw [List.length_range] at hi
    subst e
    have ex : xs[i]? = some xs[i] := List.getElem?_eq_getElem hi
    refine ⟨_, rfl, ?_⟩
    repeat walk_at "ws"
    refine w_toE (ix_tup ex) ?_
    repeat walk_at "ws"
    refine w_toE (ix_tup ex) ?_
    walk_at "ws"
    refine ⟨rfl, (h xs[i] (List.getElem_mem hi) M2).imp ?_⟩
    rintro _ M3 ⟨rfl, p3⟩
    refine ⟨true, rfl, ?_⟩
    rw [if_neg (by decide)]
    exact ⟨Pre.at p3 hl, rfl, p.trans p3⟩
  · obtain ⟨rfl, p⟩ := hI
    repeat walk_at "ws"
    refine ⟨by decide, w_toE (eq_nil (listAt_of (at_app hl)) (listAt_of at_new)) ⟨rfl, p.app _⟩⟩
theorem alike_ints {n : Nat} {M : Store} {xs : List Nat} (hz : xs.length ≤ zmax) : (F_law_alike (n + 2) [tI xs, tI xs] M).W fun a M' => a = .bl true ∧ Pre M M' :=
  alike_tup (by rw [List.length_map]; exact hz) fun x hx M1 => by
    obtain ⟨m, _, rfl⟩ := List.mem_map.mp hx
    exact alike_int
theorem alike_rows {n : Nat} {M : Store} {xs : List (List Nat)} (hz : xs.length ≤ zmax) (hx : ∀ x ∈ xs, x.length ≤ zmax) : (F_law_alike (n + 3) [.tup (xs.map tI), .tup (xs.map tI)] M).W fun a M' => a = .bl true ∧ Pre M M' :=
  alike_tup (by rw [List.length_map]; exact hz) fun x hx2 M1 => by
    obtain ⟨m, hm, rfl⟩ := List.mem_map.mp hx2
    exact alike_ints (hx m hm)
theorem alike_lst2 {n : Nat} {M : Store} {i j : Int} {l k : Nat} (h1 : listAt M l = some [.int i, .int j]) (h2 : listAt M k = some [.int i, .int j]) : (F_law_alike (n + 2) [.lst l, .lst k] M).W fun a M' => a = .bl true ∧ Pre M M' := by
  refine w_def ?_
  unfold S_law_alike
  repeat walk_at "ws"
  refine ⟨by decide, ?_⟩
  walk_at "ws"
  refine w_toE (isiA_lst h2) ⟨true, rfl, ?_⟩
  rw [if_pos rfl]
  repeat walk_at "ws"
  refine ⟨by decide, ?_⟩
  walk_at "ws"
  refine w_toE (isiA_lst h1) ⟨true, rfl, ?_⟩
  rw [if_neg (by decide)]
  repeat walk_at "ws"
  refine w_toE (isi_lst_list h1) ?_
  repeat walk_at "ws"
  refine w_toE (isi_lst_list h2) ?_
  refine w_toE ne_bl ⟨false, rfl, ?_⟩
  rw [if_neg (by decide)]
  repeat walk_at "ws"
  refine w_toE (len_lst h1) ?_
  repeat walk_at "ws"
  refine w_toE (len_lst h2) ?_
  refine w_toE ne_int ⟨false, by simp, ?_⟩
  rw [if_neg (by decide)]
  repeat walk_at "ws"
  with_reducible refine w_lc ?_
  with_reducible refine w_rng1 ?_
  repeat walk_at "ws"
  refine w_toE (len_lst h2) ?_
  walk_at "ws"
  refine ⟨2, rfl, by omega, [nI 0, nI 1], fun i acc M2 => acc = [] ∧ Pre M M2, by simp [Src.size], by rw [sizeLine_eq]; simp, ⟨rfl, Fr.refl.app _⟩, fun i acc M2 _ => ?_, fun t x acc M2 hx hI hl _ => ?_, fun acc M2 hI hl => ?_⟩
  · match i with
    | 0 => rfl
    | 1 => rfl
    | i + 2 =>
      show some (if i + 2 < 2 then some (A.int (0 + ((i + 2 : Nat) : Int))) else none) = some none
      rw [if_neg (by omega)]
  · obtain ⟨rfl, p⟩ := hI
    have hla : ∀ {l : Nat} {xs : List A}, listAt M l = some xs → listAt M2 l = some xs := by
      intro l xs h
      unfold AB.listAt at h ⊢
      split at h
      · rename_i c hc
        rw [Pre.at p hc]
        exact h
      · cases h
    have hm : (t = 0 ∧ x = nI 0) ∨ (t = 1 ∧ x = nI 1) := by
      match t with
      | 0 => left; exact ⟨rfl, (Option.some.inj hx).symm⟩
      | 1 => right; exact ⟨rfl, (Option.some.inj hx).symm⟩
      | t + 2 => simp at hx
    rcases hm with ⟨rfl, rfl⟩ | ⟨rfl, rfl⟩
    all_goals
      refine ⟨_, rfl, ?_⟩
      repeat walk_at "ws"
      refine w_toE (ix_lst (hla h1) rfl) ?_
      repeat walk_at "ws"
      refine w_toE (ix_lst (hla h2) rfl) ?_
      walk_at "ws"
      refine ⟨rfl, alike_int.imp ?_⟩
      rintro _ M3 ⟨rfl, p3⟩
      refine ⟨true, rfl, ?_⟩
      rw [if_neg (by decide)]
      exact ⟨Pre.at p3 hl, rfl, p.trans p3⟩
  · obtain ⟨rfl, p⟩ := hI
    repeat walk_at "ws"
    refine ⟨by decide, w_toE (eq_nil (listAt_of (at_app hl)) (listAt_of at_new)) ⟨rfl, p.app _⟩⟩
end P66
namespace P66
open PySem PySem.Spec PyProof.Rows L2 AB
/-! ### draws -/
def Row (ns : List Int) (a b c : Int) (M : Store) : Prop := M[0]? = some (.frz (ns.map .int)) ∧ M[1]? = some (.lst [.lst 0, .int a, .int b, .int c])
def RowOk (M : Store) : Prop := ∃ ns a b c, Row ns a b c M ∧ 0 ≤ a ∧ 0 ≤ b ∧ b < 2147483647
theorem RowOk.pre {M M' : Store} (h : RowOk M) (p : Pre M M') : RowOk M' := by
  obtain ⟨ns, a, b, c, ⟨h0, h1⟩, r⟩ := h
  exact ⟨ns, a, b, c, ⟨Pre.at p h0, Pre.at p h1⟩, r⟩
theorem RowOk.app {M : Store} (h : RowOk M) (t : List Cell) : RowOk (M ++ t) := h.pre (Fr.refl.app t)
theorem RowOk.lt {M : Store} (h : RowOk M) : 1 < M.length := by
  obtain ⟨ns, a, b, c, ⟨h0, h1⟩, r⟩ := h
  exact at_lt h1
theorem RowOk.set {M : Store} (h : RowOk M) {l : Nat} {c : Cell} (hl : 1 < l) : RowOk (M.set l c) := by
  obtain ⟨ns, a, b, c, ⟨h0, h1⟩, r⟩ := h
  exact ⟨ns, a, b, c, ⟨at_ne (by omega) h0, at_ne (by omega) h1⟩, r⟩
theorem setL_ok {M : Store} {l i : Nat} {xs : List A} {v : A} (h : M[l]? = some (.lst xs)) (hi : i < xs.length) : oSetL M (.lst l) (nI i) v = some (M.set l (.lst (xs.set i v))) := by
  unfold oSetL
  dsimp only
  rw [h]
  dsimp only
  unfold ixN
  rw [if_pos (by omega), if_pos (by omega)]
  simp
theorem mod_nat (x : Int) {n : Nat} (h : 1 ≤ n) : ∃ k : Nat, k < n ∧ x % (n : Int) = (k : Int) := by
  have h1 := Int.emod_nonneg x (show (n : Int) ≠ 0 by omega)
  have h2 := Int.emod_lt_of_pos x (show (0 : Int) < n by omega)
  exact ⟨(x % (n : Int)).toNat, by omega, by omega⟩
theorem mod_ok {M : Store} {x : Int} {n : Nat} (h : 1 ≤ n) : oMod (.int x) (nI n) M = some (.int (x % n), M) := by
  show (if 0 < (n : Int) then some (A.int (x % n), M) else none) = _
  rw [if_pos (by omega)]
theorem fdiv_ok {M : Store} {x : Int} {n : Nat} (h : 1 ≤ n) (h2 : n ≤ 1000) : oFdiv (.int x) (nI n) M = some (.int (x / n), M) := by
  show (if 0 < (n : Int) ∧ (n : Int) < 1073741824 then some (A.int (x / n), M) else none) = _
  rw [if_pos (by omega)]
theorem mul_ok {M : Store} {x : Int} : oMul (.int x) (.int 48271) M = some (.int (x * 48271), M) := by
  show (if (-(2 ^ 64) < x ∧ x < 2 ^ 64) ∨ (-(2 ^ 64) < (48271 : Int) ∧ (48271 : Int) < 2 ^ 64) then some (A.int (x * 48271), M) else none) = _
  rw [if_pos (by omega)]
theorem pow_ok {M : Store} : oPow (.int 10) (.int 18) M = some (.int (10 ^ 18), M) := by
  unfold oPow
  simp
theorem rowIx {ns : List Int} {a b c : Int} {M : Store} (r : Row ns a b c M) {i : Nat} {x : A} (h : [A.lst 0, .int a, .int b, .int c][i]? = some x) : oIx (.lst 1) (nI i) M = some (x, M) := ix_lst (listAt_of r.2) h
theorem Row.set {ns : List Int} {a b c : Int} {M : Store} (r : Row ns a b c M) {a' b' c' : Int} : Row ns a' b' c' (M.set 1 (.lst [.lst 0, .int a', .int b', .int c'])) := ⟨at_ne (by omega) r.1, at_set r.2⟩
def Drawn (n : Nat) (M : Store) (a : A) (M' : Store) : Prop := ∃ k : Nat, k < n ∧ a = nI k ∧ Fr (some 1) M M' ∧ RowOk M'
theorem taken_ok {M : Store} {n : Nat} (h : RowOk M) (h1 : 1 ≤ n) (h2 : n ≤ 1000) : (F_law_taken [.lst 1, nI n] M).W (Drawn n M) := by
  obtain ⟨ns, a, b, c, r, ha, hb, hb2⟩ := h
  refine w_def ?_
  unfold S_law_taken
  repeat walk_at "ws"
  refine w_toE (rowIx (i := 3) r rfl) ?_
  repeat walk_at "ws"
  refine w_toE rfl ⟨_, rfl, ?_⟩
  split
  · repeat walk_at "ws"
    refine w_toE (rowIx (i := 3) r rfl) ?_
    repeat walk_at "ws"
    refine w_toE rfl ?_
    repeat walk_at "ws"
    refine w_toE (mod_ok h1) ?_
    repeat walk_at "ws"
    refine w_toE (rowIx (i := 3) r rfl) ?_
    repeat walk_at "ws"
    refine w_toE (fdiv_ok h1 h2) ?_
    repeat walk_at "ws"
    refine ⟨_, setL_ok (i := 3) r.2 (by simp), ?_⟩
    repeat walk_at "ws"
    obtain ⟨k, hk, e⟩ := mod_nat c h1
    exact ⟨k, hk, by rw [e], Fr.refl.setr, ns, a, b, _, r.set, ha, hb, hb2⟩
  · repeat walk_at "ws"
    refine w_toE (rowIx (i := 1) r rfl) ?_
    repeat walk_at "ws"
    refine w_toE rfl ?_
    repeat walk_at "ws"
    refine ⟨_, setL_ok (i := 1) r.2 (by simp), ?_⟩
    have r1 : Row ns (a + 1) b c (M.set 1 (.lst [.lst 0, .int (a + 1), .int b, .int c])) := r.set
    have f1 : Fr (some 1) M (M.set 1 (.lst [.lst 0, .int (a + 1), .int b, .int c])) := Fr.refl.setr
    show ((sSeq _ _ : SF) _ (M.set 1 (.lst [.lst 0, .int (a + 1), .int b, .int c]))).W _ _
    revert r1 f1
    generalize M.set 1 (.lst [.lst 0, .int (a + 1), .int b, .int c]) = M1
    intro r1 f1
    repeat walk_at "ws"
    refine w_toE (rowIx (i := 1) r1 rfl) ?_
    repeat walk_at "ws"
    refine w_toE (rowIx (i := 0) r1 rfl) ?_
    repeat walk_at "ws"
    refine w_toE (len_lst (listAt_frz r1.1)) ?_
    refine w_toE rfl ⟨_, rfl, ?_⟩
    split
    · repeat walk_at "ws"
      refine w_toE (rowIx (i := 2) r1 rfl) ?_
      repeat walk_at "ws"
      refine w_toE mul_ok ?_
      repeat walk_at "ws"
      refine w_toE rfl ?_
      repeat walk_at "ws"
      refine w_toE rfl ?_
      repeat walk_at "ws"
      refine w_toE (mod_ok (n := 2147483647) (by omega)) ?_
      repeat walk_at "ws"
      refine ⟨_, setL_ok (i := 2) r1.2 (by simp), ?_⟩
      obtain ⟨k2, hk2, e2⟩ := mod_nat (b * 48271 + 11) (n := 2147483647) (by omega)
      have r2 : Row ns (a + 1) ((b * 48271 + 11) % ((2147483647 : Nat) : Int)) c (M1.set 1 (.lst [.lst 0, .int (a + 1), .int ((b * 48271 + 11) % ((2147483647 : Nat) : Int)), .int c])) := r1.set
      have f2 : Fr (some 1) M (M1.set 1 (.lst [.lst 0, .int (a + 1), .int ((b * 48271 + 11) % ((2147483647 : Nat) : Int)), .int c])) := f1.setr
      show ((sSeq _ _ : SF) _ (M1.set 1 (.lst [.lst 0, .int (a + 1), .int ((b * 48271 + 11) % ((2147483647 : Nat) : Int)), .int c]))).W _ _
      revert r2 f2
      generalize M1.set 1 (.lst [.lst 0, .int (a + 1), .int ((b * 48271 + 11) % ((2147483647 : Nat) : Int)), .int c]) = M2
      intro r2 f2
      repeat walk_at "ws"
      refine w_toE (rowIx (i := 2) r2 rfl) ?_
      repeat walk_at "ws"
      refine w_toE (fdiv_ok (n := 7) (by omega) (by omega)) ?_
      repeat walk_at "ws"
      refine w_toE rfl ?_
      repeat walk_at "ws"
      refine w_toE (mod_ok h1) ?_
      obtain ⟨k, hk, e⟩ := mod_nat ((b * 48271 + 11) % ((2147483647 : Nat) : Int) / ((7 : Nat) : Int)) h1
      exact ⟨k, hk, by rw [e], f2, ns, _, _, c, r2, by omega, by omega, by omega⟩
    · rename_i hlen
      have hlen : a < ns.length := by
        simp at hlen
        omega
      repeat walk_at "ws"
      refine w_toE (rowIx (i := 0) r1 rfl) ?_
      repeat walk_at "ws"
      refine w_toE (rowIx (i := 1) r1 rfl) ?_
      repeat walk_at "ws"
      refine w_toE rfl ?_
      obtain ⟨j, rfl⟩ := Int.eq_ofNat_of_zero_le ha
      have hj : j < ns.length := by omega
      have ej : ((j : Int) + 1 - 1) = ((j : Nat) : Int) := by omega
      rw [ej]
      refine w_toE (ix_lst (i := j) (x := .int ns[j]) (listAt_frz r1.1) (by rw [List.getElem?_map, List.getElem?_eq_getElem hj]; rfl)) ?_
      repeat walk_at "ws"
      refine w_toE (rowIx (i := 2) r1 rfl) ?_
      repeat walk_at "ws"
      refine w_toE mul_ok ?_
      repeat walk_at "ws"
      refine w_toE rfl ?_
      repeat walk_at "ws"
      refine w_toE rfl ?_
      repeat walk_at "ws"
      refine w_toE rfl ?_
      repeat walk_at "ws"
      refine w_toE (mod_ok (n := 2147483647) (by omega)) ?_
      repeat walk_at "ws"
      refine ⟨_, setL_ok (i := 2) r1.2 (by simp), ?_⟩
      obtain ⟨k2, hk2, e2⟩ := mod_nat (b * 48271 + ns[j] + 11) (n := 2147483647) (by omega)
      have r2 : Row ns (j + 1) ((b * 48271 + ns[j] + 11) % ((2147483647 : Nat) : Int)) c (M1.set 1 (.lst [.lst 0, .int (j + 1), .int ((b * 48271 + ns[j] + 11) % ((2147483647 : Nat) : Int)), .int c])) := r1.set
      have f2 : Fr (some 1) M (M1.set 1 (.lst [.lst 0, .int (j + 1), .int ((b * 48271 + ns[j] + 11) % ((2147483647 : Nat) : Int)), .int c])) := f1.setr
      show ((sSeq _ _ : SF) _ (M1.set 1 (.lst [.lst 0, .int (j + 1), .int ((b * 48271 + ns[j] + 11) % ((2147483647 : Nat) : Int)), .int c]))).W _ _
      revert r2 f2
      generalize M1.set 1 (.lst [.lst 0, .int (j + 1), .int ((b * 48271 + ns[j] + 11) % ((2147483647 : Nat) : Int)), .int c]) = M2
      intro r2 f2
      obtain ⟨k, hk, e⟩ := mod_nat ns[j] h1
      repeat walk_at "ws"
      refine w_toE pow_ok ?_
      refine w_toE rfl ⟨_, rfl, ?_⟩
      split
      · repeat walk_at "ws"
        refine w_toE (fdiv_ok h1 h2) ?_
        repeat walk_at "ws"
        refine ⟨_, setL_ok (i := 3) r2.2 (by simp), ?_⟩
        repeat walk_at "ws"
        refine w_toE rfl ?_
        repeat walk_at "ws"
        refine w_toE (mod_ok h1) ?_
        exact ⟨k, hk, by rw [e], f2.setr, ns, _, _, _, r2.set, by omega, by omega, by omega⟩
      · repeat walk_at "ws"
        refine w_toE rfl ?_
        repeat walk_at "ws"
        refine w_toE (mod_ok h1) ?_
        exact ⟨k, hk, by rw [e], f2, ns, _, _, _, r2, by omega, by omega, by omega⟩
theorem pick_ok {M : Store} {l : Nat} {xs : List A} (h : RowOk M) (hx : M[l]? = some (.lst xs)) (hl : 1 < l) (h1 : 1 ≤ xs.length) (h2 : xs.length ≤ 1000) : (F_law_pick [.lst 1, .lst l] M).W fun a M' => a ∈ xs ∧ Fr (some 1) M M' ∧ RowOk M' := by
  refine w_def ?_
  unfold S_law_pick
  repeat walk_at "ws"
  refine w_toE (len_lst (listAt_of hx)) ?_
  walk_at "ws"
  refine ⟨rfl, (taken_ok h h1 h2).imp ?_⟩
  rintro _ M1 ⟨k, hk, rfl, f, r⟩
  have e : xs[k]? = some xs[k] := List.getElem?_eq_getElem hk
  exact w_toE (ix_lst (listAt_of (f.at hx (by simp; omega))) e) ⟨List.getElem_mem hk, f, r⟩
end P66
namespace P66
open PySem PySem.Spec PyProof.Rows L2 AB
/-! ### == of data -/
abbrev dI (n : Nat) : PyData := .int n
theorem mapM_ints (M : Store) (k : Nat) : ∀ xs : List Nat, (xs.map nI).mapM (dat M k) = some (xs.map dI)
  | [] => rfl
  | x :: xs => by
    rw [List.map_cons, List.mapM_cons, mapM_ints M k xs, show dat M k (nI x) = some (dI x) by unfold dat; rfl]
    rfl
theorem mapM_rows (M : Store) (k : Nat) : ∀ xs : List (List Nat), (xs.map tI).mapM (dat M (k + 1)) = some (xs.map fun r => .tuple (r.map dI))
  | [] => rfl
  | x :: xs => by
    rw [List.map_cons, List.mapM_cons, mapM_rows M k xs, show dat M (k + 1) (tI x) = some (.tuple (x.map dI)) by
      show ((x.map nI).mapM (dat M k)).map PyData.tuple = _
      rw [mapM_ints]
      rfl]
    rfl
theorem lay_ints : ∀ xs : List Nat, PyData.canLayAll0 (xs.map dI) = true
  | [] => by simp [PyData.canLayAll0]
  | x :: xs => by simp [PyData.canLayAll0, PyData.canLay0, lay_ints xs]
theorem lay_rows : ∀ xs : List (List Nat), PyData.canLayAll0 (xs.map fun r => .tuple (r.map dI)) = true
  | [] => by simp [PyData.canLayAll0]
  | x :: xs => by simp [PyData.canLayAll0, PyData.canLay0, lay_rows xs, lay_ints x]
theorem depth_ints : ∀ xs : List Nat, PyData.depthAll (xs.map dI) = 0
  | [] => by simp [PyData.depthAll]
  | x :: xs => by simp [PyData.depthAll, PyData.depth, depth_ints xs]
theorem depth_rows : ∀ xs : List (List Nat), PyData.depthAll (xs.map fun r => .tuple (r.map dI)) ≤ 1
  | [] => by simp [PyData.depthAll]
  | x :: xs => by
    have := depth_rows xs
    simp [PyData.depthAll, PyData.depth, depth_ints x]
    omega
theorem eqv_ints : ∀ xs ys : List Nat, PyData.eqvAll (xs.map dI) (ys.map dI) = decide (xs = ys)
  | [], [] => by simp [PyData.eqvAll]
  | [], _ :: _ => by simp [PyData.eqvAll]
  | _ :: _, [] => by simp [PyData.eqvAll]
  | x :: xs, y :: ys => by
    simp only [List.map_cons, PyData.eqvAll, PyData.eqv, eqv_ints xs ys]
    by_cases h : x = y <;> by_cases h2 : xs = ys <;> simp [h, h2]
    all_goals omega
theorem eqv_rows : ∀ xs ys : List (List Nat), PyData.eqvAll (xs.map fun r => .tuple (r.map dI)) (ys.map fun r => .tuple (r.map dI)) = decide (xs = ys)
  | [], [] => by simp [PyData.eqvAll]
  | [], _ :: _ => by simp [PyData.eqvAll]
  | _ :: _, [] => by simp [PyData.eqvAll]
  | x :: xs, y :: ys => by
    simp only [List.map_cons, PyData.eqvAll, PyData.eqv, eqv_rows xs ys, eqv_ints x y]
    by_cases h : x = y <;> by_cases h2 : xs = ys <;> simp [h, h2]
theorem datS_list {M : Store} {l : Nat} {xs : List Nat} (h : listAt M l = some (xs.map nI)) : datS M (.lst l) = some (.list (xs.map dI)) := by
  have e : dat M 8 (.lst l) = some (.list (xs.map dI)) := by
    show ((listAt M l).bind fun xs => (xs.mapM (dat M 7)).map PyData.list) = _
    rw [h]
    show ((xs.map nI).mapM (dat M 7)).map PyData.list = _
    rw [mapM_ints]
    rfl
  unfold datS
  rw [e]
  dsimp only
  rw [if_pos]
  unfold SeqAt.shaped
  simp [PyData.canLay0, lay_ints, PyData.depth, depth_ints]
theorem datS_q {M : Store} {q : Qn} : datS M q.A = some (.tuple [dI q.L, .tuple (q.st.map fun r => .tuple (r.map dI)), .tuple (q.an.map dI)]) := by
  have e : dat M 8 q.A = some (.tuple [dI q.L, .tuple (q.st.map fun r => .tuple (r.map dI)), .tuple (q.an.map dI)]) := by
    show ([nI q.L, .tup (q.st.map tI), tI q.an].mapM (dat M 7)).map PyData.tuple = _
    rw [List.mapM_cons, List.mapM_cons, List.mapM_cons, show dat M 7 (nI q.L) = some (dI q.L) by unfold dat; rfl,
      show dat M 7 (.tup (q.st.map tI)) = some (.tuple (q.st.map fun r => .tuple (r.map dI))) by
        show ((q.st.map tI).mapM (dat M 6)).map PyData.tuple = _
        rw [mapM_rows]
        rfl,
      show dat M 7 (tI q.an) = some (.tuple (q.an.map dI)) by
        show ((q.an.map nI).mapM (dat M 6)).map PyData.tuple = _
        rw [mapM_ints]
        rfl]
    rfl
  unfold datS
  rw [e]
  dsimp only
  rw [if_pos]
  unfold SeqAt.shaped
  have := depth_rows q.st
  simp [PyData.canLay0, PyData.canLayAll0, lay_ints, lay_rows, PyData.depth, PyData.depthAll, depth_ints]
  omega
theorem eq_q {M : Store} {q p : Qn} : oEq q.A p.A M = some (.bl (decide (q = p)), M) := by
  unfold oEq
  rw [datS_q, datS_q]
  dsimp only
  have e : PyData.eqv (.tuple [dI q.L, .tuple (q.st.map fun r => .tuple (r.map dI)), .tuple (q.an.map dI)]) (.tuple [dI p.L, .tuple (p.st.map fun r => .tuple (r.map dI)), .tuple (p.an.map dI)]) = decide (q = p) := by
    obtain ⟨a, b, c⟩ := q
    obtain ⟨d, e, f⟩ := p
    simp only [PyData.eqv, PyData.eqvAll, eqv_rows, eqv_ints]
    by_cases h1 : a = d <;> by_cases h2 : b = e <;> by_cases h3 : c = f <;> simp [h1, h2, h3]
    all_goals omega
  rw [e]
theorem ne_nil {M : Store} {l k : Nat} {xs : List Nat} (h : listAt M l = some (xs.map nI)) (h2 : listAt M k = some []) : oNe (.lst l) (.lst k) M = some (.bl (!xs.isEmpty), M) := by
  unfold oNe
  rw [datS_list h, datS_nil h2]
  dsimp only
  cases xs with
  | nil => simp [PyData.eqv, PyData.eqvAll]
  | cons x xs => simp [PyData.eqv, PyData.eqvAll]
/-! ### lists of draws -/
theorem lc_draw {fi : EI} {t : Tgt} {fe : EF} {own : List Nat} {τ : Sl} {M : Store} {Q : A → Store → Prop} (P : A → Prop)
    (h : (fi τ M).W fun src M1 => ∃ xs : List A, src.size M1 = xs.length + 1 ∧ xs.length ≤ sizeLine ∧ (∀ M2, Fr (some 1) M1 M2 → ∀ i, src.at M2 i = some xs[i]?) ∧ RowOk M1 ∧
      (∀ x M2, x ∈ xs → Fr (some 1) M1 M2 → RowOk M2 → ∃ τ1, t.set x (wipeA τ own) = some τ1 ∧ (fe τ1 M2).W fun y M3 => P y ∧ Fr (some 1) M2 M3 ∧ RowOk M3) ∧
      (∀ l M2 ys, M1.length ≤ l → Fr (some 1) M1 M2 → RowOk M2 → M2[l]? = some (.lst ys) → ys.length = xs.length → (∀ y ∈ ys, P y) → Q (.lst l) M2)) : (eLc fi t bYes fe own τ M).W Q := by
  refine w_lc (h.imp fun src M1 ⟨xs, e, hz, hat, hr, hs, hq⟩ => ⟨xs, fun i acc M2 => acc.length = i ∧ (∀ y ∈ acc, P y) ∧ Fr (some 1) M1 M2 ∧ RowOk M2, e, hz, ⟨rfl, by simp, Fr.refl.app _, hr.app _⟩, fun i acc M2 h => hat M2 h.2.2.1 i, fun i x acc M2 ex h hl _ => ?_, fun acc M2 h hl => ?_⟩)
  · obtain ⟨h1, h2, h3, h4⟩ := h
    obtain ⟨τ1, e1, w⟩ := hs x M2 (List.mem_of_getElem? ex) h3 h4
    refine ⟨τ1, e1, w_yes ?_⟩
    rw [if_pos rfl]
    refine w.imp fun y M3 hy => ⟨hy.2.1.at hl (by have := hr.lt; simp; omega), by rw [List.length_append, h1]; rfl, ?_, (h3.trans hy.2.1).set (Nat.le_refl _), hy.2.2.set hr.lt⟩
    intro z hz
    rcases List.mem_append.mp hz with hz | hz
    · exact h2 z hz
    · rw [List.mem_singleton.mp hz]; exact hy.1
  · obtain ⟨h1, h2, h3, h4⟩ := h
    exact hq _ _ _ (Nat.le_refl _) h3 h4 hl h1 h2
theorem all_of {α : Type} {f : α → A} {p : α → Prop} : ∀ ys : List A, (∀ y ∈ ys, ∃ k, p k ∧ y = f k) → ∃ ks : List α, ys = ks.map f ∧ ∀ k ∈ ks, p k
  | [], _ => ⟨[], rfl, by simp⟩
  | y :: ys, h => by
    obtain ⟨k, hk, rfl⟩ := h y (by simp)
    obtain ⟨ks, rfl, h2⟩ := all_of ys fun z hz => h z (by simp [hz])
    exact ⟨k :: ks, rfl, fun z hz => by
      rcases List.mem_cons.mp hz with rfl | hz
      · exact hk
      · exact h2 z hz⟩
/-- range(n) as a source -/
theorem rng_at {M : Store} {n i : Nat} : (Src.rng 0 n).at M i = some ((List.range n).map nI)[i]? := by
  show some (if i < n then some (A.int (0 + (i : Nat))) else none) = _
  by_cases hi : i < n
  · rw [if_pos hi, List.getElem?_map, List.getElem?_range hi]
    simp
  · rw [if_neg hi, List.getElem?_eq_none (by simp; omega)]
theorem rng_len {n : Nat} : ((List.range n).map nI).length = n := by simp
theorem rng_get {n i : Nat} {x : A} (h : ((List.range n).map nI)[i]? = some x) : i < n ∧ x = nI i := by
  rw [List.getElem?_map] at h
  obtain ⟨m, hm, rfl⟩ := Option.map_eq_some_iff.mp h
  obtain ⟨hi, e⟩ := List.getElem?_eq_some_iff.mp hm
  rw [List.getElem_range] at e
  rw [List.length_range] at hi
  exact ⟨hi, by rw [e]⟩
end P66
namespace P66
open PySem PySem.Spec PyProof.Rows L2 AB
theorem erase_map {α β : Type} (f : α → β) : ∀ (xs : List α) (k : Nat), (xs.map f).eraseIdx k = (xs.eraseIdx k).map f
  | [], _ => rfl
  | _ :: _, 0 => rfl
  | x :: xs, k + 1 => by
    show f x :: (xs.map f).eraseIdx k = f x :: (xs.eraseIdx k).map f
    rw [erase_map f xs k]
section
variable {M : Store} {a b n l k : Nat} {xs : List Nat}
theorem add_nat : oAdd (nI a) (nI b) M = some (nI (a + b), M) := rfl
theorem mul_nat (h : a < 1000000) : oMul (nI a) (nI b) M = some (nI (a * b), M) := by
  unfold oMul
  dsimp only
  rw [if_pos (by omega)]
  simp
theorem modn_ok (h : 1 ≤ n) : oMod (nI a) (nI n) M = some (nI (a % n), M) := mod_ok h
theorem sub_nat (h : 1 ≤ a) : oSub (nI a) (.int 1) M = some (nI (a - 1), M) := by
  show some (A.int ((a : Int) - 1), M) = some (A.int ((a - 1 : Nat) : Int), M)
  rw [show ((a : Int) - 1) = ((a - 1 : Nat) : Int) by omega]
theorem min_nat : oMin2 [nI a, nI b] M = some (nI (min a b), M) := by
  show some (A.int (if (b : Int) < (a : Int) then (b : Int) else a), M) = some (A.int ((min a b : Nat) : Int), M)
  by_cases h : b < a
  · rw [if_pos (by omega), Nat.min_eq_right (by omega)]
  · rw [if_neg (by omega), Nat.min_eq_left (by omega)]
theorem pop_ok (h : M[l]? = some (.lst (xs.map nI))) (hk : k < xs.length) (hz : xs.length ≤ 1000) : oPop (.lst l) [nI k] M = some (nI xs[k], M.set l (.lst ((xs.eraseIdx k).map nI))) := by
  unfold oPop
  dsimp only
  rw [h]
  dsimp only
  rw [if_pos (by omega), show seqIndex? (k : Int) (xs.map nI).length = some k by
    unfold seqIndex?
    rw [List.length_map]
    simp
    omega]
  dsimp only
  rw [List.getElem?_map, List.getElem?_eq_getElem hk]
  rw [erase_map]
  rfl
theorem rg_nat : rgA 0 (n : Int) = (List.range n).map nI := by
  unfold rgA
  simp
theorem rgOk_nat (h : n ≤ 1000000) : rgOk 0 (n : Int) = true := by
  unfold rgOk
  simp
  omega
end
theorem ix2_0 {M : Store} {x y : A} : oIx (.tup [x, y]) (.int 0) M = some (x, M) := rfl
theorem ix2_1 {M : Store} {x y : A} : oIx (.tup [x, y]) (.int 1) M = some (y, M) := rfl
theorem w_lc_rng {fi : EI} {t : Tgt} {fe : EF} {own : List Nat} {τ : Sl} {M : Store} {Q : A → Store → Prop} {n : Nat} (g : Nat → A)
    (h : (fi τ M).W fun src M1 => src = .rng 0 n ∧ n ≤ 1000000 ∧ (∀ i M2, i < n → Pre M1 M2 → ∃ τ1, t.set (nI i) (wipeA τ own) = some τ1 ∧ (fe τ1 M2).W fun y M3 => y = g i ∧ Pre M2 M3) ∧
      (∀ l M2, M1.length ≤ l → Pre M1 M2 → M2[l]? = some (.lst ((List.range n).map g)) → Q (.lst l) M2)) : (eLc fi t bYes fe own τ M).W Q := by
  refine w_lc_map (fun a => match a with
    | .int i => g i.toNat
    | a => a) (h.imp fun src M1 ⟨e, hn, hs, hq⟩ => ?_)
  subst e
  refine ⟨(List.range n).map nI, by simp [Src.size], by rw [rng_len, sizeLine_eq]; omega, fun M2 _ i => rng_at, fun x M2 hx p => ?_, fun l M2 hl p h2 => hq l M2 hl p ?_⟩
  · obtain ⟨i, hi, rfl⟩ := List.mem_map.mp hx
    obtain ⟨τ1, e1, w⟩ := hs i M2 (List.mem_range.mp hi) p
    exact ⟨τ1, e1, w⟩
  · rw [h2, List.map_map]
    rfl
def Good (L : Nat) (S : List (List Nat)) : Prop := 1 ≤ S.length ∧ S.length ≤ 8 ∧ ∀ r ∈ S, r.length = L ∧ ∀ x ∈ r, x < S.length
theorem mixed_lt {t m0 m1 r : Nat} (h : t < m0) (hr : r < m1) : t * m1 + r < m0 * m1 := by
  have h1 : (t + 1) * m1 ≤ m0 * m1 := Nat.mul_le_mul_right _ h
  rw [Nat.add_mul] at h1
  omega
end P66
namespace P66
open PySem PySem.Spec PyProof.Rows L2 AB
/-! ### dicts with tuple keys -/
def kI (k : List Nat) : List Key := k.map fun (n : Nat) => (Sum.inl (n : Int) : Key)
def DT (kv : List (List Nat × A)) : Cell := .dT (kv.map fun p => (kI p.1, p.2))
def look (kv : List (List Nat × A)) (k : List Nat) : Option A := (kv.find? fun p => decide (p.1 = k)).map (·.2)
theorem kI_inj : ∀ {a b : List Nat}, kI a = kI b → a = b
  | [], [], _ => rfl
  | [], _ :: _, h => by simp [kI] at h
  | _ :: _, [], h => by simp [kI] at h
  | x :: xs, y :: ys, h => by
    simp only [kI, List.map_cons, List.cons.injEq, Sum.inl.injEq] at h
    have e := kI_inj (a := xs) (b := ys) h.2
    have e2 : x = y := by omega
    rw [e, e2]
theorem keys_of : ∀ k : List Nat, (k.map nI).mapM key? = some (kI k)
  | [] => rfl
  | x :: xs => by
    rw [List.map_cons, List.mapM_cons, keys_of xs]
    rfl
theorem valA_DT (kv : List (List Nat × A)) (k : List Nat) : valA (kv.map fun p => (kI p.1, p.2)) (kI k) = look kv k := by
  unfold valA look
  induction kv with
  | nil => rfl
  | cons p kv ih =>
    rw [List.map_cons, List.find?_cons, List.find?_cons]
    by_cases h : p.1 = k
    · simp [h]
    · have : ¬ kI p.1 = kI k := fun z => h (kI_inj z)
      simp only [this, h, decide_false]
      exact ih
theorem look_some {kv : List (List Nat × A)} {k : List Nat} : (look kv k).isSome = decide (k ∈ kv.map (·.1)) := by
  unfold look
  induction kv with
  | nil => simp
  | cons p kv ih =>
    rw [List.find?_cons]
    by_cases h : p.1 = k
    · simp [h]
    · have h2 : ¬ k = p.1 := fun z => h z.symm
      simp only [h, decide_false, List.map_cons, List.mem_cons, h2, false_or]
      exact ih
section
variable {M : Store} {l : Nat} {kv : List (List Nat × A)} {k : List Nat} {v : A}
theorem dGet_DT (h : M[l]? = some (DT kv)) : dGet M l (tI k) = some (look kv k) := by
  unfold dGet DT at *
  rw [h]
  dsimp only
  rw [keys_of]
  show some (valA _ _) = _
  rw [valA_DT]
theorem in_DT (h : M[l]? = some (DT kv)) : oIn (tI k) (.dct l) M = some (.bl (decide (k ∈ kv.map (·.1))), M) := by
  show (dGet M l (tI k)).map (fun o => (A.bl o.isSome, M)) = _
  rw [dGet_DT h]
  show some (A.bl (look kv k).isSome, M) = _
  rw [look_some]
theorem notin_DT (h : M[l]? = some (DT kv)) : oNotIn (tI k) (.dct l) M = some (.bl (!decide (k ∈ kv.map (·.1))), M) := by
  unfold oNotIn notO
  rw [in_DT h]
theorem get_DT (h : M[l]? = some (DT kv)) (e : look kv k = some v) : oDget (.dct l) (tI k) M = some (v, M) := by
  unfold oDget
  dsimp only
  rw [dGet_DT h, e]
theorem put_DT (h : M[l]? = some (DT kv)) (hk : k ∉ kv.map (·.1)) (hz : kv.length < 16777216) : dPut M l (tI k) v = some (M.set l (DT (kv ++ [(k, v)]))) := by
  unfold dPut DT at *
  rw [h]
  dsimp only
  rw [if_pos (by rw [List.length_map, sizeLine_eq]; exact hz)]
  rw [keys_of]
  show some (M.set l (Cell.dT (putA _ _ _))) = _
  unfold putA
  rw [if_neg, List.map_append]
  · rfl
  · intro z
    obtain ⟨p, hp, e⟩ := List.any_eq_true.mp z
    obtain ⟨p', hp', rfl⟩ := List.mem_map.mp hp
    exact hk (List.mem_map.mpr ⟨p', hp', kI_inj (of_decide_eq_true e)⟩)
end
/-! ### small facts of lists -/
theorem nodup_lt : ∀ (N : Nat) (l : List Nat), l.Nodup → (∀ x ∈ l, x < N) → l.length ≤ N
  | 0, [], _, _ => Nat.le_refl _
  | 0, x :: l, _, h => absurd (h x (by simp)) (Nat.not_lt_zero _)
  | N + 1, l, hn, h => by
    by_cases hm : N ∈ l
    · have h1 := nodup_lt N (l.erase N) (hn.erase N) fun x hx => by
        have := h x (List.mem_of_mem_erase hx)
        have : x ≠ N := fun z => by
          subst z
          exact (List.Nodup.not_mem_erase hn) hx
        omega
      rw [List.length_erase_of_mem hm] at h1
      omega
    · have h1 := nodup_lt N l hn fun x hx => by
        have := h x hx
        have : x ≠ N := fun z => hm (z ▸ hx)
        omega
      omega
theorem nodup_map {α β : Type} {f : α → β} : ∀ {l : List α}, l.Nodup → (∀ x ∈ l, ∀ y ∈ l, f x = f y → x = y) → (l.map f).Nodup
  | [], _, _ => by simp
  | a :: l, h, hi => by
    rw [List.nodup_cons] at h
    rw [List.map_cons, List.nodup_cons]
    refine ⟨fun z => ?_, nodup_map h.2 fun x hx y hy e => hi x (by simp [hx]) y (by simp [hy]) e⟩
    obtain ⟨y, hy, e⟩ := List.mem_map.mp z
    have := hi y (by simp [hy]) a (by simp) e
    exact h.1 (this ▸ hy)
theorem pairs_le {n : Nat} {fd : List (Nat × Nat)} (hn : fd.Nodup) (h : ∀ p ∈ fd, p.1 < n ∧ p.2 < n) : fd.length ≤ n * n := by
  have h1 : (fd.map fun p => p.1 * n + p.2).Nodup := nodup_map hn fun x hx y hy e => by
    have h1 := h x hx
    have h2 := h y hy
    have e1 : x.2 = y.2 := by
      have := congrArg (· % n) e
      simpa [Nat.mul_comm _ n, Nat.mul_add_mod, Nat.mod_eq_of_lt h1.2, Nat.mod_eq_of_lt h2.2] using this
    have e2 : x.1 = y.1 := by
      have e3 : x.1 * n = y.1 * n := by omega
      exact Nat.eq_of_mul_eq_mul_right (by omega) e3
    exact Prod.ext e2 e1
  have h2 := nodup_lt (n * n) _ h1 fun x hx => by
    obtain ⟨p, hp, rfl⟩ := List.mem_map.mp hx
    exact mixed_lt (h p hp).1 (h p hp).2
  rwa [List.length_map] at h2
/-! ### alike states -/
def Wd (L : Nat) (w : List Nat) : Prop := ∀ l ∈ w, l < L
def Eqv (q p : Qn) (s t : Nat) : Prop := ∀ w, Wd q.L w → q.o (q.run s w) = p.o (p.run t w)
theorem Eqv.step {q p : Qn} {s t l : Nat} (h : Eqv q p s t) (hl : l < q.L) : Eqv q p (q.d s l) (p.d t l) := fun w hw => h (l :: w) fun x hx => by
  rcases List.mem_cons.mp hx with rfl | hx
  · exact hl
  · exact hw x hx
theorem Eqv.out {q p : Qn} {s t : Nat} (h : Eqv q p s t) : q.o s = p.o t := h [] fun _ h => by simp at h
theorem Eqv.refl {q : Qn} {s : Nat} : Eqv q q s s := fun _ _ => rfl
theorem Eqv.symm {q p : Qn} {s t : Nat} (hL : q.L = p.L) (h : Eqv q p s t) : Eqv p q t s := fun w hw => (h w (by rw [hL]; exact hw)).symm
theorem Eqv.trans {q p r : Qn} {s t u : Nat} (hL : q.L = p.L) (h : Eqv q p s t) (h2 : Eqv p r t u) : Eqv q r s u := fun w hw => (h w hw).trans (h2 w (by rw [← hL]; exact hw))
/-- a set of pairs with no split and closed under the steps is a set of alike pairs -/
theorem eqv_of {q p : Qn} (hL : q.L = p.L) (hq : q.Ok) (hp : p.Ok) (B : Nat → Nat → Prop) (h : ∀ a b, a < q.st.length → b < p.st.length → B a b → q.o a = p.o b ∧ ∀ l, l < q.L → B (q.d a l) (p.d b l)) :
    ∀ (w : List Nat) {a b : Nat}, a < q.st.length → b < p.st.length → B a b → Wd q.L w → q.o (q.run a w) = p.o (p.run b w)
  | [], a, b, ha, hb, hB, _ => (h a b ha hb hB).1
  | l :: w, a, b, ha, hb, hB, hw => by
    have hl : l < q.L := hw l (by simp)
    exact eqv_of hL hq hp B h w (hq.d_lt ha hl) (hp.d_lt hb (hL ▸ hl)) ((h a b ha hb hB).2 l hl) fun x hx => hw x (by simp [hx])
/-! ### unlike -/
def dF (fd : List (Nat × Nat)) : List (List Nat × A) := fd.map fun p => ([p.1, p.2], .bl true)
theorem mem_dF {fd : List (Nat × Nat)} {a b : Nat} : [a, b] ∈ (dF fd).map (·.1) ↔ (a, b) ∈ fd := by
  unfold dF
  rw [List.map_map]
  constructor
  · intro h
    obtain ⟨p, hp, e⟩ := List.mem_map.mp h
    simp at e
    rw [← e.1, ← e.2]
    exact hp
  · intro h
    exact List.mem_map.mpr ⟨(a, b), h, rfl⟩
theorem in_pair {M : Store} {l a b : Nat} {fd : List (Nat × Nat)} (h : M[l]? = some (DT (dF fd))) : oIn (.tup [nI a, nI b]) (.dct l) M = some (.bl (decide ((a, b) ∈ fd)), M) := by
  rw [show A.tup [nI a, nI b] = tI [a, b] from rfl, in_DT h, decide_eq_decide.mpr mem_dF]
theorem notin_pair {M : Store} {l a b : Nat} {fd : List (Nat × Nat)} (h : M[l]? = some (DT (dF fd))) : oNotIn (.tup [nI a, nI b]) (.dct l) M = some (.bl (!decide ((a, b) ∈ fd)), M) := by
  unfold oNotIn notO
  rw [in_pair h]
theorem put_pair {M : Store} {l a b : Nat} {fd : List (Nat × Nat)} (h : M[l]? = some (DT (dF fd))) (hn : (a, b) ∉ fd) (hz : fd.length < 16777216) : dPut M l (.tup [nI a, nI b]) (.bl true) = some (M.set l (DT (dF (fd ++ [(a, b)])))) := by
  rw [show A.tup [nI a, nI b] = tI [a, b] from rfl, put_DT h (fun z => hn (mem_dF.mp z)) (by unfold dF; rw [List.length_map]; exact hz)]
  unfold dF
  rw [List.map_append]
  rfl
/-- a pair that shows no split yet -/
def Cl (q : Qn) (fd : List (Nat × Nat)) (a b : Nat) : Prop := (a, b) ∉ fd → q.o a = q.o b ∧ ∀ l, l < q.L → (q.d a l, q.d b l) ∉ fd
structure Fd (q : Qn) (fd : List (Nat × Nat)) : Prop where
  nd : fd.Nodup
  snd : ∀ p ∈ fd, p.1 < q.st.length ∧ p.2 < q.st.length ∧ ¬ Eqv q q p.1 p.2
theorem Fd.le {q : Qn} {fd : List (Nat × Nat)} (h : Fd q fd) : fd.length ≤ q.st.length * q.st.length := pairs_le h.nd fun p hp => ⟨(h.snd p hp).1, (h.snd p hp).2.1⟩
theorem Fd.add {q : Qn} {fd : List (Nat × Nat)} (h : Fd q fd) {a b : Nat} (ha : a < q.st.length) (hb : b < q.st.length) (hn : (a, b) ∉ fd) (hs : q.o a ≠ q.o b ∨ ∃ l, l < q.L ∧ (q.d a l, q.d b l) ∈ fd) : Fd q (fd ++ [(a, b)]) := by
  refine ⟨?_, fun p hp => ?_⟩
  · rw [List.nodup_append]
    refine ⟨h.nd, by simp, fun x hx y hy => ?_⟩
    rw [List.mem_singleton.mp hy]
    exact fun z => hn (z ▸ hx)
  · rcases List.mem_append.mp hp with hp | hp
    · exact h.snd p hp
    · rw [List.mem_singleton.mp hp]
      refine ⟨ha, hb, fun z => ?_⟩
      rcases hs with hs | ⟨l, hl, hm⟩
      · exact hs z.out
      · exact (h.snd _ hm).2.2 (z.step hl)
end P66
namespace P66
open PySem PySem.Spec PyProof.Rows L2 AB
/-! ### the least question, as a function -/
def ixf (R : Nat → Nat → Bool) (o : List Nat) (x : Nat) : Option Nat := o.findIdx? fun c => R c x
def stp (R : Nat → Nat → Bool) (acc : List Nat × List Nat) (x : Nat) : List Nat × List Nat := match ixf R acc.1 x with
  | some i => (acc.1, acc.2 ++ [i])
  | none => (acc.1 ++ [x], acc.2 ++ [acc.1.length])
def rowS (R : Nat → Nat → Bool) (q : Qn) (o : List Nat) (s : Nat) : List Nat × List Nat := (q.st.getD s []).foldl (stp R) (o, [])
def iter (R : Nat → Nat → Bool) (q : Qn) : Nat → List Nat × List (List Nat)
  | 0 => ([0], [])
  | k + 1 => ((rowS R q (iter R q k).1 ((iter R q k).1.getD k 0)).1, (iter R q k).2 ++ [(rowS R q (iter R q k).1 ((iter R q k).1.getD k 0)).2])
def IsEnd (R : Nat → Nat → Bool) (q : Qn) (k : Nat) : Prop := (iter R q k).1.length ≤ k ∧ ∀ j, j < k → j < (iter R q j).1.length
def fin (R : Nat → Nat → Bool) (q : Qn) (k : Nat) : Qn := ⟨q.L, (iter R q k).2, (iter R q k).1.map q.o⟩
theorem IsEnd.eq {R : Nat → Nat → Bool} {q : Qn} {k j : Nat} (h : IsEnd R q k) (h2 : IsEnd R q j) : k = j := by
  rcases Nat.lt_trichotomy k j with z | z | z
  · have := h2.2 k z; have := h.1; omega
  · exact z
  · have := h.2 j z; have := h2.1; omega
theorem iter_len (R : Nat → Nat → Bool) (q : Qn) : ∀ k, (iter R q k).2.length = k
  | 0 => rfl
  | k + 1 => by
    show ((iter R q k).2 ++ [_]).length = k + 1
    rw [List.length_append, iter_len R q k]
    rfl
/-- what R must be -/
def Rfl (R : Nat → Nat → Bool) : Prop := ∀ x, R x x = true
structure OkO (n : Nat) (o : List Nat) : Prop where
  nd : o.Nodup
  lt : ∀ x ∈ o, x < n
theorem OkO.le {n : Nat} {o : List Nat} (h : OkO n o) : o.length ≤ n := nodup_lt n o h.nd h.lt
theorem ixf_some {R : Nat → Nat → Bool} {o : List Nat} {x i : Nat} (h : ixf R o x = some i) : ∃ c, o[i]? = some c ∧ R c x = true := by
  unfold ixf at h
  rw [List.findIdx?_eq_some_iff_getElem] at h
  obtain ⟨hi, hr, _⟩ := h
  exact ⟨_, List.getElem?_eq_getElem hi, hr⟩
theorem ixf_none {R : Nat → Nat → Bool} {o : List Nat} {x : Nat} (h : ixf R o x = none) : ∀ c ∈ o, R c x = false := by
  unfold ixf at h
  rw [List.findIdx?_eq_none_iff] at h
  exact h
theorem fold_inv {R : Nat → Nat → Bool} (hR : Rfl R) {n : Nat} : ∀ (xs : List Nat) (o r : List Nat), (∀ x ∈ xs, x < n) → OkO n o →
    OkO n (xs.foldl (stp R) (o, r)).1 ∧ (∃ t, (xs.foldl (stp R) (o, r)).1 = o ++ t) ∧ ∃ u, (xs.foldl (stp R) (o, r)).2 = r ++ u ∧ u.length = xs.length ∧ ∀ (i x : Nat), xs[i]? = some x → ∃ j c, u[i]? = some j ∧ (xs.foldl (stp R) (o, r)).1[j]? = some c ∧ R c x = true
  | [], o, r, _, ho => ⟨ho, ⟨[], by simp⟩, [], by simp, rfl, fun i x h => by simp at h⟩
  | x :: xs, o, r, hx, ho => by
    rw [List.foldl_cons]
    have key : ∃ o1 j c, stp R (o, r) x = (o1, r ++ [j]) ∧ OkO n o1 ∧ (∃ t, o1 = o ++ t) ∧ o1[j]? = some c ∧ R c x = true := by
      unfold stp
      cases e : ixf R o x with
      | some i =>
        obtain ⟨c, h1, h2⟩ := ixf_some e
        exact ⟨o, i, c, rfl, ho, ⟨[], by simp⟩, h1, h2⟩
      | none =>
        refine ⟨o ++ [x], o.length, x, rfl, ⟨?_, fun y hy => ?_⟩, ⟨[x], rfl⟩, by simp, hR x⟩
        · rw [List.nodup_append]
          refine ⟨ho.nd, by simp, fun y hy z hz => ?_⟩
          rw [List.mem_singleton.mp hz]
          intro w
          have := ixf_none e y hy
          rw [w, hR x] at this
          cases this
        · rcases List.mem_append.mp hy with hy | hy
          · exact ho.lt y hy
          · rw [List.mem_singleton.mp hy]
            exact hx x (by simp)
    obtain ⟨o1, j, c, e, h1, ⟨t, ht⟩, h2, h3⟩ := key
    rw [e]
    obtain ⟨g1, ⟨t2, g2⟩, u, g3, g4, g5⟩ := fold_inv hR xs o1 (r ++ [j]) (fun y hy => hx y (by simp [hy])) h1
    refine ⟨g1, ⟨t ++ t2, by rw [g2, ht, List.append_assoc]⟩, j :: u, by rw [g3]; simp, by simp [g4], fun i y hy => ?_⟩
    cases i with
    | zero =>
      have : x = y := by simpa using hy
      subst this
      exact ⟨j, c, rfl, by rw [g2]; rw [List.getElem?_append_left (List.getElem?_eq_some_iff.mp h2).1]; exact h2, h3⟩
    | succ i => exact g5 i y (by simpa using hy)
structure ItOk (R : Nat → Nat → Bool) (q : Qn) (o : List Nat) (rows : List (List Nat)) : Prop where
  ok : OkO q.st.length o
  hd : o[0]? = some 0
  rw_ : ∀ (i s : Nat) (r : List Nat), o[i]? = some s → rows[i]? = some r → r.length = q.L ∧ ∀ l, l < q.L → ∃ c, o[r.getD l 0]? = some c ∧ R c (q.d s l) = true
theorem row_get {q : Qn} (h : q.Ok) {s : Nat} (hs : s < q.st.length) : (q.st.getD s []).length = q.L ∧ (∀ x ∈ q.st.getD s [], x < q.st.length) ∧ ∀ l, l < q.L → (q.st.getD s [])[l]? = some (q.d s l) := by
  have e : q.st.getD s [] = q.st[s] := by rw [List.getD_eq_getElem?_getD, List.getElem?_eq_getElem hs]; rfl
  have hr := h.row _ (List.getElem_mem hs)
  refine ⟨by rw [e]; exact hr.1, by rw [e]; exact hr.2, fun l hl => ?_⟩
  unfold Qn.d
  rw [e, List.getD_eq_getElem?_getD, List.getElem?_eq_getElem (by omega)]
  rfl
theorem iter_ok {R : Nat → Nat → Bool} (hR : Rfl R) {q : Qn} (h : q.Ok) : ∀ k, (∀ j, j < k → j < (iter R q j).1.length) → ItOk R q (iter R q k).1 (iter R q k).2 ∧ k ≤ (iter R q k).1.length
  | 0, _ => ⟨⟨⟨by simp [iter], fun x hx => by
      have : x = 0 := by simpa [iter] using hx
      have := h.n1
      omega⟩, rfl, fun i s r _ z => by simp [iter] at z⟩, by simp [iter]⟩
  | k + 1, hj => by
    obtain ⟨ih, _⟩ := iter_ok hR h k fun j hjk => hj j (by omega)
    have hk := hj k (by omega)
    have es : (iter R q k).1[k]? = some ((iter R q k).1.getD k 0) := by rw [List.getD_eq_getElem?_getD, List.getElem?_eq_getElem hk]; rfl
    have hs : (iter R q k).1.getD k 0 < q.st.length := ih.ok.lt _ (List.mem_of_getElem? es)
    obtain ⟨r1, r2, r3⟩ := row_get h hs
    obtain ⟨g1, ⟨t, g2⟩, u, g3, g4, g5⟩ := fold_inv hR (q.st.getD ((iter R q k).1.getD k 0) []) (iter R q k).1 [] r2 ih.ok
    have e1 : (iter R q (k + 1)).1 = (iter R q k).1 ++ t := g2
    have e2 : (iter R q (k + 1)).2 = (iter R q k).2 ++ [u] := by
      show (iter R q k).2 ++ [_] = _
      unfold rowS
      rw [g3]
      rfl
    have g5' : ∀ (i x : Nat), (q.st.getD ((iter R q k).1.getD k 0) [])[i]? = some x → ∃ j c, u[i]? = some j ∧ (iter R q (k + 1)).1[j]? = some c ∧ R c x = true := g5
    have g1' : OkO q.st.length (iter R q (k + 1)).1 := g1
    have up : ∀ {j c : Nat}, (iter R q k).1[j]? = some c → (iter R q (k + 1)).1[j]? = some c := fun {j c} z => by
      rw [e1, List.getElem?_append_left (List.getElem?_eq_some_iff.mp z).1]
      exact z
    refine ⟨⟨g1', up ih.hd, fun i s r hi hr => ?_⟩, by rw [e1, List.length_append]; omega⟩
    rw [e2] at hr
    have hlen := iter_len R q k
    by_cases hik : i < k
    · rw [List.getElem?_append_left (by omega)] at hr
      have hi2 : (iter R q k).1[i]? = some s := by
        rw [e1, List.getElem?_append_left (by omega)] at hi
        exact hi
      obtain ⟨a1, a2⟩ := ih.rw_ i s r hi2 hr
      exact ⟨a1, fun l hl => by
        obtain ⟨c, c1, c2⟩ := a2 l hl
        exact ⟨c, up c1, c2⟩⟩
    · have : i = k := by
        have := (List.getElem?_eq_some_iff.mp hr).1
        rw [List.length_append, hlen] at this
        simp at this
        omega
      subst this
      rw [List.getElem?_append_right (by omega), hlen, Nat.sub_self] at hr
      have : u = r := by simpa using hr
      subst this
      have : s = (iter R q i).1.getD i 0 := Option.some.inj (hi.symm.trans (up es))
      subst this
      refine ⟨by rw [g4, r1], fun l hl => ?_⟩
      obtain ⟨j, c, c1, c2, c3⟩ := g5' l _ (r3 l hl)
      refine ⟨c, ?_, c3⟩
      rw [List.getD_eq_getElem?_getD, c1]
      exact c2
theorem fin_ok {R : Nat → Nat → Bool} (hR : Rfl R) {q : Qn} (h : q.Ok) {k : Nat} (hk : IsEnd R q k) : (fin R q k).Ok ∧ (fin R q k).st.length = k ∧ (iter R q k).1.length = k ∧ k ≤ q.st.length := by
  obtain ⟨i, h2⟩ := iter_ok hR h k hk.2
  have e1 : (iter R q k).1.length = k := Nat.le_antisymm hk.1 h2
  have e2 : (fin R q k).st.length = k := iter_len R q k
  have hle := i.ok.le
  have h40 := h.n40
  have h1 : 1 ≤ k := by
    have := (List.getElem?_eq_some_iff.mp i.hd).1
    omega
  refine ⟨⟨h.l1, h.l3, by omega, by omega, fun r hr => ?_, by rw [e2]; show ((iter R q k).1.map q.o).length = k; rw [List.length_map, e1], fun x hx => ?_⟩, e2, e1, by omega⟩
  · obtain ⟨j, hj⟩ := List.getElem?_of_mem hr
    have hj' : (iter R q k).2[j]? = some r := hj
    have hjl := (List.getElem?_eq_some_iff.mp hj').1
    rw [iter_len] at hjl
    obtain ⟨a1, a2⟩ := i.rw_ j _ r (List.getElem?_eq_getElem (by omega)) hj'
    refine ⟨a1, fun x hx => ?_⟩
    obtain ⟨l, hl⟩ := List.getElem?_of_mem hx
    have hll := (List.getElem?_eq_some_iff.mp hl).1
    obtain ⟨c, c1, _⟩ := a2 l (by omega)
    rw [List.getD_eq_getElem?_getD, hl] at c1
    have := (List.getElem?_eq_some_iff.mp c1).1
    rw [e2]
    show x < k
    simp at this
    omega
  · obtain ⟨s, hs, rfl⟩ := List.mem_map.mp hx
    have hs2 := i.ok.lt s hs
    unfold Qn.o
    have := h.an
    rw [List.getD_eq_getElem?_getD, List.getElem?_eq_getElem (by omega)]
    exact h.a3 _ (List.getElem_mem _)
/-! ### the law's least -/
theorem w_lc_nat {fi : EI} {t : Tgt} {fe : EF} {own : List Nat} {τ : Sl} {M : Store} {Q : A → Store → Prop} {xs : List Nat} (g : Nat → A)
    (h : (fi τ M).W fun src M1 => src.size M1 = xs.length + 1 ∧ xs.length ≤ 1000000 ∧ (∀ M2, Pre M1 M2 → ∀ i, src.at M2 i = some (xs.map nI)[i]?) ∧ (∀ x M2, x ∈ xs → Pre M1 M2 → ∃ τ1, t.set (nI x) (wipeA τ own) = some τ1 ∧ (fe τ1 M2).W fun y M3 => y = g x ∧ Pre M2 M3) ∧
      (∀ l M2, M1.length ≤ l → Pre M1 M2 → M2[l]? = some (.lst (xs.map g)) → Q (.lst l) M2)) : (eLc fi t bYes fe own τ M).W Q := by
  refine w_lc_map (fun a => match a with
    | .int i => g i.toNat
    | a => a) (h.imp fun src M1 ⟨e, hz, hat, hs, hq⟩ => ?_)
  refine ⟨xs.map nI, by rw [List.length_map]; exact e, by rw [List.length_map, sizeLine_eq]; omega, hat, fun x M2 hx p => ?_, fun l M2 hl p h2 => hq l M2 hl p ?_⟩
  · obtain ⟨i, hi, rfl⟩ := List.mem_map.mp hx
    obtain ⟨τ1, e1, w⟩ := hs i M2 hi p
    exact ⟨τ1, e1, w⟩
  · rw [h2, List.map_map]
    rfl
theorem dyn_at {M M2 : Store} {l : Nat} {xs : List A} (h : M[l]? = some (.lst xs)) (p : Pre M M2) (i : Nat) : (Src.dyn l).at M2 i = some xs[i]? := by
  show (AB.listAt M2 l).map _ = _
  rw [listAt_of (Pre.at p h)]
  rfl
theorem dyn_size {M : Store} {l : Nat} {xs : List A} (h : M[l]? = some (.lst xs)) : (Src.dyn l).size M = xs.length + 1 := by
  show lenAt _ _ = _
  unfold lenAt
  rw [listAt_of h]
theorem eq_nil' {M : Store} {l k : Nat} {xs : List Nat} (h : listAt M l = some (xs.map nI)) (h2 : listAt M k = some []) : oEq (.lst l) (.lst k) M = some (.bl xs.isEmpty, M) := by
  unfold oEq
  rw [datS_list h, datS_nil h2]
  dsimp only
  cases xs with
  | nil => simp [PyData.eqv, PyData.eqvAll]
  | cons x xs => simp [PyData.eqv, PyData.eqvAll]
theorem flats (xs : List Nat) : (xs.map nI).mapM flat? = some (xs.map fun (n : Nat) => V.int (n : Int)) := by
  induction xs with
  | nil => rfl
  | cons x xs ih =>
    rw [List.map_cons, List.mapM_cons, ih]
    rfl
theorem ixFlat_eq (y : Nat) : ∀ (xs : List Nat) (j : Nat), ixFlat (.int y) (xs.map fun (n : Nat) => V.int (n : Int)) j = (xs.findIdx? fun c => c == y).map (· + j)
  | [], j => rfl
  | x :: xs, j => by
    show (if eqV (.int x) (.int y) = true then some j else ixFlat (.int y) (xs.map fun (n : Nat) => V.int (n : Int)) (j + 1)) = _
    rw [List.findIdx?_cons]
    have e : eqV (.int x) (.int y) = (x == y) := by
      show ((x : Int) == (y : Int)) = (x == y)
      by_cases h : x = y
      · subst h; simp
      · have : ¬ (x : Int) = (y : Int) := by omega
        rw [beq_eq_false_iff_ne.mpr this, beq_eq_false_iff_ne.mpr h]
    rw [e]
    by_cases h : x = y
    · subst h
      rw [beq_self_eq_true, if_pos rfl, if_pos rfl]
      show some j = some (0 + j)
      rw [Nat.zero_add]
    · have hb : (x == y) = false := by simp [h]
      rw [hb]
      simp only [Bool.false_eq_true, ↓reduceIte]
      rw [ixFlat_eq y xs (j + 1)]
      cases xs.findIdx? fun c => c == y with
      | none => rfl
      | some i =>
        show some (i + (j + 1)) = some (i + 1 + j)
        congr 1
        omega
theorem index_ok {M : Store} {l y j : Nat} {xs : List Nat} (h : listAt M l = some (xs.map nI)) (hj : xs.findIdx? (fun c => c == y) = some j) : oIndex (.lst l) [nI y] M = some (nI j, M) := by
  unfold oIndex
  dsimp only
  rw [h]
  dsimp only
  rw [flats, show flat? (nI y) = some (V.int y) from rfl]
  dsimp only
  rw [ixFlat_eq, hj]
  rfl
theorem filt_pos {R : Nat → Nat → Bool} {c x : Nat} (h : R c x = true) : [c].filter (fun c => R c x) = [c] := by simp [h]
theorem filt_neg {R : Nat → Nat → Bool} {c x : Nat} (h : ¬ R c x = true) : [c].filter (fun c => R c x) = [] := by simp [h]
theorem filter_none {R : Nat → Nat → Bool} {o : List Nat} {x : Nat} (h : (o.filter fun c => R c x) = []) : ixf R o x = none := by
  unfold ixf
  rw [List.findIdx?_eq_none_iff]
  intro c hc
  have := List.filter_eq_nil_iff.mp h c hc
  simpa using this
theorem filter_some {R : Nat → Nat → Bool} {x c : Nat} : ∀ {o t : List Nat}, (o.filter fun c => R c x) = c :: t → ∃ j, ixf R o x = some j ∧ o.findIdx? (fun d => d == c) = some j
  | [], t, h => by simp at h
  | a :: o, t, h => by
    unfold ixf
    rw [List.findIdx?_cons, List.findIdx?_cons]
    by_cases ha : R a x = true
    · simp only [List.filter_cons, ha, ↓reduceIte] at h
      have : a = c := (List.cons.inj h).1
      subst this
      exact ⟨0, by simp [ha], by simp⟩
    · simp only [List.filter_cons, ha, Bool.false_eq_true, ↓reduceIte] at h
      obtain ⟨j, h1, h2⟩ := filter_some h
      have hac : ¬ a = c := by
        intro z
        subst z
        have : a ∈ o.filter fun c => R c x := by rw [h]; simp
        exact ha (List.mem_filter.mp this).2
      unfold ixf at h1
      refine ⟨j + 1, ?_, ?_⟩
      · simp [ha, h1]
      · simp [hac, h2]
def Rfd (fd : List (Nat × Nat)) (c x : Nat) : Bool := !decide ((c, x) ∈ fd)
end P66
namespace P66
open PySem PySem.Spec PyProof.Rows L2 AB
/-! ### distinct -/
theorem dstep (ks : List Int) (a : Int) : step_dedup ks a = if a ∈ ks then ks else ks ++ [a] := PySem.W.oss_step ks a
theorem dnext (l : List Int) (k : Int) : dedup (l ++ [k]) = if k ∈ dedup l then dedup l else dedup l ++ [k] := by
  unfold dedup
  rw [List.foldl_append, List.foldl_cons, List.foldl_nil, dstep]
def cnt (g : Nat → Nat) (n : Nat) : Nat := (dedup ((List.range n).map fun i => (g i : Int))).length
theorem cnt_succ (g : Nat → Nat) (n : Nat) : ((List.range (n + 1)).map fun i => (g i : Int)) = ((List.range n).map fun i => (g i : Int)) ++ [(g n : Int)] := by
  rw [List.range_succ, List.map_append]
  rfl
theorem mem_ded (g : Nat → Nat) : ∀ n (x : Nat), ((x : Int) ∈ dedup ((List.range n).map fun i => (g i : Int)) ↔ ∃ i, i < n ∧ g i = x)
  | 0, x => by simp [dedup]
  | n + 1, x => by
    rw [cnt_succ, dnext]
    have ih := mem_ded g n
    by_cases h : ((g n : Nat) : Int) ∈ dedup ((List.range n).map fun i => (g i : Int))
    · rw [if_pos h, ih]
      constructor
      · rintro ⟨i, hi, e⟩; exact ⟨i, by omega, e⟩
      · rintro ⟨i, hi, e⟩
        by_cases z : i = n
        · subst z
          obtain ⟨j, hj, e2⟩ := (ih _).mp h
          exact ⟨j, hj, by rw [e2, e]⟩
        · exact ⟨i, by omega, e⟩
    · rw [if_neg h, List.mem_append, ih, List.mem_singleton]
      constructor
      · rintro (⟨i, hi, e⟩ | e)
        · exact ⟨i, by omega, e⟩
        · exact ⟨n, by omega, by omega⟩
      · rintro ⟨i, hi, e⟩
        by_cases z : i = n
        · subst z; right; omega
        · left; exact ⟨i, by omega, e⟩
theorem cnt_le (g : Nat → Nat) : ∀ n, cnt g n ≤ n
  | 0 => by simp [cnt, dedup]
  | n + 1 => by
    have := cnt_le g n
    unfold cnt at *
    rw [cnt_succ, dnext]
    split
    · omega
    · rw [List.length_append]; simp; omega
theorem cnt_pos (g : Nat → Nat) {n : Nat} (h : 1 ≤ n) : 1 ≤ cnt g n := by
  have := (mem_ded g n (g 0)).mpr ⟨0, by omega, rfl⟩
  unfold cnt
  exact List.length_pos_of_mem this
/-- a finer parting of no more parts is the same parting -/
theorem cnt_fine (g p : Nat → Nat) : ∀ n, (∀ s t, s < n → t < n → p s = p t → g s = g t) → cnt g n ≤ cnt p n ∧ (cnt p n ≤ cnt g n → ∀ s t, s < n → t < n → g s = g t → p s = p t)
  | 0, _ => ⟨by simp [cnt, dedup], fun _ s t h => absurd h (Nat.not_lt_zero _)⟩
  | n + 1, h => by
    obtain ⟨h1, h2⟩ := cnt_fine g p n fun s t hs ht => h s t (by omega) (by omega)
    have eg : cnt g (n + 1) = if ∃ i, i < n ∧ g i = g n then cnt g n else cnt g n + 1 := by
      unfold cnt
      rw [cnt_succ, dnext]
      by_cases z : ∃ i, i < n ∧ g i = g n
      · rw [if_pos z, if_pos ((mem_ded g n _).mpr z)]
      · rw [if_neg z, if_neg fun y => z ((mem_ded g n _).mp y), List.length_append]; rfl
    have ep : cnt p (n + 1) = if ∃ i, i < n ∧ p i = p n then cnt p n else cnt p n + 1 := by
      unfold cnt
      rw [cnt_succ, dnext]
      by_cases z : ∃ i, i < n ∧ p i = p n
      · rw [if_pos z, if_pos ((mem_ded p n _).mpr z)]
      · rw [if_neg z, if_neg fun y => z ((mem_ded p n _).mp y), List.length_append]; rfl
    have hpg : (∃ i, i < n ∧ p i = p n) → ∃ i, i < n ∧ g i = g n := fun ⟨i, hi, e⟩ => ⟨i, hi, h i n (by omega) (by omega) e⟩
    rw [eg, ep]
    by_cases zp : ∃ i, i < n ∧ p i = p n
    · rw [if_pos zp, if_pos (hpg zp)]
      refine ⟨h1, fun hle s t hs ht e => ?_⟩
      have hh := h2 hle
      obtain ⟨i, hi, ei⟩ := zp
      have red : ∀ s, s < n + 1 → ∃ s', s' < n ∧ p s' = p s ∧ g s' = g s := fun s hs => by
        by_cases z : s = n
        · subst z; exact ⟨i, hi, ei, h i s (by omega) (by omega) ei⟩
        · exact ⟨s, by omega, rfl, rfl⟩
      obtain ⟨s', a1, a2, a3⟩ := red s hs
      obtain ⟨t', b1, b2, b3⟩ := red t ht
      rw [← a2, ← b2]
      exact hh s' t' a1 b1 (by rw [a3, b3, e])
    · rw [if_neg zp]
      by_cases zg : ∃ i, i < n ∧ g i = g n
      · rw [if_pos zg]
        exact ⟨by omega, fun hle => absurd h1 (by omega)⟩
      · rw [if_neg zg]
        refine ⟨by omega, fun hle s t hs ht e => ?_⟩
        have hh := h2 (by omega)
        by_cases z1 : s = n
        · by_cases z2 : t = n
          · rw [z1, z2]
          · exact absurd ⟨t, by omega, by rw [← e, z1]⟩ zg
        · by_cases z2 : t = n
          · exact absurd ⟨s, by omega, by rw [e, z2]⟩ zg
          · exact hh s t (by omega) (by omega) e
/-! ### groups -/
def gf (G : List Nat) (s : Nat) : Nat := G.getD s 0
def sg (q : Qn) (G : List Nat) (s : Nat) : Nat × List Nat := (gf G s, (q.st.getD s []).map (gf G))
def nk (s : Nat × List Nat) : NestedKey := .tup [.num (s.1 : Int), .tup (s.2.map fun (n : Nat) => .num (n : Int))]
theorem nums_inj : ∀ {a b : List Nat}, (a.map fun (n : Nat) => NestedKey.num (n : Int)) = (b.map fun (n : Nat) => NestedKey.num (n : Int)) → a = b
  | [], [], _ => rfl
  | [], _ :: _, h => by cases h
  | _ :: _, [], h => by cases h
  | x :: xs, y :: ys, h => by
    rw [List.map_cons, List.map_cons] at h
    injection h with h1 h2
    injection h1 with h1
    rw [nums_inj h2, show x = y by omega]
theorem nk_inj {a b : Nat × List Nat} (h : nk a = nk b) : a = b := by
  unfold nk at h
  injection h with h
  injection h with h1 h2
  injection h2 with h2 _
  injection h1 with h1
  injection h2 with h2
  exact Prod.ext (by omega) (nums_inj h2)
theorem nkeys_ints : ∀ r : List Nat, nkeys? (r.map nI) = some (r.map fun (n : Nat) => NestedKey.num (n : Int))
  | [] => by simp [nkeys?]
  | x :: xs => by simp [nkeys?, nkey?, nkeys_ints xs]
theorem nkey_sg (s : Nat × List Nat) : nkey? (.tup [nI s.1, tI s.2]) = some (nk s) := by
  simp only [nkey?, nkeys?, nkeys_ints, Option.map_some]
  rfl
theorem depth_nums : ∀ r : List Nat, NestedKey.depthAll (r.map fun (n : Nat) => NestedKey.num (n : Int)) = 0
  | [] => by simp [NestedKey.depthAll]
  | x :: xs => by simp [NestedKey.depthAll, NestedKey.depth, depth_nums xs]
theorem depth_nk (s : Nat × List Nat) : (nk s).depth = 2 := by
  simp [nk, NestedKey.depth, NestedKey.depthAll, depth_nums]
def kvOf : Nat → List (Nat × List Nat) → List (NestedKey × A)
  | _, [] => []
  | i, d :: ds => (nk d, nI i) :: kvOf (i + 1) ds
theorem kvOf_app : ∀ (i : Nat) (ds : List (Nat × List Nat)) (d : Nat × List Nat), kvOf i (ds ++ [d]) = kvOf i ds ++ [(nk d, nI (i + ds.length))]
  | i, [], d => rfl
  | i, x :: xs, d => by
    show (nk x, nI i) :: kvOf (i + 1) (xs ++ [d]) = _
    rw [kvOf_app (i + 1) xs d]
    show _ = (nk x, nI i) :: (kvOf (i + 1) xs ++ [(nk d, nI (i + (xs.length + 1)))])
    rw [show i + 1 + xs.length = i + (xs.length + 1) by omega]
theorem kvOf_len : ∀ (i : Nat) (ds : List (Nat × List Nat)), (kvOf i ds).length = ds.length
  | _, [] => rfl
  | i, x :: xs => by
    show (kvOf (i + 1) xs).length + 1 = xs.length + 1
    rw [kvOf_len]
theorem valA_kv (s : Nat × List Nat) : ∀ (i : Nat) (ds : List (Nat × List Nat)), (∃ j, ds[j]? = some s ∧ valA (kvOf i ds) (nk s) = some (nI (i + j))) ∨ (s ∉ ds ∧ valA (kvOf i ds) (nk s) = none)
  | i, [] => .inr ⟨by simp, rfl⟩
  | i, x :: xs => by
    by_cases h : x = s
    · subst h
      refine .inl ⟨0, rfl, ?_⟩
      unfold valA kvOf
      rw [List.find?_cons]
      simp
    · have hn : ¬ nk x = nk s := fun z => h (nk_inj z)
      have e : valA (kvOf i (x :: xs)) (nk s) = valA (kvOf (i + 1) xs) (nk s) := by
        unfold valA
        show Option.map _ (List.find? _ ((nk x, nI i) :: kvOf (i + 1) xs)) = _
        rw [List.find?_cons]
        simp [hn]
      rw [e]
      rcases valA_kv s (i + 1) xs with ⟨j, h1, h2⟩ | ⟨h1, h2⟩
      · exact .inl ⟨j + 1, by simpa using h1, by rw [h2, show i + 1 + j = i + (j + 1) by omega]⟩
      · refine .inr ⟨?_, h2⟩
        simp only [List.mem_cons, not_or]
        exact ⟨fun z => h z.symm, h1⟩
theorem pairs_get : ∀ (xs : List A) (n i : Nat), (pairsFrom n xs)[i]? = xs[i]?.map fun x => A.tup [nI (n + i), x]
  | [], n, i => by simp [pairsFrom]
  | x :: xs, n, 0 => by simp [pairsFrom]
  | x :: xs, n, i + 1 => by
    simp only [pairsFrom, List.getElem?_cons_succ]
    rw [pairs_get xs (n + 1) i, show n + 1 + i = n + (i + 1) by omega]
theorem pairs_len : ∀ (xs : List A) (n : Nat), (pairsFrom n xs).length = xs.length
  | [], _ => rfl
  | x :: xs, n => by
    show (pairsFrom (n + 1) xs).length + 1 = xs.length + 1
    rw [pairs_len]
theorem setd_old {M : Store} {d i j : Nat} {ds : List (Nat × List Nat)} {s : Nat × List Nat} {y : A} (h : M[d]? = some (.dN (kvOf 0 ds))) (hz : ds.length < 1000) (e : valA (kvOf 0 ds) (nk s) = some (nI j)) : oSetd (.dct d) [.tup [nI s.1, tI s.2], y] M = some (nI j, M) := by
  unfold oSetd
  dsimp only
  rw [h, nkey_sg]
  show (if (nk s).depth ≤ 8 ∧ (kvOf 0 ds).length < sizeLine then match valA (kvOf 0 ds) (nk s) with
    | some z => some (z, M)
    | none => some (y, M.set d (.dN (kvOf 0 ds ++ [(nk s, y)]))) else none) = _
  rw [if_pos (by rw [depth_nk, kvOf_len, sizeLine_eq]; omega), e]
theorem setd_new {M : Store} {d : Nat} {ds : List (Nat × List Nat)} {s : Nat × List Nat} {y : A} (h : M[d]? = some (.dN (kvOf 0 ds))) (hz : ds.length < 1000) (e : valA (kvOf 0 ds) (nk s) = none) : oSetd (.dct d) [.tup [nI s.1, tI s.2], y] M = some (y, M.set d (.dN (kvOf 0 ds ++ [(nk s, y)]))) := by
  unfold oSetd
  dsimp only
  rw [h, nkey_sg]
  show (if (nk s).depth ≤ 8 ∧ (kvOf 0 ds).length < sizeLine then match valA (kvOf 0 ds) (nk s) with
    | some z => some (z, M)
    | none => some (y, M.set d (.dN (kvOf 0 ds ++ [(nk s, y)]))) else none) = _
  rw [if_pos (by rw [depth_nk, kvOf_len, sizeLine_eq]; omega), e]
theorem parted_ok {q : Qn} (h : q.Ok) {M : Store} {lg : Nat} {G : List Nat} (hG : M[lg]? = some (.lst (G.map nI))) (hGl : G.length = q.st.length) :
    (F_parted_groups [.tup (q.st.map tI), .lst lg] M).W fun a M' => ∃ l P, a = .lst l ∧ M'[l]? = some (.lst (P.map nI)) ∧ P.length = q.st.length ∧ (∀ s t, s < q.st.length → t < q.st.length → (gf P s = gf P t ↔ sg q G s = sg q G t)) ∧ M.length ≤ l ∧ Pre M M' := by
  have h40 := h.n40
  have gget : ∀ s, s < q.st.length → G[s]? = some (gf G s) := fun s hs => by
    unfold gf
    rw [List.getD_eq_getElem?_getD, List.getElem?_eq_getElem (by omega)]
    rfl
  have hlg := at_lt hG
  refine w_def ?_
  unfold S_parted_groups
  repeat walk_at "ws"
  refine ⟨by simp, ?_⟩
  walk_at "ws"
  have ⟨ld, hld⟩ : ∃ ld, ld = M.length := ⟨_, rfl⟩
  have ⟨lp, hlp⟩ : ∃ lp, lp = M.length + 1 := ⟨_, rfl⟩
  refine w_for ?_
  with_reducible refine w_enumT ?_
  repeat walk_at "ws"
  refine ⟨_, rfl, pairsFrom 0 (q.st.map tI), fun i τ M' => ∃ (P : List Nat) (D : List (Nat × List Nat)) (y4 y5 y6 y7 : Option A), τ = [some (.tup (q.st.map tI)), some (.lst lg), some (.dct ld), some (.lst lp), y4, y5, y6, y7] ∧ M'[ld]? = some (.dN (kvOf 0 D)) ∧ M'[lp]? = some (.lst (P.map nI)) ∧ P.length = i ∧ D.length ≤ i ∧ D.Nodup ∧ (∀ t, t < i → D[gf P t]? = some (sg q G t)) ∧ Pre M M', by simp [Src.size], ?_, fun _ _ _ _ => rfl, ?_, ?_⟩
  · exact ⟨[], [], none, none, none, none, by rw [hld, hlp, List.length_append]; rfl, by rw [hld]; exact at_app at_new, by rw [hlp]; simp, rfl, by simp, by simp, fun t z => absurd z (Nat.not_lt_zero _), (Fr.refl.app _).app _⟩
  · rintro i x τ M1 hx ⟨P, D, y4, y5, y6, y7, rfl, hd, hp, hPl, hDl, hDn, hDs, p1⟩
    rw [pairs_get, List.getElem?_map] at hx
    obtain ⟨x2, hx2, rfl⟩ := Option.map_eq_some_iff.mp hx
    obtain ⟨r, hr, rfl⟩ := Option.map_eq_some_iff.mp hx2
    have hi := (List.getElem?_eq_some_iff.mp hr).1
    have er : q.st.getD i [] = r := by rw [List.getD_eq_getElem?_getD, hr]; rfl
    have hrr := h.row r (List.mem_of_getElem? hr)
    have hG1 := Pre.at p1 hG
    have e0 : nI (0 + i) = nI i := by rw [Nat.zero_add]
    rw [e0]
    refine ⟨_, rfl, ?_⟩
    repeat walk_at "ws"
    refine w_toE (ix_lst (listAt_of hG1) (by rw [List.getElem?_map, gget i hi]; rfl)) ?_
    repeat walk_at "ws"
    refine w_lc_nat (xs := r) (fun c => nI (gf G c)) ?_
    with_reducible refine w_iSeqT ?_
    walk_at "ws"
    refine ⟨_, rfl, by simp [Src.size], by rw [hrr.1]; have := h.l3; omega, fun _ _ _ => rfl, fun c M2 hc p2 => ⟨_, rfl, ?_⟩, fun l M2 hl p2 h2 => ?_⟩
    · repeat walk_at "ws"
      exact w_toE (ix_lst (listAt_of (Pre.at p2 hG1)) (by rw [List.getElem?_map, gget c (hrr.2 c hc)]; rfl)) ⟨rfl, Fr.refl⟩
    · repeat walk_at "ws"
      refine w_toE (tuple_lst (listAt_of h2)) ?_
      walk_at "ws"
      refine ⟨by simp [sizeLine_eq], ?_⟩
      repeat walk_at "ws"
      have hp2 := Pre.at p2 hp
      have hd2 := Pre.at p2 hd
      have esg : A.tup [nI (gf G i), .tup (r.map fun c => nI (gf G c))] = .tup [nI (sg q G i).1, tI (sg q G i).2] := by
        unfold sg tI
        dsimp only
        rw [er, List.map_map]
        rfl
      refine ⟨isL_of hp2, ?_⟩
      repeat walk_at "ws"
      refine ⟨by show (match M2[ld]? with | some (.dN _) => true | _ => false) = true; rw [hd2], ?_⟩
      repeat walk_at "ws"
      refine w_toE (show oLenN [.dct ld] M2 = some (nI D.length, M2) by
        show (match M2[ld]? with
          | some (.dN kvs) => some (A.int (kvs.length : Nat), M2)
          | _ => oLen [.dct ld] M2) = _
        rw [hd2]
        dsimp only
        rw [kvOf_len]) ?_
      walk_at "ws"
      rw [esg]
      have fin : ∀ (j : Nat) (D' : List (Nat × List Nat)) (M3 : Store), M3[ld]? = some (.dN (kvOf 0 D')) → M3[lp]? = some (.lst (P.map nI)) → D'.length ≤ i + 1 → D'.Nodup → (∀ t, t < i → D'[gf P t]? = some (sg q G t)) → D'[j]? = some (sg q G i) → Pre M M3 →
          (toE (oAppend (.lst lp) [nI j] M3)).W fun _ M1 => (sNil [some (.tup (q.st.map tI)), some (.lst lg), some (.dct ld), some (.lst lp), some (nI i), some (tI r), some (.tup [nI (sg q G i).1, tI (sg q G i).2]), y7] M1).W (fun τ M' => ∃ (P : List Nat) (D : List (Nat × List Nat)) (y4 y5 y6 y7 : Option A), τ = [some (.tup (q.st.map tI)), some (.lst lg), some (.dct ld), some (.lst lp), y4, y5, y6, y7] ∧ M'[ld]? = some (.dN (kvOf 0 D)) ∧ M'[lp]? = some (.lst (P.map nI)) ∧ P.length = i + 1 ∧ D.length ≤ i + 1 ∧ D.Nodup ∧ (∀ t, t < i + 1 → D[gf P t]? = some (sg q G t)) ∧ Pre M M') (fun a M' => ∃ l P, a = .lst l ∧ M'[l]? = some (.lst (P.map nI)) ∧ P.length = q.st.length ∧ (∀ s t, s < q.st.length → t < q.st.length → (gf P s = gf P t ↔ sg q G s = sg q G t)) ∧ M.length ≤ l ∧ Pre M M') := by
        intro j D' M3 a1 a2 a3 a4 a5 a6 a7
        refine w_toE (append_ok a2 (by rw [List.length_map]; omega)) ?_
        walk_at "ws"
        refine ⟨P ++ [j], D', _, _, _, _, rfl, at_ne (by omega) a1, by rw [at_set a2, List.map_append]; rfl, by simp; omega, a3, a4, fun t ht => ?_, a7.set (by omega)⟩
        by_cases e : t = i
        · subst e
          rw [show gf (P ++ [j]) t = j by unfold gf; rw [List.getD_eq_getElem?_getD, List.getElem?_append_right (by omega), hPl, Nat.sub_self]; rfl]
          exact a6
        · rw [show gf (P ++ [j]) t = gf P t by unfold gf; rw [List.getD_eq_getElem?_getD, List.getElem?_append_left (by omega), List.getD_eq_getElem?_getD]]
          exact a5 t (by omega)
      rcases valA_kv (sg q G i) 0 D with ⟨j, hj, ej⟩ | ⟨hnm, en⟩
      · rw [Nat.zero_add] at ej
        refine w_toE (setd_old (i := 0) hd2 (by omega) ej) ?_
        walk_at "ws"
        exact fin j D M2 hd2 hp2 (by omega) hDn hDs hj (p1.trans p2)
      · refine w_toE (setd_new hd2 (by omega) en) ?_
        walk_at "ws"
        have ek : kvOf 0 D ++ [(nk (sg q G i), nI D.length)] = kvOf 0 (D ++ [sg q G i]) := by rw [kvOf_app, Nat.zero_add]
        rw [ek]
        refine fin D.length (D ++ [sg q G i]) _ (at_set hd2) (at_ne (by omega) hp2) (by simp; omega) ?_ (fun t ht => ?_) (by simp) ((p1.trans p2).set (by omega))
        · rw [List.nodup_append]
          refine ⟨hDn, by simp, fun x hx y hy => ?_⟩
          rw [List.mem_singleton.mp hy]
          exact fun z => hnm (z ▸ hx)
        · have := hDs t ht
          rw [List.getElem?_append_left (List.getElem?_eq_some_iff.mp this).1]
          exact this
  · rintro τ M1 ⟨P, D, y4, y5, y6, y7, rfl, hd, hp, hPl, hDl, hDn, hDs, p1⟩
    rw [pairs_len, List.length_map] at hPl hDs
    repeat walk_at "ws"
    refine ⟨lp, P, rfl, hp, hPl, fun s t hs ht => ⟨fun e => ?_, fun e => ?_⟩, by omega, p1⟩
    · have a1 := hDs s hs
      have a2 := hDs t ht
      rw [e] at a1
      exact Option.some.inj (a1.symm.trans a2)
    · have a1 := hDs s hs
      have a2 := hDs t ht
      rw [← e] at a2
      obtain ⟨b1, c1⟩ := List.getElem?_eq_some_iff.mp a1
      obtain ⟨b2, c2⟩ := List.getElem?_eq_some_iff.mp a2
      exact (List.getElem_inj hDn).mp (c1.trans c2.symm)
end P66
namespace P66
open PySem PySem.Spec PyProof.Rows L2 AB
theorem ints_nat : ∀ xs : List Nat, ints? (xs.map nI) = some (xs.map fun (n : Nat) => (n : Int))
  | [] => rfl
  | x :: xs => by
    show (ints? (xs.map nI)).map ((x : Int) :: ·) = _
    rw [ints_nat xs]
    rfl
theorem lenset_ok {M : Store} {l : Nat} {G : List Nat} (h : M[l]? = some (.lst (G.map nI))) (hz : G.length ≤ 4000) : oLenSet (.lst l) M = some (nI (cnt (gf G) G.length), M) := by
  unfold oLenSet
  dsimp only
  rw [listAt_of h]
  dsimp only
  rw [ints_nat]
  dsimp only
  rw [if_pos (by rw [List.length_map]; exact hz)]
  have e : (G.map fun (n : Nat) => (n : Int)) = (List.range G.length).map fun i => ((gf G i : Nat) : Int) := by
    refine List.ext_getElem (by simp) fun i h1 h2 => ?_
    have hi : i < G.length := by simpa using h1
    simp [gf, List.getD_eq_getElem?_getD, List.getElem?_eq_getElem hi]
  rw [e]
  rfl
theorem sg_step {q : Qn} (h : q.Ok) {G : List Nat} {s t : Nat} (hs : s < q.st.length) (ht : t < q.st.length) (e : sg q G s = sg q G t) : gf G s = gf G t ∧ ∀ l, l < q.L → gf G (q.d s l) = gf G (q.d t l) := by
  unfold sg at e
  injection e with e1 e2
  refine ⟨e1, fun l hl => ?_⟩
  have a := congrArg (·[l]?) e2
  simp only [List.getElem?_map, (row_get h hs).2.2 l hl, (row_get h ht).2.2 l hl, Option.map_some, Option.some.injEq] at a
  exact a
theorem sg_of {q : Qn} (h : q.Ok) {G : List Nat} {s t : Nat} (hs : s < q.st.length) (ht : t < q.st.length) (e : gf G s = gf G t) (e2 : ∀ l, l < q.L → gf G (q.d s l) = gf G (q.d t l)) : sg q G s = sg q G t := by
  unfold sg
  rw [e]
  congr 1
  refine List.ext_getElem? fun l => ?_
  rw [List.getElem?_map, List.getElem?_map]
  have r1 := row_get h hs
  have r2 := row_get h ht
  by_cases hl : l < q.L
  · rw [r1.2.2 l hl, r2.2.2 l hl]
    show some _ = some _
    rw [e2 l hl]
  · rw [List.getElem?_eq_none (by omega), List.getElem?_eq_none (by omega)]
theorem groups_ok {q : Qn} (h : q.Ok) {M : Store} : (F_groups_of [q.A, .non] M).W fun a M' => ∃ l G, a = .lst l ∧ M'[l]? = some (.lst (G.map nI)) ∧ G.length = q.st.length ∧ (∀ s t, s < q.st.length → t < q.st.length → (gf G s = gf G t ↔ Eqv q q s t)) ∧ M.length ≤ l ∧ Pre M M' := by
  have h40 := h.n40
  have h1 := h.n1
  refine w_def ?_
  unfold S_groups_of
  repeat walk_at "ws"
  refine w_toE ixQ2 ?_
  repeat walk_at "ws"
  refine w_toE (show oList [tI q.an] M = some (.lst M.length, M ++ [.lst (q.an.map nI)]) from rfl) ?_
  repeat walk_at "ws"
  refine w_while (I := fun m τ M' => ∃ (lg many : Nat) (G : List Nat), τ = [some q.A, some .non, some (.lst lg), some (nI many)] ∧ M'[lg]? = some (.lst (G.map nI)) ∧ G.length = q.st.length ∧ (∀ s t, s < q.st.length → t < q.st.length → Eqv q q s t → gf G s = gf G t) ∧ (∀ s t, s < q.st.length → t < q.st.length → gf G s = gf G t → q.o s = q.o t) ∧
    (many = 0 ∨ ∃ P0 : List Nat, many = cnt (gf P0) q.st.length ∧ ∀ s t, s < q.st.length → t < q.st.length → (gf G s = gf G t ↔ sg q P0 s = sg q P0 t)) ∧ m = q.st.length - many ∧ M.length ≤ lg ∧ Pre M M') ?_ fuel q.st.length _ _ (by unfold fuel; omega) ?_
  · rintro m τ M1 ⟨lg, many, G, rfl, hG, hGl, hco, hou, hpr, hm, hlg, p1⟩
    repeat walk_at "ws"
    refine w_toE (lenset_ok hG (by omega)) ?_
    repeat walk_at "ws"
    refine w_toE rfl ⟨_, rfl, ?_⟩
    rw [hGl]
    have hcl := cnt_le (gf G) q.st.length
    have hcp := cnt_pos (gf G) h1
    by_cases hlt : many < cnt (gf G) q.st.length
    · rw [if_pos (by simp; exact hlt)]
      repeat walk_at "ws"
      refine w_toE (lenset_ok hG (by omega)) ?_
      repeat walk_at "ws"
      refine w_toE rfl ⟨false, rfl, ?_⟩
      rw [if_neg (by simp), if_neg (by simp)]
      repeat walk_at "ws"
      refine w_toE ixQ1 ?_
      repeat walk_at "ws"
      refine ⟨rfl, (parted_ok h hG hGl).imp ?_⟩
      rintro _ M2 ⟨l2, P, rfl, hP, hPl, hPs, hl2, p2⟩
      walk_at "ws"
      rw [hGl]
      refine ⟨q.st.length - cnt (gf G) q.st.length, by omega, l2, cnt (gf G) q.st.length, P, rfl, hP, hPl, fun s t hs ht e => ?_, fun s t hs ht e => ?_, .inr ⟨G, rfl, hPs⟩, rfl, p1.lt hl2, p1.trans p2⟩
      · exact (hPs s t hs ht).mpr (sg_of h hs ht (hco s t hs ht e) fun l hl => hco _ _ (h.d_lt hs hl) (h.d_lt ht hl) (e.step hl))
      · exact hou s t hs ht (sg_step h hs ht ((hPs s t hs ht).mp e)).1
    · rw [if_neg (by simp; omega)]
      repeat walk_at "ws"
      refine ⟨lg, G, rfl, hG, hGl, fun s t hs ht => ⟨fun e w hw => ?_, hco s t hs ht⟩, hlg, p1⟩
      rcases hpr with z | ⟨P0, e0, hP0⟩
      · omega
      · have hf := (cnt_fine (gf P0) (gf G) q.st.length fun s t hs ht e => (sg_step h hs ht ((hP0 s t hs ht).mp e)).1).2 (by omega)
        exact eqv_of rfl h h (fun a b => gf G a = gf G b) (fun a b ha hb hB => ⟨hou a b ha hb hB, fun l hl => hf _ _ (h.d_lt ha hl) (h.d_lt hb hl) ((sg_step h ha hb ((hP0 a b ha hb).mp hB)).2 l hl)⟩) w hs ht e hw
  · refine ⟨M.length, 0, q.an, rfl, at_new, h.an, fun s t hs ht e => e.out, fun s t hs ht e => e, .inl rfl, rfl, Nat.le_refl _, Fr.refl.app _⟩
/-! ### least_of -/
def nkv (G : List Nat) : Nat → List Nat → List (Key × A)
  | _, [] => []
  | i, c :: cs => (Sum.inl ((gf G c : Nat) : Int), nI i) :: nkv G (i + 1) cs
theorem nkv_app (G : List Nat) : ∀ (i : Nat) (ds : List Nat) (d : Nat), nkv G i (ds ++ [d]) = nkv G i ds ++ [(Sum.inl ((gf G d : Nat) : Int), nI (i + ds.length))]
  | i, [], d => rfl
  | i, x :: xs, d => by
    show (_, nI i) :: nkv G (i + 1) (xs ++ [d]) = _
    rw [nkv_app G (i + 1) xs d]
    show _ = (_, nI i) :: (nkv G (i + 1) xs ++ [(_, nI (i + (xs.length + 1)))])
    rw [show i + 1 + xs.length = i + (xs.length + 1) by omega]
theorem nkv_len (G : List Nat) : ∀ (i : Nat) (ds : List Nat), (nkv G i ds).length = ds.length
  | _, [] => rfl
  | i, x :: xs => by
    show (nkv G (i + 1) xs).length + 1 = xs.length + 1
    rw [nkv_len]
def Rg (G : List Nat) (c x : Nat) : Bool := decide (gf G c = gf G x)
theorem valA_nkv (G : List Nat) (x : Nat) : ∀ (i : Nat) (o : List Nat), valA (nkv G i o) (Sum.inl ((gf G x : Nat) : Int)) = (ixf (Rg G) o x).map fun j => nI (i + j)
  | i, [] => rfl
  | i, c :: cs => by
    unfold valA ixf
    show Option.map _ (List.find? _ ((Sum.inl ((gf G c : Nat) : Int), nI i) :: nkv G (i + 1) cs)) = _
    rw [List.find?_cons, List.findIdx?_cons]
    by_cases h : gf G c = gf G x
    · simp [h, Rg]
    · have h2 : ¬ ((gf G c : Nat) : Int) = ((gf G x : Nat) : Int) := by omega
      have ih := valA_nkv G x (i + 1) cs
      unfold valA ixf at ih
      simp only [h, h2, Rg, Sum.inl.injEq, decide_false, Bool.false_eq_true, ↓reduceIte]
      simp only [Rg] at ih
      rw [ih, Option.map_map]
      congr 1
      funext j
      show nI (i + 1 + j) = nI (i + (j + 1))
      rw [show i + 1 + j = i + (j + 1) by omega]
theorem Rg_rfl (G : List Nat) : Rfl (Rg G) := fun x => by simp [Rg]
section
variable {M : Store} {l x : Nat} {G o : List Nat}
theorem notin_K (h : M[l]? = some (.dK (nkv G 0 o))) : oNotIn (nI (gf G x)) (.dct l) M = some (.bl (!(ixf (Rg G) o x).isSome), M) := by
  unfold oNotIn notO oIn dGet
  dsimp only
  rw [h]
  dsimp only
  show (match ((key? (nI (gf G x))).map fun j => valA (nkv G 0 o) j).map fun o => (A.bl o.isSome, M) with
    | some (.bl c, M) => some (A.bl (!c), M)
    | _ => none) = _
  rw [show key? (nI (gf G x)) = some (Sum.inl ((gf G x : Nat) : Int)) from rfl]
  dsimp only [Option.map_some]
  rw [valA_nkv]
  simp
theorem get_K {j : Nat} (h : M[l]? = some (.dK (nkv G 0 o))) (e : ixf (Rg G) o x = some j) : oDget (.dct l) (nI (gf G x)) M = some (nI j, M) := by
  unfold oDget dGet
  dsimp only
  rw [h]
  dsimp only
  rw [show key? (nI (gf G x)) = some (Sum.inl ((gf G x : Nat) : Int)) from rfl]
  dsimp only [Option.map_some]
  rw [valA_nkv, e]
  dsimp only [Option.map_some]
  rw [Nat.zero_add]
theorem put_K (h : M[l]? = some (.dK (nkv G 0 o))) (e : ixf (Rg G) o x = none) (hz : o.length < 1000) : dPut M l (nI (gf G x)) (nI o.length) = some (M.set l (.dK (nkv G 0 (o ++ [x])))) := by
  unfold dPut
  rw [h]
  dsimp only
  rw [if_pos (by rw [nkv_len, sizeLine_eq]; omega), show key? (nI (gf G x)) = some (Sum.inl ((gf G x : Nat) : Int)) from rfl]
  dsimp only [Option.map_some]
  have hv := valA_nkv G x 0 o
  rw [e] at hv
  unfold putA
  rw [if_neg, nkv_app, Nat.zero_add]
  intro z
  obtain ⟨p, hp, e2⟩ := List.any_eq_true.mp z
  unfold valA at hv
  simp only [Option.map_none, Option.map_eq_none_iff, List.find?_eq_none] at hv
  exact hv p hp e2
end
theorem w_disp1 {τ : Sl} {M : Store} {fk fv : EF} {Q : A → Store → Prop} (h : (fk τ (M ++ [.dK []])).W fun k M2 => (fv τ M2).W fun v M3 => ∃ j, key? k = some j ∧ M3[M.length]? = some (.dK []) ∧ Q (.dct M.length) (M3.set M.length (.dK [(j, v)]))) : (eDisp1 fk fv τ M).W Q :=
  w_bind (h.imp fun k M2 h2 => w_bind (h2.imp fun v M3 ⟨j, e1, e2, h3⟩ => by
    unfold dispK
    rw [e2, e1]
    exact w_C (τ := τ) h3))
def IsSmall (q p : Qn) : Prop := ∃ R k, Rfl R ∧ (∀ a b, a < q.st.length → b < q.st.length → (R a b = true ↔ Eqv q q a b)) ∧ IsEnd R q k ∧ p = fin R q k
theorem least_of_ok {q : Qn} (h : q.Ok) {M : Store} : (F_least_of [q.A, .non] M).W fun a M' => ∃ p, IsSmall q p ∧ a = p.A ∧ Pre M M' := by
  have h40 := h.n40
  have h3 := h.l3
  have h1 := h.n1
  refine w_def ?_
  unfold S_least_of
  walk_at "ws"
  with_reducible refine w_asg ?_
  repeat walk_at "ws"
  refine ⟨_, rfl, ?_⟩
  repeat walk_at "ws"
  refine ⟨rfl, (groups_ok h).imp ?_⟩
  rintro _ M1 ⟨lg, G, rfl, hG, hGl, hsem, hlg, p1⟩
  have gget : ∀ s, s < q.st.length → G[s]? = some (gf G s) := fun s hs => by
    unfold gf
    rw [List.getD_eq_getElem?_getD, List.getElem?_eq_getElem (by omega)]
    rfl
  have hlg1 := at_lt hG
  have hRsem : ∀ a b, a < q.st.length → b < q.st.length → (Rg G a b = true ↔ Eqv q q a b) := fun a b ha hb => by
    unfold Rg
    rw [decide_eq_true_iff]
    exact hsem a b ha hb
  repeat walk_at "ws"
  refine ⟨by simp [sizeLine_eq], ?_⟩
  have ⟨lo, hlo⟩ : ∃ lo, lo = M1.length := ⟨_, rfl⟩
  have ⟨ln, hln⟩ : ∃ ln, ln = M1.length + 1 := ⟨_, rfl⟩
  have ⟨lr, hlr⟩ : ∃ lr, lr = M1.length + 2 := ⟨_, rfl⟩
  repeat walk_at "ws"
  refine w_disp1 ?_
  repeat walk_at "ws"
  refine w_toE (ix_lst (i := 0) (x := nI (gf G 0)) (listAt_of (at_app (at_app hG))) (by rw [List.getElem?_map, gget 0 (by omega)]; rfl)) ?_
  walk_at "ws"
  refine ⟨_, rfl, at_new, ?_⟩
  repeat walk_at "ws"
  refine ⟨by simp, ?_⟩
  walk_at "ws"
  have hnkv0 : [((Sum.inl ((gf G 0 : Nat) : Int) : Key), A.int 0)] = nkv G 0 [0] := rfl
  refine w_while (I := fun m τ M' => ∃ (k : Nat) (y8 y9 y10 : Option A), τ = [some q.A, some .non, some (.lst lg), some (.lst lo), some (.dct ln), some (.lst lr), some (nI q.L), some (.tup (q.st.map tI)), some (tI q.an), y8, y9, y10] ∧ M'[lo]? = some (.lst ((iter (Rg G) q k).1.map nI)) ∧ M'[ln]? = some (.dK (nkv G 0 (iter (Rg G) q k).1)) ∧ M'[lr]? = some (.lst ((iter (Rg G) q k).2.map tI)) ∧ (∀ j, j < k → j < (iter (Rg G) q j).1.length) ∧ m = q.st.length - k ∧ Pre M1 M') ?_ fuel q.st.length _ _ (by unfold fuel; omega) ?_
  · rintro m τ M2 ⟨k, y8, y9, y10, rfl, ho, hn, hr, hk, hm, p2⟩
    have hG2 := Pre.at p2 hG
    obtain ⟨hit, hkl⟩ := iter_ok (Rg_rfl G) h k hk
    have hle := hit.ok.le
    repeat walk_at "ws"
    refine w_toE (len_lst (listAt_of hr)) ?_
    repeat walk_at "ws"
    refine w_toE (len_lst (listAt_of ho)) ?_
    refine w_toE rfl ⟨_, rfl, ?_⟩
    rw [List.length_map, List.length_map, iter_len]
    by_cases hlt : k < (iter (Rg G) q k).1.length
    · rw [if_pos (by simp; exact hlt)]
      have es : (iter (Rg G) q k).1[k]? = some ((iter (Rg G) q k).1.getD k 0) := by rw [List.getD_eq_getElem?_getD, List.getElem?_eq_getElem hlt]; rfl
      have hsl : (iter (Rg G) q k).1.getD k 0 < q.st.length := hit.ok.lt _ (List.mem_of_getElem? es)
      obtain ⟨w1, w2, w3⟩ := row_get h hsl
      have hol := at_lt ho
      have hnl := at_lt hn
      have hrl := at_lt hr
      repeat walk_at "ws"
      refine w_toE (len_lst (listAt_of hr)) ?_
      rw [List.length_map, iter_len]
      refine w_toE (ix_lst (i := k) (x := nI ((iter (Rg G) q k).1.getD k 0)) (listAt_of ho) (by rw [List.getElem?_map, es]; rfl)) ?_
      repeat walk_at "ws"
      refine ⟨by simp, ?_⟩
      have ⟨l9, hl9⟩ : ∃ l9, l9 = M2.length := ⟨_, rfl⟩
      walk_at "ws"
      refine w_for ?_
      with_reducible refine w_iSeqT ?_
      repeat walk_at "ws"
      refine w_toE (ixRow h hsl) ?_
      generalize hst0 : (iter (Rg G) q k).1.getD k 0 = s0 at *
      generalize hrow : q.st.getD s0 [] = row at *
      refine ⟨_, rfl, row.map nI, fun i τ M' => ∃ (y10 : Option A), τ = [some q.A, some .non, some (.lst lg), some (.lst lo), some (.dct ln), some (.lst lr), some (nI q.L), some (.tup (q.st.map tI)), some (tI q.an), some (nI s0), some (.lst l9), y10] ∧ M'[lo]? = some (.lst (((row.take i).foldl (stp (Rg G)) ((iter (Rg G) q k).1, [])).1.map nI)) ∧ M'[ln]? = some (.dK (nkv G 0 ((row.take i).foldl (stp (Rg G)) ((iter (Rg G) q k).1, [])).1)) ∧ M'[l9]? = some (.lst (((row.take i).foldl (stp (Rg G)) ((iter (Rg G) q k).1, [])).2.map nI)) ∧ M'[lr]? = some (.lst ((iter (Rg G) q k).2.map tI)) ∧ Pre M1 M', by simp [Src.size], ?_, fun _ _ _ _ => rfl, ?_, ?_⟩
      · exact ⟨y10, by rw [hl9]; rfl, at_app ho, at_app hn, by rw [hl9]; simp, at_app hr, p2.app _⟩
      · rintro i x τ M3 hx0 ⟨y10, rfl, ho3, hn3, h93, hr3, p3⟩
        rw [List.getElem?_map] at hx0
        obtain ⟨x, hx, rfl⟩ := Option.map_eq_some_iff.mp hx0
        have hxn : x < q.st.length := w2 x (List.mem_of_getElem? hx)
        have hfi := fold_inv (Rg_rfl G) (n := q.st.length) (row.take i) (iter (Rg G) q k).1 [] (fun y hy => w2 y (List.mem_of_mem_take hy)) hit.ok
        have hok := hfi.1
        have hrl : ((row.take i).foldl (stp (Rg G)) ((iter (Rg G) q k).1, [])).2.length ≤ 3 := by
          obtain ⟨_, _, u, e1, e2, _⟩ := hfi
          rw [e1, List.nil_append, e2, List.length_take]
          omega
        have enext : (row.take (i + 1)).foldl (stp (Rg G)) ((iter (Rg G) q k).1, []) = stp (Rg G) ((row.take i).foldl (stp (Rg G)) ((iter (Rg G) q k).1, [])) x := by
          rw [List.take_add_one, hx, List.foldl_append]
          rfl
        simp only [enext]
        generalize hst : (row.take i).foldl (stp (Rg G)) ((iter (Rg G) q k).1, []) = st at *
        have hokl := hok.le
        have hG3 := Pre.at p3 hG
        have l3a := at_lt ho3
        have l3b := at_lt h93
        have l3c := at_lt hr3
        have l3d := at_lt hn3
        refine ⟨_, rfl, ?_⟩
        repeat walk_at "ws"
        refine w_toE (ix_lst (i := x) (x := nI (gf G x)) (listAt_of hG3) (by rw [List.getElem?_map, gget x hxn]; rfl)) ?_
        walk_at "ws"
        refine w_toE (notin_K hn3) ⟨_, rfl, ?_⟩
        cases hixf : ixf (Rg G) st.1 x with
        | none =>
          have est : stp (Rg G) st x = (st.1 ++ [x], st.2 ++ [st.1.length]) := by
            unfold stp
            rw [hixf]
          have hixf2 : ixf (Rg G) (st.1 ++ [x]) x = some st.1.length := by
            unfold ixf at hixf ⊢
            rw [List.findIdx?_append, hixf]
            simp [Rg]
          rw [est, if_pos (by rfl)]
          repeat walk_at "ws"
          refine w_toE (len_lst (listAt_of ho3)) ?_
          repeat walk_at "ws"
          refine w_toE (ix_lst (i := x) (x := nI (gf G x)) (listAt_of hG3) (by rw [List.getElem?_map, gget x hxn]; rfl)) ?_
          rw [List.length_map]
          refine ⟨ln, _, rfl, put_K hn3 hixf (by omega), ?_⟩
          repeat walk_at "ws"
          have ho4 : (M3.set ln (.dK (nkv G 0 (st.1 ++ [x]))))[lo]? = some (.lst (st.1.map nI)) := at_ne (by omega) ho3
          refine ⟨isL_of ho4, ?_⟩
          repeat walk_at "ws"
          refine w_toE (append_ok ho4 (by rw [List.length_map]; omega)) ?_
          repeat walk_at "ws"
          have h95 : ((M3.set ln (.dK (nkv G 0 (st.1 ++ [x])))).set lo (.lst (st.1.map nI ++ [nI x])))[l9]? = some (.lst (st.2.map nI)) := at_ne (by omega) (at_ne (by omega) h93)
          have hG5 : ((M3.set ln (.dK (nkv G 0 (st.1 ++ [x])))).set lo (.lst (st.1.map nI ++ [nI x])))[lg]? = some (.lst (G.map nI)) := at_ne (by omega) (at_ne (by omega) hG3)
          have hn5 : ((M3.set ln (.dK (nkv G 0 (st.1 ++ [x])))).set lo (.lst (st.1.map nI ++ [nI x])))[ln]? = some (.dK (nkv G 0 (st.1 ++ [x]))) := at_ne (by omega) (at_set hn3)
          refine ⟨isL_of h95, ?_⟩
          repeat walk_at "ws"
          refine w_toE (ix_lst (i := x) (x := nI (gf G x)) (listAt_of hG5) (by rw [List.getElem?_map, gget x hxn]; rfl)) ?_
          refine w_toE (get_K hn5 hixf2) ?_
          walk_at "ws"
          refine w_toE (append_ok h95 (by rw [List.length_map]; omega)) ?_
          walk_at "ws"
          refine ⟨some (nI x), rfl, at_ne (by omega) (by rw [at_set ho4, List.map_append]; rfl), at_ne (by omega) hn5, by rw [at_set h95, List.map_append]; rfl, at_ne (by omega) (at_ne (by omega) (at_ne (by omega) hr3)), ((p3.set (by omega)).set (by omega)).set (by omega)⟩
        | some j =>
          have est : stp (Rg G) st x = (st.1, st.2 ++ [j]) := by
            unfold stp
            rw [hixf]
          rw [est, if_neg (by simp)]
          repeat walk_at "ws"
          refine ⟨isL_of h93, ?_⟩
          repeat walk_at "ws"
          refine w_toE (ix_lst (i := x) (x := nI (gf G x)) (listAt_of hG3) (by rw [List.getElem?_map, gget x hxn]; rfl)) ?_
          refine w_toE (get_K hn3 hixf) ?_
          walk_at "ws"
          refine w_toE (append_ok h93 (by rw [List.length_map]; omega)) ?_
          walk_at "ws"
          refine ⟨some (nI x), rfl, at_ne (by omega) ho3, at_ne (by omega) hn3, by rw [at_set h93, List.map_append]; rfl, at_ne (by omega) hr3, p3.set (by omega)⟩
      · rintro τ M3 ⟨y10, rfl, ho3, hn3, h93, hr3, p3⟩
        rw [List.length_map, List.take_length] at ho3 h93 hn3
        have l3c := at_lt hr3
        repeat walk_at "ws"
        refine ⟨isL_of hr3, ?_⟩
        repeat walk_at "ws"
        refine w_toE (tuple_lst (listAt_of h93)) ?_
        repeat walk_at "ws"
        refine w_toE (append_ok hr3 (by rw [List.length_map, iter_len]; omega)) ?_
        repeat walk_at "ws"
        have e1 : (iter (Rg G) q (k + 1)).1 = (row.foldl (stp (Rg G)) ((iter (Rg G) q k).1, [])).1 := by
          show (rowS (Rg G) q _ _).1 = _
          unfold rowS
          rw [hst0, hrow]
        have e2 : (iter (Rg G) q (k + 1)).2 = (iter (Rg G) q k).2 ++ [(row.foldl (stp (Rg G)) ((iter (Rg G) q k).1, [])).2] := by
          show (iter (Rg G) q k).2 ++ [(rowS (Rg G) q _ _).2] = _
          unfold rowS
          rw [hst0, hrow]
        refine ⟨q.st.length - (k + 1), by omega, k + 1, some (nI s0), some (.lst l9), y10, rfl, by rw [e1]; exact at_ne (by omega) ho3, by rw [e1]; exact at_ne (by omega) hn3, by rw [e2, at_set hr3, List.map_append]; rfl, fun j hj => ?_, rfl, p3.set (by omega)⟩
        by_cases e : j = k
        · subst e; exact hlt
        · exact hk j (by omega)
    · rw [if_neg (by simp; omega)]
      have hend : IsEnd (Rg G) q k := ⟨by omega, hk⟩
      repeat walk_at "ws"
      refine w_toE (tuple_lst (listAt_of hr)) ?_
      repeat walk_at "ws"
      refine w_lc_nat (xs := (iter (Rg G) q k).1) (fun c => nI (q.o c)) ?_
      with_reducible refine w_iSeqL ?_
      walk_at "ws"
      refine ⟨lo, _, rfl, listAt_of ho, by rw [dyn_size ho, List.length_map], by omega, fun M3 p3 i => dyn_at ho p3 i, fun c M3 hc p3 => ?_, fun l M3 hl p3 h3 => ?_⟩
      · refine ⟨_, rfl, ?_⟩
        repeat walk_at "ws"
        exact w_toE (ixO h (hit.ok.lt c hc)) ⟨rfl, Fr.refl⟩
      · repeat walk_at "ws"
        refine w_toE (tuple_lst (listAt_of h3)) ?_
        repeat walk_at "ws"
        refine ⟨by simp [sizeLine_eq], _, ⟨Rg G, k, Rg_rfl G, hRsem, hend, rfl⟩, ?_, p1.trans (p2.trans p3)⟩
        unfold fin Qn.A
        dsimp only
        rw [tI, List.map_map]
        rfl
  · refine ⟨0, none, none, none, by rw [hlo, hln, hlr]; simp; rfl, ?_, ?_, ?_, fun j hj => absurd hj (Nat.not_lt_zero _), rfl, ?_⟩
    · rw [hlo]
      exact at_app (at_ne (by simp) (at_app at_new))
    · rw [hln, show M1.length + 1 = (M1 ++ [Cell.lst [A.int 0]]).length by simp]
      exact at_app (by rw [at_set at_new]; rfl)
    · rw [hlr]
      simp [iter]
    · exact (((Fr.refl.app _).app _).set (by simp)).app _
end P66
namespace P66
open PySem PySem.Spec PyProof.Rows L2 AB
inductive F2 (P : Nat → Nat → Prop) : List Nat → List Nat → Prop
  | nil : F2 P [] []
  | cons {x y : Nat} {xs ys : List Nat} : P x y → F2 P xs ys → F2 P (x :: xs) (y :: ys)
theorem F2.len {P : Nat → Nat → Prop} {xs ys : List Nat} (h : F2 P xs ys) : xs.length = ys.length := by
  induction h with
  | nil => rfl
  | cons _ _ ih => simp [ih]
theorem F2.app {P : Nat → Nat → Prop} {xs ys : List Nat} {x y : Nat} (h : F2 P xs ys) (p : P x y) : F2 P (xs ++ [x]) (ys ++ [y]) := by
  induction h with
  | nil => exact .cons p .nil
  | cons q _ ih => exact .cons q ih
theorem F2.get {P : Nat → Nat → Prop} {xs ys : List Nat} (h : F2 P xs ys) : ∀ {i x y : Nat}, xs[i]? = some x → ys[i]? = some y → P x y := by
  induction h with
  | nil => intro i x y e; simp at e
  | cons p _ ih =>
    intro i x y e1 e2
    cases i with
    | zero =>
      simp at e1 e2
      rw [← e1, ← e2]
      exact p
    | succ i => exact ih (by simpa using e1) (by simpa using e2)
theorem F2.mk {P : Nat → Nat → Prop} : ∀ {xs ys : List Nat}, xs.length = ys.length → (∀ (i x y : Nat), xs[i]? = some x → ys[i]? = some y → P x y) → F2 P xs ys
  | [], [], _, _ => .nil
  | [], _ :: _, h, _ => by simp at h
  | _ :: _, [], h, _ => by simp at h
  | x :: xs, y :: ys, h, f => .cons (f 0 x y rfl rfl) (F2.mk (by simpa using h) fun i a b e1 e2 => f (i + 1) a b (by simpa using e1) (by simpa using e2))
theorem F2.map {P : Nat → Nat → Prop} {f g : Nat → Nat} {xs ys : List Nat} (h : F2 P xs ys) (e : ∀ x y, P x y → f x = g y) : xs.map f = ys.map g := by
  induction h with
  | nil => rfl
  | cons p _ ih => rw [List.map_cons, List.map_cons, e _ _ p, ih]
section
variable {q r : Qn} {R S : Nat → Nat → Bool}
def Pr (q r : Qn) (s t : Nat) : Prop := s < q.st.length ∧ t < r.st.length ∧ Eqv q r s t
abbrev Sem (R : Nat → Nat → Bool) (q : Qn) : Prop := ∀ a b, a < q.st.length → b < q.st.length → (R a b = true ↔ Eqv q q a b)
theorem sem_lock (hL : q.L = r.L) (hR : Sem R q) (hS : Sem S r) {c d x y : Nat} (h1 : Pr q r c d) (h2 : Pr q r x y) : R c x = S d y := by
  rw [Bool.eq_iff_iff, hR c x h1.1 h2.1, hS d y h1.2.1 h2.2.1]
  constructor
  · intro z
    exact Eqv.trans hL.symm (h1.2.2.symm hL) (Eqv.trans rfl z h2.2.2)
  · intro z
    exact Eqv.trans hL h1.2.2 (Eqv.trans rfl z (h2.2.2.symm hL))
theorem ixf_lock (hL : q.L = r.L) (hR : Sem R q) (hS : Sem S r) {x y : Nat} (h2 : Pr q r x y) {o p : List Nat} (h : F2 (Pr q r) o p) : ixf R o x = ixf S p y := by
  unfold ixf
  induction h with
  | nil => rfl
  | cons h1 _ ih => rw [List.findIdx?_cons, List.findIdx?_cons, sem_lock hL hR hS h1 h2, ih]
theorem fold_lock (hL : q.L = r.L) (hR : Sem R q) (hS : Sem S r) {xs ys : List Nat} (h : F2 (Pr q r) xs ys) : ∀ {o p u : List Nat}, F2 (Pr q r) o p → F2 (Pr q r) (xs.foldl (stp R) (o, u)).1 (ys.foldl (stp S) (p, u)).1 ∧ (xs.foldl (stp R) (o, u)).2 = (ys.foldl (stp S) (p, u)).2 := by
  induction h with
  | nil => exact fun h => ⟨h, rfl⟩
  | cons hp _ ih =>
    intro o p u h
    rw [List.foldl_cons, List.foldl_cons]
    have e := ixf_lock hL hR hS hp h
    unfold stp
    dsimp only
    rw [e, h.len]
    cases ixf S p _ with
    | some i => exact ih h
    | none => exact ih (h.app hp)
theorem iter_lock (hq : q.Ok) (hr : r.Ok) (hL : q.L = r.L) (hR : Sem R q) (hS : Sem S r) (h0 : Eqv q r 0 0) : ∀ k, (∀ j, j < k → j < (iter R q j).1.length) → F2 (Pr q r) (iter R q k).1 (iter S r k).1 ∧ (iter R q k).2 = (iter S r k).2
  | 0, _ => ⟨.cons ⟨by have := hq.n1; omega, by have := hr.n1; omega, h0⟩ .nil, rfl⟩
  | k + 1, hj => by
    obtain ⟨h1, h2⟩ := iter_lock hq hr hL hR hS h0 k fun j hjk => hj j (by omega)
    have hk := hj k (by omega)
    have hk2 : k < (iter S r k).1.length := h1.len ▸ hk
    have e1 : (iter R q k).1[k]? = some ((iter R q k).1.getD k 0) := by rw [List.getD_eq_getElem?_getD, List.getElem?_eq_getElem hk]; rfl
    have e2 : (iter S r k).1[k]? = some ((iter S r k).1.getD k 0) := by rw [List.getD_eq_getElem?_getD, List.getElem?_eq_getElem hk2]; rfl
    have hp := h1.get e1 e2
    obtain ⟨a1, a2, a3⟩ := row_get hq hp.1
    obtain ⟨b1, b2, b3⟩ := row_get hr hp.2.1
    have hrow : F2 (Pr q r) (q.st.getD ((iter R q k).1.getD k 0) []) (r.st.getD ((iter S r k).1.getD k 0) []) := F2.mk (by omega) fun i x y ex ey => by
      have hi : i < q.L := by have := (List.getElem?_eq_some_iff.mp ex).1; omega
      have x1 : x = q.d _ i := Option.some.inj (ex.symm.trans (a3 i hi))
      have y1 : y = r.d _ i := Option.some.inj (ey.symm.trans (b3 i (by omega)))
      rw [x1, y1]
      exact ⟨hq.d_lt hp.1 hi, hr.d_lt hp.2.1 (by omega), hp.2.2.step hi⟩
    obtain ⟨c1, c2⟩ := fold_lock hL hR hS hrow (u := []) h1
    exact ⟨c1, by
      show (iter R q k).2 ++ [_] = (iter S r k).2 ++ [_]
      rw [h2]
      unfold rowS
      rw [c2]⟩
theorem fin_lock (hq : q.Ok) (hr : r.Ok) (hL : q.L = r.L) (hR : Sem R q) (hS : Sem S r) (h0 : Eqv q r 0 0) {k j : Nat} (e1 : IsEnd R q k) (e2 : IsEnd S r j) : fin R q k = fin S r j := by
  have hkj : k = j := by
    rcases Nat.lt_trichotomy k j with z | z | z
    · have := (iter_lock hq hr hL hR hS h0 k e1.2).1.len
      have := e2.2 k z
      have := e1.1
      omega
    · exact z
    · have := (iter_lock hq hr hL hR hS h0 j fun i hi => e1.2 i (by omega)).1.len
      have := e1.2 j z
      have := e2.1
      omega
  subst hkj
  obtain ⟨a, b⟩ := iter_lock hq hr hL hR hS h0 k e1.2
  unfold fin
  rw [hL, b, a.map fun x y h => h.2.2.out]
end
section
variable {q r p p' : Qn}
theorem IsSmall.eq (h : q.Ok) (a : IsSmall q p) (b : IsSmall q p') : p = p' := by
  obtain ⟨R, k, _, hR, e1, rfl⟩ := a
  obtain ⟨S, j, _, hS, e2, rfl⟩ := b
  exact fin_lock h h rfl hR hS Eqv.refl e1 e2
theorem IsSmall.same (hq : q.Ok) (hr : r.Ok) (hL : q.L = r.L) (h0 : Eqv q r 0 0) (a : IsSmall q p) (b : IsSmall r p') : p = p' := by
  obtain ⟨R, k, _, hR, e1, rfl⟩ := a
  obtain ⟨S, j, _, hS, e2, rfl⟩ := b
  exact fin_lock hq hr hL hR hS h0 e1 e2
theorem IsSmall.ok (h : q.Ok) (a : IsSmall q p) : p.Ok ∧ p.st.length ≤ q.st.length ∧ p.L = q.L := by
  obtain ⟨R, k, hr, hR, e1, rfl⟩ := a
  obtain ⟨h1, h2, h3, h4⟩ := fin_ok hr h e1
  exact ⟨h1, by omega, rfl⟩
theorem IsSmall.eqv (h : q.Ok) (a : IsSmall q p) : Eqv p q 0 0 := by
  obtain ⟨R, k, hr, hR, e1, rfl⟩ := a
  obtain ⟨hi, hk⟩ := iter_ok hr h k e1.2
  have hlen := iter_len R q k
  have hkk := e1.1
  have key : ∀ (w : List Nat) (i s : Nat), (iter R q k).1[i]? = some s → Wd q.L w → (fin R q k).o ((fin R q k).run i w) = q.o (q.run s w) := by
    intro w
    induction w with
    | nil =>
      intro i s hs _
      show ((iter R q k).1.map q.o).getD i 0 = q.o s
      rw [List.getD_eq_getElem?_getD, List.getElem?_map, hs]
      rfl
    | cons l w ih =>
      intro i s hs hw
      have hl : l < q.L := hw l (by simp)
      have hil := (List.getElem?_eq_some_iff.mp hs).1
      have hr : (iter R q k).2[i]? = some ((iter R q k).2.getD i []) := by rw [List.getD_eq_getElem?_getD, List.getElem?_eq_getElem (by omega)]; rfl
      obtain ⟨a1, a2⟩ := hi.rw_ i s _ hs hr
      obtain ⟨c, c1, c2⟩ := a2 l hl
      have hcn := hi.ok.lt c (List.mem_of_getElem? c1)
      have hsn := hi.ok.lt s (List.mem_of_getElem? hs)
      have hw2 : Wd q.L w := fun x hx => hw x (by simp [hx])
      show (fin R q k).o ((fin R q k).run (((iter R q k).2.getD i []).getD l 0) w) = q.o (q.run (q.d s l) w)
      rw [ih _ c c1 hw2]
      exact (hR c _ hcn (h.d_lt hsn hl)).mp c2 w hw2
  exact fun w hw => key w 0 0 hi.hd hw
theorem IsSmall.iff (hq : q.Ok) (hr : r.Ok) (hL : q.L = r.L) (a : IsSmall q p) (b : IsSmall r p') : p = p' ↔ Eqv q r 0 0 := by
  constructor
  · intro e
    subst e
    have h1 := a.eqv hq
    have h2 := b.eqv hr
    have hLp := (a.ok hq).2.2
    exact Eqv.trans hLp.symm (h1.symm hLp) h2
  · exact fun h0 => a.same hq hr hL h0 b
end
end P66
namespace P66
open PySem PySem.Spec PyProof.Rows L2 AB SM
/-! ### tallies: dicts of numbers by numbers, added to -/
abbrev Tal := List (Nat × Nat)
def kN (k : Nat) : Key := Sum.inl (k : Int)
theorem kN_inj {a b : Nat} : kN a = kN b ↔ a = b := by
  constructor
  · intro h
    have := Sum.inl.inj h
    omega
  · intro h; rw [h]
def KC (kv : Tal) : Cell := .dK (kv.map fun p => (kN p.1, nI p.2))
def cntOf (kv : Tal) (k : Nat) : Nat := ((kv.find? fun p => decide (p.1 = k)).map (·.2)).getD 0
def keysT (kv : Tal) : List Nat := kv.map (·.1)
def addT (kv : Tal) (k n : Nat) : Tal := if k ∈ keysT kv then kv.map (fun p => if p.1 = k then (p.1, cntOf kv k + n) else p) else kv ++ [(k, n)]
theorem cntOf_cons {q : Nat × Nat} {kv : Tal} {k : Nat} : cntOf (q :: kv) k = if q.1 = k then q.2 else cntOf kv k := by
  unfold cntOf
  rw [List.find?_cons]
  by_cases h : q.1 = k
  · rw [if_pos h]; simp [h]
  · rw [if_neg h]; simp [h]
theorem cntOf_none {kv : Tal} {k : Nat} (h : k ∉ keysT kv) : cntOf kv k = 0 := by
  induction kv with
  | nil => rfl
  | cons q kv ih =>
    rw [cntOf_cons, if_neg (fun e => h (by simp [keysT, e])), ih fun z => h (by simp [keysT] at z ⊢; exact .inr z)]
theorem cntOf_app {kv : Tal} {k j n : Nat} (h : k ∉ keysT kv) : cntOf (kv ++ [(k, n)]) j = if j = k then n else cntOf kv j := by
  induction kv with
  | nil =>
    show cntOf [(k, n)] j = _
    rw [cntOf_cons]
    by_cases e : j = k
    · rw [if_pos e.symm, if_pos e]
    · rw [if_neg (fun z => e z.symm), if_neg e]
  | cons q kv ih =>
    have hq : q.1 ≠ k := fun e => h (by simp [keysT, e])
    have ih := ih fun z => h (by simp [keysT] at z ⊢; exact .inr z)
    show cntOf (q :: (kv ++ [(k, n)])) j = _
    rw [cntOf_cons, cntOf_cons, ih]
    by_cases e : j = k
    · subst e; rw [if_neg hq, if_pos rfl, if_pos rfl]
    · rw [if_neg e, if_neg e]
theorem cntOf_map {kv : Tal} {k j m : Nat} (h : k ∈ keysT kv) : cntOf (kv.map fun p => if p.1 = k then (p.1, m) else p) j = if j = k then m else cntOf kv j := by
  induction kv with
  | nil => cases h
  | cons q kv ih =>
    rw [List.map_cons, cntOf_cons, cntOf_cons]
    by_cases hq : q.1 = k
    · rw [if_pos hq]
      by_cases e : j = k
      · rw [if_pos (hq.trans e.symm), if_pos e]
      · have hj : ¬ q.1 = j := fun z => e (z.symm.trans hq)
        rw [if_neg hj, if_neg e, if_neg hj]
        by_cases hk : k ∈ keysT kv
        · rw [ih hk, if_neg e]
        · have : kv.map (fun p => if p.1 = k then (p.1, m) else p) = kv := by
            conv => rhs; rw [← List.map_id kv]
            exact List.map_congr_left fun p hp => by rw [if_neg (fun z => hk (List.mem_map.mpr ⟨p, hp, z⟩))]; rfl
          rw [this]
    · rw [if_neg hq]
      have hk : k ∈ keysT kv := by
        rcases List.mem_cons.mp (show k ∈ q.1 :: keysT kv from h) with e | e
        · exact absurd e.symm hq
        · exact e
      rw [ih hk]
      by_cases e : q.1 = j
      · rw [if_pos e, if_pos e, if_neg (fun z => hq (e.trans z))]
      · rw [if_neg e, if_neg e]
theorem add_cnt (kv : Tal) (k n j : Nat) : cntOf (addT kv k n) j = if j = k then cntOf kv k + n else cntOf kv j := by
  unfold addT
  split
  · rename_i h; exact cntOf_map h
  · rename_i h
    rw [cntOf_app h, cntOf_none h, Nat.zero_add]
theorem add_keys (kv : Tal) (k n : Nat) : keysT (addT kv k n) = if k ∈ keysT kv then keysT kv else keysT kv ++ [k] := by
  unfold addT
  by_cases h : k ∈ keysT kv
  · rw [if_pos h, if_pos h]
    unfold keysT
    rw [List.map_map]
    refine List.map_congr_left fun p _ => ?_
    show (if p.1 = k then (p.1, _) else p).1 = p.1
    split <;> rfl
  · rw [if_neg h, if_neg h]
    unfold keysT
    rw [List.map_append]; rfl
theorem add_mem (kv : Tal) (k n j : Nat) : j ∈ keysT (addT kv k n) ↔ j ∈ keysT kv ∨ j = k := by
  rw [add_keys]
  split
  · rename_i h
    exact ⟨.inl, fun z => z.elim id fun e => e ▸ h⟩
  · rw [List.mem_append, List.mem_singleton]
theorem add_nd {kv : Tal} (h : (keysT kv).Nodup) (k n : Nat) : (keysT (addT kv k n)).Nodup := by
  rw [add_keys]
  split
  · exact h
  · rename_i hk
    rw [List.nodup_append]
    exact ⟨h, by simp, fun a ha b hb => by rw [List.mem_singleton.mp hb]; exact fun z => hk (z ▸ ha)⟩
def tally (kv : Tal) (xs : List (Nat × Nat)) : Tal := xs.foldl (fun kv p => addT kv p.1 p.2) kv
def total (xs : List (Nat × Nat)) (k : Nat) : Nat := ((xs.filter fun p => decide (p.1 = k)).map (·.2)).sum
theorem tally_cnt : ∀ (xs : List (Nat × Nat)) (kv : Tal) (k : Nat), cntOf (tally kv xs) k = cntOf kv k + total xs k
  | [], kv, k => rfl
  | p :: xs, kv, k => by
    show cntOf (tally (addT kv p.1 p.2) xs) k = _
    rw [tally_cnt xs, add_cnt]
    unfold total
    by_cases h : p.1 = k
    · rw [if_pos h.symm, List.filter_cons_of_pos (by simpa using h), List.map_cons, List.sum_cons, h]; omega
    · rw [if_neg (fun z => h z.symm), List.filter_cons_of_neg (by simpa using h)]
theorem tally_mem : ∀ (xs : List (Nat × Nat)) (kv : Tal) (k : Nat), k ∈ keysT (tally kv xs) ↔ k ∈ keysT kv ∨ ∃ p ∈ xs, p.1 = k
  | [], kv, k => by simp [tally]
  | p :: xs, kv, k => by
    show k ∈ keysT (tally (addT kv p.1 p.2) xs) ↔ _
    rw [tally_mem xs, add_mem]
    constructor
    · rintro ((h | h) | ⟨q, hq, e⟩)
      · exact .inl h
      · exact .inr ⟨p, List.mem_cons_self, h.symm⟩
      · exact .inr ⟨q, List.mem_cons_of_mem _ hq, e⟩
    · rintro (h | ⟨q, hq, e⟩)
      · exact .inl (.inl h)
      · rcases List.mem_cons.mp hq with rfl | hq
        · exact .inl (.inr e.symm)
        · exact .inr ⟨q, hq, e⟩
theorem tally_nd : ∀ (xs : List (Nat × Nat)) {kv : Tal}, (keysT kv).Nodup → (keysT (tally kv xs)).Nodup
  | [], _, h => h
  | p :: xs, kv, h => tally_nd xs (add_nd h p.1 p.2)
/-! in the store -/
section
variable {M : Store} {d : Nat} {kv : Tal}
theorem valA_KC (k : Nat) : valA (kv.map fun p => (kN p.1, nI p.2)) (kN k) = if k ∈ keysT kv then some (nI (cntOf kv k)) else none := by
  induction kv with
  | nil => rfl
  | cons q kv ih =>
    unfold valA at ih ⊢
    rw [List.map_cons, List.find?_cons]
    by_cases h : q.1 = k
    · rw [cntOf_cons, if_pos h, if_pos (by simp [keysT, h])]
      simp [kN_inj, h]
    · have e : (decide (kN q.1 = kN k)) = false := by simp [kN_inj, h]
      rw [cntOf_cons, if_neg h]
      simp only [e]
      rw [ih]
      have hm : (k ∈ keysT (q :: kv)) ↔ k ∈ keysT kv := by
        show k ∈ q.1 :: keysT kv ↔ _
        rw [List.mem_cons]
        exact ⟨fun z => z.elim (fun e => absurd e.symm h) id, .inr⟩
      by_cases hk : k ∈ keysT kv
      · rw [if_pos hk, if_pos (hm.mpr hk)]
      · rw [if_neg hk, if_neg (fun z => hk (hm.mp z))]
theorem get_KC (h : M[d]? = some (KC kv)) (k : Nat) : ∃ o, dGet M d (nI k) = some o ∧ o.getD (.int 0) = nI (cntOf kv k) := by
  unfold dGet
  rw [h]
  refine ⟨_, rfl, ?_⟩
  show (valA (kv.map fun p => (kN p.1, nI p.2)) (kN k)).getD (.int 0) = _
  rw [valA_KC]
  by_cases hk : k ∈ keysT kv
  · rw [if_pos hk]; rfl
  · rw [if_neg hk, cntOf_none hk]; rfl
theorem dget_KC (h : M[d]? = some (KC kv)) {k : Nat} (hk : k ∈ keysT kv) : oDget (.dct d) (nI k) M = some (nI (cntOf kv k), M) := by
  unfold oDget dGet
  dsimp only
  rw [h]
  show (match some (valA (kv.map fun p => (kN p.1, nI p.2)) (kN k)) with
    | some (some a) => some (a, M)
    | _ => none) = _
  rw [valA_KC, if_pos hk]
theorem put_KC (h : M[d]? = some (KC kv)) (k n : Nat) (hz : kv.length < 1000000) : dPut M d (nI k) (nI (cntOf kv k + n)) = some (M.set d (KC (addT kv k n))) := by
  unfold dPut
  rw [h]
  show (if (kv.map fun p => (kN p.1, nI p.2)).length < sizeLine then (some (kN k)).map fun j => M.set d (.dK (putA (kv.map fun p => (kN p.1, nI p.2)) j (nI (cntOf kv k + n)))) else none) = _
  rw [if_pos (by rw [List.length_map, sizeLine_eq]; omega)]
  show some (M.set d (.dK (putA (kv.map fun p => (kN p.1, nI p.2)) (kN k) (nI (cntOf kv k + n))))) = _
  congr 2
  unfold KC putA addT
  have hany : ((kv.map fun p => (kN p.1, nI p.2)).any fun kv => decide (kv.1 = kN k)) = decide (k ∈ keysT kv) := by
    rw [List.any_map]
    refine Bool.eq_iff_iff.mpr ?_
    rw [List.any_eq_true, decide_eq_true_iff]
    constructor
    · rintro ⟨p, hp, e⟩
      have e : kN p.1 = kN k := by simpa using e
      exact List.mem_map.mpr ⟨p, hp, kN_inj.mp e⟩
    · intro hk
      obtain ⟨p, hp, e⟩ := List.mem_map.mp hk
      exact ⟨p, hp, by simp [kN_inj, e]⟩
  rw [hany]
  by_cases hk : k ∈ keysT kv
  · rw [if_pos (by simpa using hk), if_pos hk, List.map_map, List.map_map]
    congr 1
    refine List.map_congr_left fun p _ => ?_
    show (if kN p.1 = kN k then (kN p.1, nI (cntOf kv k + n)) else (kN p.1, nI p.2)) = (kN (if p.1 = k then (p.1, cntOf kv k + n) else p).1, nI (if p.1 = k then (p.1, cntOf kv k + n) else p).2)
    by_cases e : p.1 = k
    · rw [if_pos (kN_inj.mpr e), if_pos e]
    · rw [if_neg (fun z => e (kN_inj.mp z)), if_neg e]
  · rw [if_neg (by simpa using hk), if_neg hk, List.map_append, cntOf_none hk, Nat.zero_add]
    rfl
end
end P66
namespace P66
open PySem PySem.Spec PyProof.Rows L2 AB SM
/-! ### slices -/
theorem cutA_take {xs : List A} {s : Nat} (h : s ≤ xs.length) : cutA xs none (some (s : Int)) = xs.take s := by
  unfold cutA HT.sIx
  dsimp only
  rw [if_neg (by omega), Int.toNat_natCast, Nat.min_eq_left h]
  simp
theorem cutA_drop {xs : List A} {s : Nat} (h : s ≤ xs.length) : cutA xs (some (s : Int)) none = xs.drop s := by
  unfold cutA HT.sIx
  dsimp only
  rw [if_neg (by omega), Int.toNat_natCast, Nat.min_eq_left h, List.take_of_length_le (by rw [List.length_drop]; omega)]
section
variable {τ : Sl} {M : Store} {Q : A → Store → Prop} {P : Option Int → Store → Prop}
theorem w_sl {f : EF} {p q : Sl → Store → EO (Option Int)} (h : (f τ M).W fun a M1 => (p τ M1).W fun lo M2 => (q τ M2).W fun hi M3 => (toE (oSl a lo hi M3)).W Q) : (eSl f p q τ M).W Q := w_bind (h.imp fun _ _ h => w_bind (h.imp fun _ _ h => w_bind h))
theorem w_part {f : EF} (h : (f τ M).W fun a M1 => ∃ i, a = .int i ∧ P (some i) M1) : (ePart f τ M).W P := w_bind (h.imp fun _ _ ⟨i, e, h⟩ => by subst e; with_unfolding_all exact h)
theorem w_noPart (h : P none M) : (eNoPart τ M).W P := by with_unfolding_all exact h
theorem sl_take {xs : List A} {s : Nat} (h : s ≤ xs.length) : oSl (.tup xs) none (some (s : Int)) M = some (.tup (xs.take s), M) := by
  show some (A.tup (cutA xs none (some (s : Int))), M) = _
  rw [cutA_take h]
theorem sl_drop {xs : List A} {s : Nat} (h : s ≤ xs.length) : oSl (.tup xs) (some (s : Int)) none M = some (.tup (xs.drop s), M) := by
  show some (A.tup (cutA xs (some (s : Int)) none), M) = _
  rw [cutA_drop h]
theorem add_tup {xs ys : List A} (h : xs.length + ys.length ≤ 16777216) : oAdd (.tup xs) (.tup ys) M = some (.tup (xs ++ ys), M) := by
  unfold oAdd
  dsimp only
  rw [if_pos (by rw [sizeLine_eq]; exact h)]
end
theorem len_tup {xs : List A} {M : Store} {k : Nat} (h : xs.length = k) : oLenN [.tup xs] M = some (nI k, M) := by subst h; rfl
theorem sum_nat {M : Store} {c : List Nat} : oSumI [tI c] M = some (nI c.sum, M) := by
  unfold oSumI seqI
  dsimp only
  rw [ints_nat]
  show some (A.int _, M) = _
  congr 3
  induction c with
  | nil => rfl
  | cons x c ih => rw [List.map_cons, List.sum_cons, List.sum_cons, ih]; omega
/-! ### _law_state, _law_all -/
theorem law_state_ok {q : Qn} (h : q.Ok) {w : List Nat} (hw : Wd q.L w) {M : Store} : (F_law_state [q.A, tI w] M).W fun a M' => a = nI (q.run 0 w) ∧ M' = M := by
  refine w_def ?_
  unfold S_law_state
  repeat walk_at "wt"
  refine w_for (w_iSeqT ?_)
  repeat walk_at "wt"
  refine ⟨_, rfl, w.map nI, fun i τ M' => (∃ y3 : Option A, τ = [some q.A, some (tI w), some (nI (q.run 0 (w.take i))), y3]) ∧ M' = M, by simp [Src.size], ⟨⟨_, rfl⟩, rfl⟩, fun i τ M' _ => rfl, ?_, ?_⟩
  · rintro i x τ M1 hx ⟨⟨y3, rfl⟩, rfl⟩
    rw [List.getElem?_map] at hx
    obtain ⟨l, hl, rfl⟩ := Option.map_eq_some_iff.mp hx
    have hll := hw l (List.mem_of_getElem? hl)
    have hs := h.run_lt (w.take i) (s := 0) (by have := h.n1; omega) fun x hx => hw x (List.mem_of_mem_take hx)
    refine ⟨_, rfl, ?_⟩
    repeat walk_at "wt"
    refine w_toE ixQ1 ?_
    repeat walk_at "wt"
    refine w_toE (ixRow h hs) ?_
    repeat walk_at "wt"
    refine w_toE (ixD h hs hll) ?_
    repeat walk_at "wt"
    refine ⟨⟨some (nI l), ?_⟩, rfl⟩
    have : w.take (i + 1) = w.take i ++ [l] := by rw [List.take_add_one, hl]; rfl
    rw [this]
    have e : q.run 0 (w.take i ++ [l]) = q.d (q.run 0 (w.take i)) l := by unfold Qn.run; rw [List.foldl_append]; rfl
    rw [e]; rfl
  · rintro τ M1 ⟨⟨y3, rfl⟩, rfl⟩
    rw [List.length_map, List.take_length]
    repeat walk_at "wt"
    exact ⟨rfl, rfl⟩
def lessN (c : List Nat) (l : Nat) : List Nat := c.take l ++ [c.getD l 0 - 1] ++ c.drop (l + 1)
def allT : Nat → List Nat → List (List Nat)
  | 0, _ => []
  | n + 1, c => if c.sum = 0 then [[]] else (List.range c.length).flatMap fun l => if 0 < c.getD l 0 then (allT n (lessN c l)).map (· ++ [l]) else []
theorem lessN_len {c : List Nat} {l : Nat} (h : l < c.length) : (lessN c l).length = c.length := by
  unfold lessN
  simp
  omega
theorem split_at {c : List Nat} {l : Nat} (h : l < c.length) : c = c.take l ++ [c.getD l 0] ++ c.drop (l + 1) := by
  rw [List.getD_eq_getElem?_getD, List.getElem?_eq_getElem h]
  show c = c.take l ++ [c[l]] ++ c.drop (l + 1)
  rw [List.append_assoc, List.singleton_append, List.getElem_cons_drop, List.take_append_drop]
theorem lessN_sum {c : List Nat} {l : Nat} (h : l < c.length) (hp : 0 < c.getD l 0) : (lessN c l).sum + 1 = c.sum := by
  have e := congrArg List.sum (split_at h)
  unfold lessN
  simp only [List.sum_append, List.sum_cons, List.sum_nil] at e ⊢
  omega
theorem flat_bound {α β : Type} {f : α → List β} {B : Nat} : ∀ {L : List α}, (∀ x ∈ L, (f x).length ≤ B) → (L.flatMap f).length ≤ L.length * B
  | [], _ => by simp
  | x :: L, h => by
    rw [List.flatMap_cons, List.length_append, List.length_cons, Nat.add_mul, Nat.one_mul]
    have := flat_bound (L := L) fun y hy => h y (List.mem_cons_of_mem _ hy)
    have := h x List.mem_cons_self
    omega
theorem allT_len : ∀ (n : Nat) (c : List Nat), 1 ≤ c.length → (allT n c).length ≤ c.length ^ c.sum
  | 0, c, h => by simp [allT]
  | n + 1, c, h => by
    unfold allT
    split
    · rename_i h0
      rw [h0]; simp
    · rename_i h0
      obtain ⟨k, hk⟩ : ∃ k, c.sum = k + 1 := ⟨c.sum - 1, by omega⟩
      refine Nat.le_trans (flat_bound (B := c.length ^ k) fun l hl => ?_) (by rw [List.length_range, hk, Nat.pow_succ, Nat.mul_comm]; exact Nat.le_refl _)
      have hl := List.mem_range.mp hl
      split
      · rename_i hp
        rw [List.length_map]
        have := allT_len n (lessN c l) (by rw [lessN_len hl]; exact h)
        have e := lessN_sum hl hp
        rw [lessN_len hl, show (lessN c l).sum = k by omega] at this
        exact this
      · simp
theorem allT_wd : ∀ (n : Nat) (c : List Nat), ∀ t ∈ allT n c, (∀ x ∈ t, x < c.length) ∧ t.length = c.sum
  | 0, c, t, h => by simp [allT] at h
  | n + 1, c, t, h => by
    unfold allT at h
    split at h
    · rename_i h0
      have := List.mem_singleton.mp h
      subst this
      exact ⟨(fun _ z => nomatch z), h0.symm⟩
    · rename_i h0
      obtain ⟨l, hl, ht⟩ := List.mem_flatMap.mp h
      have hl := List.mem_range.mp hl
      split at ht
      · rename_i hp
        obtain ⟨u, hu, rfl⟩ := List.mem_map.mp ht
        obtain ⟨h1, h2⟩ := allT_wd n (lessN c l) u hu
        have e := lessN_sum hl hp
        refine ⟨fun x hx => ?_, by rw [List.length_append, h2]; simp; omega⟩
        rcases List.mem_append.mp hx with hx | hx
        · have := h1 x hx; rwa [lessN_len hl] at this
        · rw [List.mem_singleton.mp hx]; exact hl
      · cases ht
end P66
namespace P66
open PySem PySem.Spec PyProof.Rows L2 AB SM
theorem eq_nat {M : Store} {a b : Nat} : oEq (nI a) (nI b) M = some (.bl (decide (a = b)), M) := by
  rw [eq_int]
  congr 3
  exact decide_eq_decide.mpr (by omega)
theorem getc {M : Store} {c : List Nat} {l : Nat} (h : l < c.length) : oIx (tI c) (nI l) M = some (nI (c.getD l 0), M) :=
  ix_tup (i := l) (by rw [List.getElem?_map, List.getD_eq_getElem?_getD, List.getElem?_eq_getElem h]; rfl)
theorem add_lst {M : Store} {l k : Nat} {xs ys : List A} (h1 : M[l]? = some (.lst xs)) (h2 : M[k]? = some (.lst ys)) (hz : xs.length + ys.length ≤ 16777216) : oAdd (.lst l) (.lst k) M = some (.lst M.length, M ++ [.lst (xs ++ ys)]) := by
  unfold oAdd
  dsimp only
  rw [h1, h2]
  dsimp only
  rw [if_pos (by rw [sizeLine_eq]; exact hz)]
theorem law_all_ok : ∀ (n : Nat) (c : List Nat) (M : Store), 1 ≤ c.length → c.length ≤ 3 → c.sum < n → c.sum ≤ 9 → (F_law_all n [tI c] M).W fun a M' => ∃ l, a = .lst l ∧ M.length ≤ l ∧ M'[l]? = some (.lst ((allT n c).map tI)) ∧ Pre M M'
  | 0, c, M, _, _, h, _ => by omega
  | n + 1, c, M, h1, h3, hn, h9 => by
    have hpow : ∀ l, l ≤ 3 → ∀ k, k ≤ 9 → l ^ k ≤ 19683 := fun l hl k hk => Nat.le_trans (Nat.pow_le_pow_left hl k) (Nat.pow_le_pow_right (n := 3) (by decide) hk)
    refine w_def ?_
    unfold S_law_all
    repeat walk_at "wt"
    refine w_toE sum_nat ?_
    repeat walk_at "wt"
    refine w_toE (show oEq (nI c.sum) (.int 0) M = _ from eq_nat (b := 0)) ⟨_, rfl, ?_⟩
    by_cases h0 : c.sum = 0
    · rw [if_pos (by simpa using h0)]
      repeat walk_at "wt"
      refine ⟨by simp [sizeLine_eq], ?_⟩
      repeat walk_at "wt"
      refine ⟨by simp [sizeLine_eq], ?_⟩
      repeat walk_at "wt"
      refine ⟨_, rfl, Nat.le_refl _, ?_, Fr.refl.app _⟩
      unfold allT
      rw [if_pos h0]
      exact at_new
    · rw [if_neg (by simpa using h0)]
      repeat walk_at "wt"
      refine ⟨by simp [sizeLine_eq], ?_⟩
      refine w_seq (w_for (w_rng1 ?_))
      repeat walk_at "wt"
      refine w_toE (len_tup (k := c.length) (by rw [List.length_map])) ?_
      repeat walk_at "wt"
      refine ⟨c.length, rfl, by omega, (List.range c.length).map nI, fun i τ M' => (∃ (lf : Nat) (y2 y3 y4 : Option A), τ = [some (tI c), some (.lst lf), y2, y3, y4] ∧ M.length ≤ lf ∧ M'[lf]? = some (.lst ((((List.range c.length).take i).flatMap fun l => if 0 < c.getD l 0 then (allT n (lessN c l)).map (· ++ [l]) else []).map tI))) ∧ Pre M M', by simp [Src.size], ⟨⟨_, _, _, _, rfl, Nat.le_refl _, at_new⟩, Fr.refl.app _⟩, fun i τ M' _ => rng_at, ?_, ?_⟩
      · rintro i x τ M1 hx ⟨⟨lf, y2, y3, y4, rfl, hlf, hf⟩, p1⟩
        obtain ⟨hi, rfl⟩ := rng_get hx
        have htake : (List.range c.length).take (i + 1) = (List.range c.length).take i ++ [i] := by rw [List.take_add_one, List.getElem?_range hi]; rfl
        refine ⟨_, rfl, ?_⟩
        repeat walk_at "wt"
        refine w_toE (getc hi) ?_
        repeat walk_at "wt"
        refine w_toE (a := .bl (decide (0 < c.getD i 0))) (M' := M1) (by
          show some (A.bl (decide ((0 : Int) < ((c.getD i 0 : Nat) : Int))), M1) = _
          congr 3
          exact decide_eq_decide.mpr (by omega)) ⟨_, rfl, ?_⟩
        by_cases hp : 0 < c.getD i 0
        · rw [if_pos (by simpa using hp)]
          have hsum := lessN_sum hi hp
          have hlen := lessN_len (c := c) hi
          have hbnd := allT_len n (lessN c i) (by omega)
          have hbnd2 := hpow (lessN c i).length (by omega) (lessN c i).sum (by omega)
          refine w_seq (w_set (w_op (w_op (w_sl ?_))))
          repeat walk_at "wt"
          refine w_noPart (w_part ?_)
          repeat walk_at "wt"
          refine ⟨_, rfl, w_toE (sl_take (s := i) (by rw [List.length_map]; omega)) ?_⟩
          repeat walk_at "wt"
          refine w_toE (getc hi) ?_
          repeat walk_at "wt"
          refine w_toE (sub_nat (a := c.getD i 0) (by omega)) ?_
          repeat walk_at "wt"
          refine ⟨by simp [sizeLine_eq], ?_⟩
          refine w_toE (add_tup (by rw [List.length_take, List.length_map]; simp; omega)) ?_
          refine w_sl ?_
          repeat walk_at "wt"
          refine w_part ?_
          repeat walk_at "wt"
          refine w_toE (add_nat (a := i) (b := 1)) ?_
          refine ⟨_, rfl, w_noPart ?_⟩
          refine w_toE (sl_drop (s := i + 1) (by rw [List.length_map]; omega)) ?_
          refine w_toE (add_tup (by rw [List.length_append, List.length_take, List.length_drop, List.length_map]; simp; omega)) ?_
          have eless : (A.tup (List.take i (List.map nI c) ++ [nI (c.getD i 0 - 1)] ++ List.drop (i + 1) (List.map nI c))) = tI (lessN c i) := by
            unfold lessN
            simp [tI, List.map_take, List.map_drop]
          rw [eless]
          refine w_seq (w_set (w_op ?_))
          repeat walk_at "wt"
          refine w_lc_map (fun a => match a with
            | .tup xs => .tup (xs ++ [nI i])
            | _ => .non) (w_iSeqL ?_)
          repeat walk_at "wt"
          refine ⟨rfl, (law_all_ok n (lessN c i) M1 (by omega) (by omega) (by omega) (by omega)).imp ?_⟩
          rintro _ M2 ⟨la, rfl, hla, hall, p2⟩
          refine ⟨la, _, rfl, listAt_of hall, (allT n (lessN c i)).map tI, ?_, by rw [List.length_map, sizeLine_eq]; omega, fun M3 p3 j => dyn_at hall p3 j, fun y M3 hy p3 => ⟨_, rfl, ?_⟩, fun lb M3 hlb p3 h3b => ?_⟩
          · rw [dyn_size hall, List.length_map]
          · obtain ⟨t, ht, rfl⟩ := List.mem_map.mp hy
            have htl := (allT_wd n _ t ht).2
            repeat walk_at "wt"
            refine ⟨by simp [sizeLine_eq], ?_⟩
            exact w_toE (add_tup (by rw [List.length_map]; simp; omega)) ⟨rfl, Fr.refl⟩
          · have hf3 := p3.at (p2.at hf)
            have hfl : (((List.range c.length).take i).flatMap fun l => if 0 < c.getD l 0 then (allT n (lessN c l)).map (· ++ [l]) else []).length ≤ 3 * 19683 := by
              refine Nat.le_trans (flat_bound (B := 19683) fun l hl => ?_) (Nat.mul_le_mul_right _ (by rw [List.length_take, List.length_range]; omega))
              have hl := List.mem_range.mp (List.mem_of_mem_take hl)
              split
              · rename_i hpl
                have := lessN_sum hl hpl
                have e := lessN_len (c := c) hl
                rw [List.length_map]
                exact Nat.le_trans (allT_len n _ (by omega)) (hpow _ (by omega) _ (by omega))
              · simp
            refine w_toE (add_lst hf3 h3b (by rw [List.length_map, List.length_map, List.length_map]; omega)) ?_
            repeat walk_at "wt"
            refine ⟨⟨_, _, _, _, rfl, by have := (p1.trans p2).trans p3; exact this.1, ?_⟩, ((p1.trans p2).trans p3).app _⟩
            rw [at_new, htake, List.flatMap_append, List.map_append]
            congr 3
            rw [List.flatMap_cons, List.flatMap_nil, List.append_nil, if_pos hp, List.map_map, List.map_map]
            refine List.map_congr_left fun t _ => ?_
            show A.tup (t.map nI ++ [nI i]) = A.tup ((t ++ [i]).map nI)
            rw [List.map_append]; rfl
        · rw [if_neg (by simpa using hp)]
          repeat walk_at "wt"
          refine ⟨⟨_, _, _, _, rfl, hlf, ?_⟩, p1⟩
          rw [hf, htake, List.flatMap_append, List.flatMap_cons, List.flatMap_nil, if_neg hp]
          simp
      · rintro τ M1 ⟨⟨lf, y2, y3, y4, rfl, hlf, hf⟩, p1⟩
        rw [rng_len, List.take_of_length_le (by simp)] at hf
        repeat walk_at "wt"
        refine ⟨lf, rfl, hlf, ?_, p1⟩
        rw [hf]
        conv => rhs; unfold allT
        rw [if_neg h0]
end P66
namespace P66
open PySem PySem.Spec PyProof.Rows L2 AB SM
theorem snoc_ind {P : List Nat → Prop} (h0 : P []) (h1 : ∀ u l, P u → P (u ++ [l])) (u : List Nat) : P u := by
  have : ∀ v : List Nat, P v.reverse := fun v => by
    induction v with
    | nil => exact h0
    | cons l v ih => rw [List.reverse_cons]; exact h1 _ l ih
  have := this u.reverse
  rwa [List.reverse_reverse] at this
theorem w_okI {α : Type} {a : α} {M : Store} {P : α → Store → Prop} (h : P a M) : (EO.ok a M).W P := by with_unfolding_all exact h
theorem lcA_map {src : Src} {t : Tgt} {fe : EF} {l : Nat} {τ : Sl} (ys : List A) (g : A → A) (J : Store → Prop) (hat : ∀ M j, src.at M j = some ys[j]?) (hs : ∀ y M, y ∈ ys → J M → ∃ τ1, t.set y τ = some τ1 ∧ (fe τ1 M).W fun z M' => z = g y ∧ J M' ∧ M'[l]? = M[l]?) (hset : ∀ M c, J M → J (M.set l c)) :
    ∀ (n j : Nat) (acc : List A) (M : Store), ys.length < n + j → j ≤ ys.length → M[l]? = some (.lst acc) → J M → acc.length + (ys.length - j) ≤ 16000000 → (lcA src t bYes fe l τ n j M).W fun _ M' => M'[l]? = some (.lst (acc ++ (ys.drop j).map g)) ∧ J M'
  | 0, j, acc, M, h1, h2, _, _, _ => by omega
  | n + 1, j, acc, M, h1, h2, hl, hJ, hz => by
    unfold lcA
    rw [hat M j]
    cases e : ys[j]? with
    | none =>
      have hj : j = ys.length := by have := List.getElem?_eq_none_iff.mp e; omega
      refine w_okI ⟨?_, hJ⟩
      rw [hl, hj, List.drop_length]; simp
    | some y =>
      have hj := (List.getElem?_eq_some_iff.mp e).1
      obtain ⟨τ1, e1, w⟩ := hs y M (List.mem_of_getElem? e) hJ
      obtain ⟨z, M', e2, rfl, hJ', hl'⟩ := w.out
      dsimp only
      rw [e1]
      dsimp only
      unfold bYes
      dsimp only
      rw [e2]
      dsimp only
      rw [hl', hl]
      dsimp only
      rw [if_pos (by rw [sizeLine_eq]; omega)]
      have hd : ys.drop j = y :: ys.drop (j + 1) := by
        rw [List.drop_eq_getElem_cons hj]
        congr 1
        exact (List.getElem?_eq_some_iff.mp e).2
      refine (lcA_map ys g J hat hs hset n (j + 1) (acc ++ [g y]) (M'.set l (.lst (acc ++ [g y]))) (by omega) (by omega) (at_set (hl'.trans hl)) (hset _ _ hJ') (by rw [List.length_append]; simp; omega)).imp fun _ M2 h => ⟨?_, h.2⟩
      rw [h.1, hd, List.map_cons, List.append_assoc]; rfl
theorem lcB_map {src : Src} {t t1 : Tgt} {fi1 : EI} {fe : EF} {l : Nat} {own1 : List Nat} {τ : Sl} (xs : List A) (ys : A → List A) (g : A → A → A) (J : Store → Prop) (hat : ∀ M i, J M → src.at M i = some xs[i]?)
    (hs : ∀ x M, x ∈ xs → J M → ∃ τ1, t.set x τ = some τ1 ∧ (fi1 τ1 M).W fun src1 M1 => J M1 ∧ M1[l]? = M[l]? ∧ src1.size M1 = (ys x).length + 1 ∧ (∀ M2 j, src1.at M2 j = some (ys x)[j]?) ∧ ∀ y M2, y ∈ ys x → J M2 → ∃ τ2, t1.set y (wipeA τ1 own1) = some τ2 ∧ (fe τ2 M2).W fun z M3 => z = g x y ∧ J M3 ∧ M3[l]? = M2[l]?) (hset : ∀ M c, J M → J (M.set l c)) :
    ∀ (n i : Nat) (acc : List A) (M : Store), xs.length < n + i → i ≤ xs.length → M[l]? = some (.lst acc) → J M → acc.length + ((xs.drop i).flatMap ys).length ≤ 16000000 → (lcB src t bYes fi1 t1 bYes fe l own1 τ n i M).W fun a M' => a = .lst l ∧ M'[l]? = some (.lst (acc ++ (xs.drop i).flatMap fun x => (ys x).map (g x))) ∧ J M'
  | 0, i, acc, M, h1, h2, _, _, _ => by omega
  | n + 1, i, acc, M, h1, h2, hl, hJ, hz => by
    unfold lcB
    rw [hat M i hJ]
    cases e : xs[i]? with
    | none =>
      have hi : i = xs.length := by have := List.getElem?_eq_none_iff.mp e; omega
      refine w_okI ⟨rfl, ?_, hJ⟩
      rw [hl, hi, List.drop_length]; simp
    | some x =>
      have hi := (List.getElem?_eq_some_iff.mp e).1
      have hd : xs.drop i = x :: xs.drop (i + 1) := by
        rw [List.drop_eq_getElem_cons hi]
        congr 1
        exact (List.getElem?_eq_some_iff.mp e).2
      rw [hd, List.flatMap_cons, List.length_append] at hz
      obtain ⟨τ1, e1, w⟩ := hs x M (List.mem_of_getElem? e) hJ
      obtain ⟨src1, M1, e2, hJ1, hl1, hsz, hat1, hs1⟩ := w.out
      dsimp only
      rw [e1]
      dsimp only
      unfold bYes
      dsimp only
      rw [e2]
      dsimp only
      rw [hsz]
      refine w_bind ((lcA_map (ys x) (g x) J hat1 hs1 hset ((ys x).length + 1) 0 acc M1 (by omega) (by omega) (hl1.trans hl) hJ1 (by omega)).imp fun _ M2 h => ?_)
      rw [List.drop_zero] at h
      refine (lcB_map xs ys g J hat hs hset n (i + 1) (acc ++ (ys x).map (g x)) M2 (by omega) (by omega) h.1 h.2 (by rw [List.length_append, List.length_map]; omega)).imp fun a M3 h3 => ⟨h3.1, ?_, h3.2.2⟩
      rw [h3.2.1, hd, List.flatMap_cons, List.append_assoc]
theorem w_lc2_map {fi fi1 : EI} {t t1 : Tgt} {fe : EF} {own own1 : List Nat} {τ : Sl} {M : Store} {Q : A → Store → Prop} (ys : A → List A) (g : A → A → A)
    (h : (fi τ M).W fun src M1 => ∃ xs : List A, src.size M1 = xs.length + 1 ∧ (xs.flatMap ys).length ≤ 16000000 ∧ (∀ M2, Pre M1 M2 → ∀ i, src.at M2 i = some xs[i]?) ∧
      (∀ x M2, x ∈ xs → Pre M1 M2 → ∃ τ1, t.set x (wipeA τ own) = some τ1 ∧ (fi1 τ1 M2).W fun src1 M3 => M3 = M2 ∧ src1.size M3 = (ys x).length + 1 ∧ (∀ M4 j, src1.at M4 j = some (ys x)[j]?) ∧ ∀ y M4, y ∈ ys x → Pre M1 M4 → ∃ τ2, t1.set y (wipeA τ1 own1) = some τ2 ∧ (fe τ2 M4).W fun z M5 => z = g x y ∧ M5 = M4) ∧
      (∀ l M2, M1.length ≤ l → Pre M1 M2 → M2[l]? = some (.lst (xs.flatMap fun x => (ys x).map (g x))) → Q (.lst l) M2)) : (eLc2 fi t bYes fi1 t1 bYes fe own own1 τ M).W Q := by
  refine w_bind (h.imp fun src M1 ⟨xs, hsz, hz, hat, hs, hq⟩ => ?_)
  rw [hsz]
  refine (lcB_map (l := M1.length) xs ys g (fun M2 => Pre M1 M2) (fun M2 i hJ => hat M2 hJ i) (fun x M2 hx hJ => ?_) (fun M2 c hJ => hJ.set (Nat.le_refl _)) (xs.length + 1) 0 [] (M1 ++ [.lst []]) (by omega) (by omega) at_new (Fr.refl.app _) (by rw [List.drop_zero]; simpa using hz)).imp fun a M2 h2 => ?_
  · obtain ⟨τ1, e1, w⟩ := hs x M2 hx hJ
    refine ⟨τ1, e1, w.imp fun src1 M3 ⟨e3, h3, h4, h5⟩ => ?_⟩
    subst e3
    refine ⟨hJ, rfl, h3, h4, fun y M4 hy hJ4 => ?_⟩
    obtain ⟨τ2, e2, w2⟩ := h5 y M4 hy hJ4
    exact ⟨τ2, e2, w2.imp fun z M5 ⟨a, b⟩ => ⟨a, b ▸ hJ4, by rw [b]⟩⟩
  · obtain ⟨rfl, h3, h4⟩ := h2
    rw [List.drop_zero, List.nil_append] at h3
    exact hq _ _ (Nat.le_refl _) h4 h3
/-! ### counts_up_to -/
def cu (rows : List (List Nat)) (most : Nat) : List (List Nat) := rows.flatMap fun row => (List.range (most + 1)).map fun m => row ++ [m]
def rowsU (c : List Nat) : List (List Nat) := c.foldl cu [[]]
theorem cu_len (rows : List (List Nat)) (most : Nat) : (cu rows most).length = rows.length * (most + 1) := by
  unfold cu
  induction rows with
  | nil => simp
  | cons r rows ih => rw [List.flatMap_cons, List.length_append, ih, List.length_cons, List.length_map, List.length_range, Nat.add_mul, Nat.one_mul]; omega
theorem rowsU_snoc (c : List Nat) (m : Nat) : rowsU (c ++ [m]) = cu (rowsU c) m := by
  unfold rowsU
  rw [List.foldl_append]
  rfl
theorem counts_up_to_ok {c : List Nat} (h3 : c.length ≤ 3) (hc : ∀ x ∈ c, x ≤ 20) {M : Store} : (F_counts_up_to [tI c] M).W fun a M' => ∃ l, a = .lst l ∧ M.length ≤ l ∧ M'[l]? = some (.lst ((rowsU c).map tI)) ∧ Pre M M' := by
  refine w_def ?_
  unfold S_counts_up_to
  repeat walk_at "wt"
  refine ⟨by simp [sizeLine_eq], ?_⟩
  repeat walk_at "wt"
  refine ⟨by simp [sizeLine_eq], ?_⟩
  refine w_seq (w_for (w_iSeqT ?_))
  repeat walk_at "wt"
  have hrow : ∀ i, i ≤ 3 → (∀ d : List Nat, d.length ≤ i → (∀ x ∈ d, x ≤ 20) → (rowsU d).length ≤ 21 ^ d.length ∧ ∀ r ∈ rowsU d, r.length = d.length) := by
    intro i _ d
    induction d using snoc_ind with
    | h0 => intro _ _; simp [rowsU]
    | h1 d m ih =>
      intro hd hx
      rw [List.length_append] at hd
      obtain ⟨a, b⟩ := ih (by simp at hd; omega) fun x hx2 => hx x (List.mem_append_left _ hx2)
      have hm := hx m (by simp)
      rw [rowsU_snoc, cu_len, List.length_append]
      refine ⟨?_, fun r hr => ?_⟩
      · show _ ≤ 21 ^ (d.length + 1)
        rw [Nat.pow_succ]
        exact Nat.mul_le_mul a (by omega)
      · obtain ⟨r', hr', hr⟩ := List.mem_flatMap.mp hr
        obtain ⟨k, _, rfl⟩ := List.mem_map.mp hr
        rw [List.length_append, b r' hr']; rfl
  refine ⟨_, rfl, c.map nI, fun i τ M' => (∃ (l : Nat) (y2 y3 y4 : Option A), τ = [some (tI c), some (.lst l), y2, y3, y4] ∧ M.length ≤ l ∧ M'[l]? = some (.lst ((rowsU (c.take i)).map tI))) ∧ Pre M M', by simp [Src.size], ⟨⟨_, _, _, _, rfl, Nat.le_refl _, at_new⟩, Fr.refl.app _⟩, fun i τ M' _ => rfl, ?_, ?_⟩
  · rintro i x τ M1 hx ⟨⟨l, y2, y3, y4, rfl, hll, hl⟩, p1⟩
    rw [List.getElem?_map] at hx
    obtain ⟨m, hm, rfl⟩ := Option.map_eq_some_iff.mp hx
    have hm20 := hc m (List.mem_of_getElem? hm)
    have hi := (List.getElem?_eq_some_iff.mp hm).1
    obtain ⟨b1, b2⟩ := hrow 3 (Nat.le_refl _) (c.take i) (by rw [List.length_take]; omega) fun x hx => hc x (List.mem_of_mem_take hx)
    have hb : (rowsU (c.take i)).length ≤ 9261 := Nat.le_trans b1 (Nat.le_trans (Nat.pow_le_pow_right (n := 21) (by decide) (show (c.take i).length ≤ 3 by rw [List.length_take]; omega)) (by decide))
    have htk : c.take (i + 1) = c.take i ++ [m] := by rw [List.take_add_one, hm]; rfl
    refine ⟨_, rfl, ?_⟩
    refine w_seq (w_set ?_)
    refine w_lc2_map (fun _ => (List.range (m + 1)).map nI) (fun a b => match a with
      | .tup xs => .tup (xs ++ [b])
      | _ => .non) (w_iSeqL ?_)
    repeat walk_at "wt"
    refine ⟨l, _, rfl, listAt_of hl, (rowsU (c.take i)).map tI, by rw [dyn_size hl], ?_, fun M2 p2 j => dyn_at hl p2 j, fun x M2 hx p2 => ⟨_, rfl, w_rng1 ?_⟩, fun l2 M2 hl2 p2 h2 => ?_⟩
    · have := flat_bound (L := (rowsU (c.take i)).map tI) (f := fun _ => (List.range (m + 1)).map nI) (B := 21) (fun _ _ => by simp; omega)
      rw [List.length_map] at this
      omega
    · obtain ⟨r, hr, rfl⟩ := List.mem_map.mp hx
      repeat walk_at "wt"
      refine w_toE (add_nat (a := m) (b := 1)) ?_
      repeat walk_at "wt"
      refine ⟨m + 1, rfl, by omega, rfl, by simp [Src.size], fun M4 j => rng_at, fun y M4 hy p4 => ⟨_, rfl, ?_⟩⟩
      repeat walk_at "wt"
      refine ⟨by simp [sizeLine_eq], ?_⟩
      have hrl := b2 r hr
      exact w_toE (add_tup (by rw [List.length_map, hrl, List.length_take]; simp; omega)) ⟨rfl, rfl⟩
    · repeat walk_at "wt"
      refine ⟨⟨_, _, _, _, rfl, by have := p1.1; omega, ?_⟩, p1.trans p2⟩
      rw [h2, htk, rowsU_snoc]
      unfold cu
      rw [List.map_flatMap, List.flatMap_map]
      congr 3
      funext r
      rw [List.map_map, List.map_map]
      refine List.map_congr_left fun k _ => ?_
      show A.tup (r.map nI ++ [nI k]) = A.tup ((r ++ [k]).map nI)
      rw [List.map_append]; rfl
  · rintro τ M1 ⟨⟨l, y2, y3, y4, rfl, hll, hl⟩, p1⟩
    rw [List.length_map, List.take_length] at hl
    repeat walk_at "wt"
    exact ⟨l, rfl, hll, hl, p1⟩
end P66
namespace P66
open PySem PySem.Spec PyProof.Rows L2 AB SM
/-! ### what a tally stands for -/
structure Rep (kv : Tal) (ks : List Nat) : Prop where
  nd : (keysT kv).Nodup
  cnt : ∀ k, cntOf kv k = ks.count k
  mem : ∀ k, k ∈ keysT kv ↔ k ∈ ks
theorem count_filter_ne {ks : List Nat} {k j : Nat} : (ks.filter fun x => decide (x ≠ k)).count j = if j = k then 0 else ks.count j := by
  induction ks with
  | nil => simp
  | cons x ks ih =>
    by_cases hx : x = k
    · rw [List.filter_cons_of_neg (by simpa using hx), ih]
      by_cases e : j = k
      · rw [if_pos e, if_pos e]
      · have hj : x ≠ j := fun z => e (z.symm.trans hx)
        rw [if_neg e, if_neg e, List.count_cons_of_ne hj]
    · rw [List.filter_cons_of_pos (by simpa using hx)]
      by_cases e : j = k
      · rw [if_pos e]
        rw [if_pos e] at ih
        subst e
        rw [List.count_cons_of_ne (fun z => hx z), ih]
      · rw [if_neg e]
        rw [if_neg e] at ih
        rw [List.count_cons, List.count_cons, ih]
theorem count_map_split (f : Nat → Nat) (s k : Nat) : ∀ ks : List Nat, (ks.map f).count s = (if f k = s then ks.count k else 0) + ((ks.filter fun x => decide (x ≠ k)).map f).count s
  | [] => by simp
  | x :: ks => by
    have ih := count_map_split f s k ks
    rw [List.map_cons, List.count_cons, ih]
    by_cases hx : x = k
    · subst hx
      rw [List.filter_cons_of_neg (by simp), List.count_cons_self]
      by_cases e : f x = s
      · rw [if_pos e, if_pos e, if_pos (by simp [e])]; omega
      · rw [if_neg e, if_neg e, if_neg (by simpa using e)]
        omega
    · rw [List.filter_cons_of_pos (by simpa using hx), List.map_cons, List.count_cons_of_ne (l := ks) hx, List.count_cons (l := List.map f _)]
      omega
theorem Rep.tail {p : Nat × Nat} {kv : Tal} {ks : List Nat} (h : Rep (p :: kv) ks) : Rep kv (ks.filter fun x => decide (x ≠ p.1)) := by
  have hn := List.nodup_cons.mp (show (p.1 :: keysT kv).Nodup from h.nd)
  refine ⟨hn.2, fun k => ?_, fun k => ?_⟩
  · rw [count_filter_ne]
    have := h.cnt k
    rw [cntOf_cons] at this
    by_cases e : k = p.1
    · rw [if_pos e, e, cntOf_none hn.1]
    · rw [if_neg e, ← this, if_neg (fun z => e z.symm)]
  · rw [List.mem_filter, ← h.mem k]
    show k ∈ keysT kv ↔ k ∈ p.1 :: keysT kv ∧ _
    rw [List.mem_cons]
    constructor
    · intro hk
      exact ⟨.inr hk, by simp; exact fun z => hn.1 (z ▸ hk)⟩
    · rintro ⟨e | hk, hne⟩
      · simp [e] at hne
      · exact hk
theorem Rep.total (f : Nat → Nat) (s : Nat) : ∀ {kv : Tal} {ks : List Nat}, Rep kv ks → P66.total (kv.map fun p => (f p.1, p.2)) s = (ks.map f).count s
  | [], ks, h => by
    have : ks = [] := by
      cases ks with
      | nil => rfl
      | cons x ks => exact absurd ((h.mem x).mpr List.mem_cons_self) (by simp [keysT])
    subst this
    rfl
  | p :: kv, ks, h => by
    rw [count_map_split f s p.1 ks, ← Rep.total f s h.tail]
    have hc := h.cnt p.1
    rw [cntOf_cons, if_pos rfl] at hc
    unfold P66.total
    rw [List.map_cons]
    by_cases e : f p.1 = s
    · rw [if_pos e, List.filter_cons_of_pos (by simpa using e), List.map_cons, List.sum_cons, hc]
    · rw [if_neg e, List.filter_cons_of_neg (by simpa using e)]; omega
/-- more is added -/
theorem Rep.more (f : Nat → Nat) {kv0 kv : Tal} {ks0 ks : List Nat} (h0 : Rep kv0 ks0) (h : Rep kv ks) : Rep (tally kv0 (kv.map fun p => (f p.1, p.2))) (ks0 ++ ks.map f) := by
  refine ⟨tally_nd _ h0.nd, fun k => ?_, fun k => ?_⟩
  · rw [tally_cnt, h0.cnt, h.total f k, List.count_append]
  · rw [tally_mem, h0.mem, List.mem_append]
    refine or_congr Iff.rfl ?_
    constructor
    · rintro ⟨q, hq, e⟩
      obtain ⟨p, hp, rfl⟩ := List.mem_map.mp hq
      exact List.mem_map.mpr ⟨p.1, (h.mem p.1).mp (List.mem_map.mpr ⟨p, hp, rfl⟩), e⟩
    · intro hk
      obtain ⟨j, hj, e⟩ := List.mem_map.mp hk
      obtain ⟨p, hp, e2⟩ := List.mem_map.mp ((h.mem j).mpr hj)
      exact ⟨(f p.1, p.2), List.mem_map.mpr ⟨p, hp, rfl⟩, by show f p.1 = k; rw [show p.1 = j from e2]; exact e⟩
theorem Rep.one (k : Nat) : Rep [(k, 1)] [k] := by
  refine ⟨by simp [keysT], fun j => ?_, fun j => by simp [keysT]⟩
  rw [cntOf_cons]
  by_cases e : k = j
  · subst e; simp
  · rw [if_neg e, List.count_cons_of_ne e]; rfl
theorem Rep.nil : Rep [] [] := ⟨.nil, fun _ => rfl, fun _ => Iff.rfl⟩
/-- the ends of the texts of a row -/
def endsT (p : Qn) (n : Nat) (c : List Nat) : List Nat := (allT n c).map (p.run 0)
theorem ends_step {p : Qn} {n : Nat} {c : List Nat} (h0 : c.sum ≠ 0) : endsT p (n + 1) c = (List.range c.length).flatMap fun l => if 0 < c.getD l 0 then (endsT p n (lessN c l)).map (fun s => p.d s l) else [] := by
  unfold endsT
  conv => lhs; unfold allT
  rw [if_neg h0, List.map_flatMap]
  congr 1
  funext l
  split
  · rw [List.map_map, List.map_map]
    refine List.map_congr_left fun t _ => ?_
    show p.run 0 (t ++ [l]) = p.d (p.run 0 t) l
    unfold Qn.run
    rw [List.foldl_append]; rfl
  · rfl
end P66
namespace P66
open PySem PySem.Spec PyProof.Rows L2 AB SM
theorem w_letGoS {l : Nat} {o : SO} {kvs : List (Key × A)} {N : Sl → Store → Prop} {R : A → Store → Prop} (h : o.W (fun τ M => M[l]? = some (.fk kvs) ∧ N τ (M.set l (.dK kvs))) (fun _ _ => False)) : (letGoS l o).W N R := by
  cases o with
  | nx τ M =>
    have h2 : M[l]? = some (.fk kvs) ∧ N τ (M.set l (.dK kvs)) := by with_unfolding_all exact h
    have e : letGoS l (.nx τ M) = .nx τ (M.set l (.dK kvs)) := by unfold letGoS; dsimp only; rw [h2.1]
    rw [e]
    with_unfolding_all exact h2.2
  | rt a M => have h2 : False := by with_unfolding_all exact h
              exact h2.elim
  | bk τ M => have h2 : False := by with_unfolding_all exact h
              exact h2.elim
  | ct τ M => have h2 : False := by with_unfolding_all exact h
              exact h2.elim
  | ex e τ M => have h2 : False := by with_unfolding_all exact h
                exact h2.elim
  | bad => have h2 : False := by with_unfolding_all exact h
           exact h2.elim
theorem w_forD {i l : Nat} {t : Tgt} {b : SF} {τ : Sl} {M : Store} {kvs : List (Key × A)} {N : Sl → Store → Prop} {R : A → Store → Prop} (e : τ[i]? = some (some (.dct l))) (ec : M[l]? = some (.dK kvs)) (I : Nat → Sl → Store → Prop) (h0 : I 0 τ (M.set l (.fk kvs)))
    (hs : ∀ j x τ M, (keyL kvs)[j]? = some x → I j τ M → ∃ τ1, t.set x τ = some τ1 ∧ (b τ1 M).W (I (j + 1)) (fun _ _ => False)) (hq : ∀ τ M, I (keyL kvs).length τ M → M[l]? = some (.fk kvs) ∧ N τ (M.set l (.dK kvs))) : (sForD i t b τ M).W N R := by
  have hk : (keyL kvs).length = kvs.length := by unfold keyL; rw [List.length_map]
  have w := w_forA (t := t) (b := b) (src := .snap (keyL kvs)) (R := fun _ _ => False) (N := fun τ M => M[l]? = some (.fk kvs) ∧ N τ (M.set l (.dK kvs))) (keyL kvs) I (fun i τ M _ => rfl) (fun i x τ M hx hI => hs i x τ M hx hI) (fun τ M h => hq τ M h) (kvs.length + 1) 0 τ (M.set l (.fk kvs)) (by omega) (Nat.zero_le _) h0
  unfold sForD
  rw [e]
  dsimp only
  rw [ec]
  dsimp only
  exact w_letGoS w
/-- add_ways: the states of before, a letter on, are added to states -/
theorem add_ways_ok {q : Qn} (h : q.Ok) {l ds db : Nat} (hl : l < q.L) {kv0 kv : Tal} {M : Store} (hs : M[ds]? = some (KC kv0)) (hb : M[db]? = some (KC kv)) (hne : ds ≠ db) (hk : ∀ s ∈ keysT kv, s < q.st.length) (hnd : (keysT kv).Nodup) (hz0 : kv0.length ≤ 1000) (hz : kv.length ≤ 1000) :
    (F_add_ways [.dct ds, q.A, nI l, .dct db] M).W fun a M' => M'[ds]? = some (KC (tally kv0 (kv.map fun p => (q.d p.1 l, p.2)))) ∧ Fr (some ds) M M' := by
  have hbs : ds < M.length := at_lt hs
  have hbl : db < M.length := at_lt hb
  have grow : ∀ (xs : List (Nat × Nat)) (k : Tal), (tally k xs).length ≤ k.length + xs.length := by
    intro xs
    induction xs with
    | nil => intro k; exact Nat.le_refl _
    | cons x xs ih =>
      intro k
      have h1 : (addT k x.1 x.2).length ≤ k.length + 1 := by unfold addT; split <;> simp
      have := ih (addT k x.1 x.2)
      show (tally (addT k x.1 x.2) xs).length ≤ _
      simp only [List.length_cons]
      omega
  refine w_def ?_
  unfold S_add_ways
  refine w_seq (w_forD (kvs := kv.map fun p => (kN p.1, nI p.2)) (l := db) rfl (show M[db]? = some (.dK (kv.map fun p => (kN p.1, nI p.2))) from hb) (fun i τ M' => (∃ y4 y5 : Option A, τ = [some (.dct ds), some q.A, some (nI l), some (.dct db), y4, y5]) ∧ M'[ds]? = some (KC (tally kv0 ((kv.take i).map fun p => (q.d p.1 l, p.2)))) ∧ M'[db]? = some (.fk (kv.map fun p => (kN p.1, nI p.2))) ∧ M.length ≤ M'.length ∧ ∀ j c, j ≠ ds → j ≠ db → M[j]? = some c → M'[j]? = some c) ?_ ?_ ?_)
  · refine ⟨⟨_, _, rfl⟩, ?_, at_set hb, by simp, fun j c _ h2 e => ?_⟩
    · rw [List.getElem?_set_ne (Ne.symm hne)]; exact hs
    · rw [List.getElem?_set_ne (Ne.symm h2)]; exact e
  · rintro i x τ M' hx ⟨⟨y4, y5, rfl⟩, g1, g2, g3, g4⟩
    unfold keyL at hx
    rw [List.map_map, List.getElem?_map] at hx
    obtain ⟨p, hp, rfl⟩ := Option.map_eq_some_iff.mp hx
    have hpk : p.1 ∈ keysT kv := List.mem_map.mpr ⟨p, List.mem_of_getElem? hp, rfl⟩
    have hlt := hk p.1 hpk
    have hi := (List.getElem?_eq_some_iff.mp hp).1
    have hcnt : cntOf kv p.1 = p.2 := by
      have : ∀ {kv : Tal} {p : Nat × Nat}, (keysT kv).Nodup → p ∈ kv → cntOf kv p.1 = p.2 := by
        intro kv
        induction kv with
        | nil => intro p _ hp; cases hp
        | cons r kv ih =>
          intro p hn hp
          have hn := List.nodup_cons.mp (show (r.1 :: keysT kv).Nodup from hn)
          rw [cntOf_cons]
          rcases List.mem_cons.mp hp with rfl | hp
          · rw [if_pos rfl]
          · rw [if_neg (fun z => hn.1 (by rw [z]; exact List.mem_map.mpr ⟨p, hp, rfl⟩)), ih hn.2 hp]
      exact this hnd (List.mem_of_getElem? hp)
    refine ⟨_, rfl, ?_⟩
    have e4 : ((fun kv : Key × A => keyA kv.1) ∘ fun p : Nat × Nat => (kN p.1, nI p.2)) p = nI p.1 := rfl
    rw [e4]
    repeat walk_at "wt"
    refine w_toE ixQ1 ?_
    repeat walk_at "wt"
    refine w_toE (ixRow h hlt) ?_
    repeat walk_at "wt"
    refine w_toE (ixD h hlt hl) ?_
    repeat walk_at "wt"
    have gb : oDget (.dct db) (nI p.1) M' = some (nI p.2, M') := by
      unfold oDget dGet
      dsimp only
      rw [g2]
      show (match some (valA (kv.map fun p => (kN p.1, nI p.2)) (kN p.1)) with
        | some (some a) => some (a, M')
        | _ => none) = _
      rw [valA_KC, if_pos hpk, hcnt]
    obtain ⟨o, o1, o2⟩ := get_KC g1 (q.d p.1 l)
    refine ⟨ds, rfl, by unfold isDk; rw [g1]; rfl, ?_⟩
    repeat walk_at "wt"
    refine ⟨o, o1, ?_⟩
    rw [o2]
    repeat walk_at "wt"
    refine w_toE gb ?_
    refine w_toE (add_nat (a := cntOf (tally kv0 ((kv.take i).map fun p => (q.d p.1 l, p.2))) (q.d p.1 l)) (b := p.2)) ?_
    repeat walk_at "wt"
    have hlen := grow ((kv.take i).map fun p => (q.d p.1 l, p.2)) kv0
    rw [List.length_map, List.length_take] at hlen
    refine ⟨ds, _, rfl, put_KC g1 (q.d p.1 l) p.2 (by omega), ?_⟩
    repeat walk_at "wt"
    have et : tally kv0 ((kv.take (i + 1)).map fun p => (q.d p.1 l, p.2)) = addT (tally kv0 ((kv.take i).map fun p => (q.d p.1 l, p.2))) (q.d p.1 l) p.2 := by
      rw [List.take_add_one, hp, List.map_append]
      unfold tally
      rw [List.foldl_append]
      rfl
    refine ⟨⟨_, _, rfl⟩, by rw [et]; exact at_set g1, at_ne (Ne.symm hne) g2, by rw [List.length_set]; exact g3, fun j c h1 h2 e => at_ne (fun z => h1 z) (g4 j c h1 h2 e)⟩
  · rintro τ M' ⟨⟨y4, y5, rfl⟩, g1, g2, g3, g4⟩
    refine ⟨g2, ?_⟩
    have hkl : (keyL (kv.map fun p => (kN p.1, nI p.2))).length = kv.length := by unfold keyL; simp
    rw [hkl, List.take_length] at g1
    repeat walk_at "wt"
    refine ⟨at_ne hne g1, by rw [List.length_set]; exact g3, fun j c h1 e => ?_⟩
    by_cases hj : j = db
    · subst hj
      rw [hb] at e
      cases e
      exact at_set g2
    · exact at_ne (fun z => hj z) (g4 j c (fun z => h1 (by rw [z])) hj e)
end P66
namespace P66
open PySem PySem.Spec PyProof.Rows L2 AB SM
/-! ### the ways of a row, as the program tallies them -/
def wStep (p : Qn) (W : List Nat → Tal) (r : List Nat) (kv : Tal) (l : Nat) : Tal := if 0 < r.getD l 0 then tally kv ((W (lessN r l)).map fun q => (p.d q.1 l, q.2)) else kv
def WT (p : Qn) : Nat → List Nat → Tal
  | 0, _ => []
  | n + 1, r => if r.sum = 0 then [(0, 1)] else (List.range r.length).foldl (wStep p (WT p n) r) []
theorem WT_rep (p : Qn) : ∀ (n : Nat) (r : List Nat), r.sum < n → Rep (WT p n r) (endsT p n r)
  | 0, r, h => by omega
  | n + 1, r, h => by
    unfold WT
    by_cases h0 : r.sum = 0
    · rw [if_pos h0]
      have e : endsT p (n + 1) r = [0] := by
        unfold endsT allT
        rw [if_pos h0]; rfl
      rw [e]
      exact .one 0
    · rw [if_neg h0, ends_step h0]
      have key : ∀ L : List Nat, (∀ l ∈ L, l < r.length) → Rep (L.foldl (wStep p (WT p n) r) []) (L.flatMap fun l => if 0 < r.getD l 0 then (endsT p n (lessN r l)).map (fun s => p.d s l) else []) := by
        intro L
        induction L using snoc_ind with
        | h0 => intro _; exact .nil
        | h1 L l ih =>
          intro hL
          have ih := ih fun x hx => hL x (List.mem_append_left _ hx)
          have hl : l < r.length := hL l (by simp)
          rw [List.foldl_append, List.flatMap_append, List.flatMap_cons, List.flatMap_nil, List.append_nil]
          show Rep (wStep p (WT p n) r (L.foldl (wStep p (WT p n) r) []) l) _
          unfold wStep
          by_cases hp : 0 < r.getD l 0
          · rw [if_pos hp, if_pos hp]
            have := lessN_sum hl hp
            exact Rep.more (fun s => p.d s l) ih (WT_rep p n (lessN r l) (by omega))
          · rw [if_neg hp, if_neg hp, List.append_nil]
            exact ih
      exact key _ fun l hl => List.mem_range.mp hl
/-- the fuel doesn't matter -/
theorem WT_fuel (p : Qn) : ∀ (n m : Nat) (r : List Nat), r.sum < n → r.sum < m → WT p n r = WT p m r
  | 0, _, r, h, _ => by omega
  | _, 0, r, _, h => by omega
  | n + 1, m + 1, r, h1, h2 => by
    unfold WT
    by_cases h0 : r.sum = 0
    · rw [if_pos h0, if_pos h0]
    · rw [if_neg h0, if_neg h0]
      have key : ∀ L : List Nat, (∀ l ∈ L, l < r.length) → ∀ kv, L.foldl (wStep p (WT p n) r) kv = L.foldl (wStep p (WT p m) r) kv := by
        intro L
        induction L with
        | nil => intro _ kv; rfl
        | cons l L ih =>
          intro hL kv
          rw [List.foldl_cons, List.foldl_cons]
          have hl : l < r.length := hL l List.mem_cons_self
          have e : wStep p (WT p n) r kv l = wStep p (WT p m) r kv l := by
            unfold wStep
            by_cases hp : 0 < r.getD l 0
            · have := lessN_sum hl hp
              rw [if_pos hp, if_pos hp, WT_fuel p n m (lessN r l) (by omega) (by omega)]
            · rw [if_neg hp, if_neg hp]
          rw [e]
          exact ih (fun x hx => hL x (List.mem_cons_of_mem _ hx)) _
      exact key _ (fun l hl => List.mem_range.mp hl) _
/-- what stands of a row, whatever the fuel -/
def ways (p : Qn) (r : List Nat) : Tal := WT p (r.sum + 1) r
theorem ways_rep (p : Qn) (r : List Nat) : Rep (ways p r) (endsT p (r.sum + 1) r) := WT_rep p _ r (by omega)
theorem ways_eq (p : Qn) {r : List Nat} (h0 : r.sum ≠ 0) : ways p r = (List.range r.length).foldl (wStep p (ways p) r) [] := by
  unfold ways
  show WT p (r.sum + 1) r = _
  conv => lhs; unfold WT
  rw [if_neg h0]
  have key : ∀ L : List Nat, (∀ l ∈ L, l < r.length) → ∀ kv, L.foldl (wStep p (WT p r.sum) r) kv = L.foldl (wStep p (ways p) r) kv := by
    intro L
    induction L with
    | nil => intro _ kv; rfl
    | cons l L ih =>
      intro hL kv
      rw [List.foldl_cons, List.foldl_cons]
      have hl : l < r.length := hL l List.mem_cons_self
      have e : wStep p (WT p r.sum) r kv l = wStep p (ways p) r kv l := by
        unfold wStep
        by_cases hp : 0 < r.getD l 0
        · have := lessN_sum hl hp
          rw [if_pos hp, if_pos hp]
          unfold ways
          rw [WT_fuel p r.sum ((lessN r l).sum + 1) (lessN r l) (by omega) (by omega)]
        · rw [if_neg hp, if_neg hp]
      rw [e]
      exact ih (fun x hx => hL x (List.mem_cons_of_mem _ hx)) _
  exact key _ (fun l hl => List.mem_range.mp hl) _
end P66
namespace P66
open PySem PySem.Spec PyProof.Rows L2 AB SM
/-! ### answers_of -/
theorem tally_len : ∀ (xs : List (Nat × Nat)) (k : Tal), (tally k xs).length ≤ k.length + xs.length
  | [], k => Nat.le_refl _
  | x :: xs, k => by
    have h1 : (addT k x.1 x.2).length ≤ k.length + 1 := by unfold addT; split <;> simp
    have := tally_len xs (addT k x.1 x.2)
    show (tally (addT k x.1 x.2) xs).length ≤ _
    simp only [List.length_cons]
    omega
theorem cnt_of {kv : Tal} {p : Nat × Nat} (hn : (keysT kv).Nodup) (hp : p ∈ kv) : cntOf kv p.1 = p.2 := by
  induction kv with
  | nil => cases hp
  | cons r kv ih =>
    have hn := List.nodup_cons.mp (show (r.1 :: keysT kv).Nodup from hn)
    rw [cntOf_cons]
    rcases List.mem_cons.mp hp with rfl | hp
    · rw [if_pos rfl]
    · rw [if_neg (fun z => hn.1 (by rw [z]; exact List.mem_map.mpr ⟨p, hp, rfl⟩)), ih hn.2 hp]
def prI (q : Nat × Nat) : List Int := [(q.1 : Int), (q.2 : Int)]
def canonT (t : Tal) : List A := (SX.sortL (t.map prI)).map tupI
def byAns (p : Qn) (kv : Tal) : Tal := tally [] (kv.map fun q => (p.o q.1, q.2))
theorem tups_prI : ∀ t : Tal, tups? ((t.map fun q => (kN q.1, nI q.2)).map itemA) = some (t.map prI)
  | [] => rfl
  | q :: t => by
    have ih := tups_prI t
    show (match ints? [A.int (q.1 : Int), .int (q.2 : Int)], tups? ((t.map fun q => (kN q.1, nI q.2)).map itemA) with
      | some (i :: is), some r => some ((i :: is) :: r)
      | _, _ => none) = _
    rw [ih]
    rfl
theorem answers_of_ok {q : Qn} (h : q.Ok) {ds : Nat} {kv : Tal} {M : Store} (hs : M[ds]? = some (KC kv)) (hk : ∀ s ∈ keysT kv, s < q.st.length) (hnd : (keysT kv).Nodup) (hz : kv.length ≤ 1000) :
    (F_answers_of [q.A, .dct ds] M).W fun a M' => a = .tup (canonT (byAns q kv)) ∧ Pre M M' := by
  have hbs : ds < M.length := at_lt hs
  have hne : M.length ≠ ds := by omega
  refine w_def ?_
  unfold S_answers_of
  repeat walk_at "wt"
  have hd2 : (M ++ [Cell.dK []])[ds]? = some (.dK (kv.map fun p => (kN p.1, nI p.2))) := at_app hs
  refine w_forD (kvs := kv.map fun p => (kN p.1, nI p.2)) (l := ds) rfl hd2 (fun i τ M' => (∃ y3 y4 : Option A, τ = [some q.A, some (.dct ds), some (.dct M.length), y3, y4]) ∧ M'[M.length]? = some (KC (tally [] ((kv.take i).map fun p => (q.o p.1, p.2)))) ∧ M'[ds]? = some (.fk (kv.map fun p => (kN p.1, nI p.2))) ∧ M.length ≤ M'.length ∧ ∀ j c, j ≠ ds → M[j]? = some c → M'[j]? = some c) ?_ ?_ ?_
  · refine ⟨⟨_, _, rfl⟩, ?_, at_set hd2, by simp, fun j c h2 e => ?_⟩
    · rw [List.getElem?_set_ne (Ne.symm hne)]; exact at_new
    · rw [List.getElem?_set_ne (Ne.symm h2)]; exact at_app e
  · rintro i x τ M' hx ⟨⟨y3, y4, rfl⟩, g1, g2, g3, g4⟩
    unfold keyL at hx
    rw [List.map_map, List.getElem?_map] at hx
    obtain ⟨p, hp, rfl⟩ := Option.map_eq_some_iff.mp hx
    have hpk : p.1 ∈ keysT kv := List.mem_map.mpr ⟨p, List.mem_of_getElem? hp, rfl⟩
    have hlt := hk p.1 hpk
    have hi := (List.getElem?_eq_some_iff.mp hp).1
    have hcnt := cnt_of hnd (List.mem_of_getElem? hp)
    refine ⟨_, rfl, ?_⟩
    have e4 : ((fun kv : Key × A => keyA kv.1) ∘ fun p : Nat × Nat => (kN p.1, nI p.2)) p = nI p.1 := rfl
    rw [e4]
    repeat walk_at "wt"
    refine w_toE ixQ2 ?_
    repeat walk_at "wt"
    refine w_toE (ixO h hlt) ?_
    repeat walk_at "wt"
    have gb : oDget (.dct ds) (nI p.1) M' = some (nI p.2, M') := by
      unfold oDget dGet
      dsimp only
      rw [g2]
      show (match some (valA (kv.map fun p => (kN p.1, nI p.2)) (kN p.1)) with
        | some (some a) => some (a, M')
        | _ => none) = _
      rw [valA_KC, if_pos hpk, hcnt]
    obtain ⟨o, o1, o2⟩ := get_KC g1 (q.o p.1)
    refine ⟨M.length, rfl, by unfold isDk; rw [g1]; rfl, ?_⟩
    repeat walk_at "wt"
    refine ⟨o, o1, ?_⟩
    rw [o2]
    repeat walk_at "wt"
    refine w_toE gb ?_
    refine w_toE (add_nat (a := cntOf (tally [] ((kv.take i).map fun p => (q.o p.1, p.2))) (q.o p.1)) (b := p.2)) ?_
    repeat walk_at "wt"
    have hlen := tally_len ((kv.take i).map fun p => (q.o p.1, p.2)) []
    rw [List.length_map, List.length_take] at hlen
    refine ⟨M.length, _, rfl, put_KC g1 (q.o p.1) p.2 (by rw [List.length_nil] at hlen; omega), ?_⟩
    repeat walk_at "wt"
    have et : tally [] ((kv.take (i + 1)).map fun p => (q.o p.1, p.2)) = addT (tally [] ((kv.take i).map fun p => (q.o p.1, p.2))) (q.o p.1) p.2 := by
      rw [List.take_add_one, hp, List.map_append]
      unfold tally
      rw [List.foldl_append]
      rfl
    refine ⟨⟨_, _, rfl⟩, by rw [et]; exact at_set g1, at_ne (Ne.symm hne) g2, by rw [List.length_set]; exact g3, fun j c h1 e => ?_⟩
    have hj : j < M.length := (List.getElem?_eq_some_iff.mp e).1
    exact at_ne (by omega) (g4 j c h1 e)
  · rintro τ M' ⟨⟨y3, y4, rfl⟩, g1, g2, g3, g4⟩
    refine ⟨g2, ?_⟩
    have hkl : (keyL (kv.map fun p => (kN p.1, nI p.2))).length = kv.length := by unfold keyL; simp
    rw [hkl, List.take_length] at g1
    have g1' : (M'.set ds (.dK (kv.map fun p => (kN p.1, nI p.2))))[M.length]? = some (KC (byAns q kv)) := at_ne hne g1
    have pp : Pre M (M'.set ds (.dK (kv.map fun p => (kN p.1, nI p.2)))) := by
      refine ⟨by rw [List.length_set]; exact g3, fun j c _ e => ?_⟩
      by_cases hj : j = ds
      · subst hj
        rw [hs] at e
        cases e
        exact at_set g2
      · exact at_ne hj (g4 j c hj e)
    repeat walk_at "wt"
    refine w_listItems (w_var (a := .dct M.length) rfl ⟨M.length, _, rfl, g1', ?_⟩)
    repeat walk_at "wt"
    have hl2 := listAt_of (at_new (M := M'.set ds (.dK (kv.map fun p => (kN p.1, nI p.2)))) (c := .lst (((byAns q kv).map fun p => (kN p.1, nI p.2)).map itemA)))
    refine w_toE (a := .lst ((M'.set ds (.dK (kv.map fun p => (kN p.1, nI p.2)))).length + 1)) (M' := (M'.set ds (.dK (kv.map fun p => (kN p.1, nI p.2))) ++ [.lst (((byAns q kv).map fun p => (kN p.1, nI p.2)).map itemA)]) ++ [.lst (canonT (byAns q kv))]) (by
      unfold oSortM
      dsimp only
      rw [hl2]
      dsimp only
      rw [tups_prI]
      simp [canonT]) ?_
    repeat walk_at "wt"
    refine w_toE (tuple_lst (listAt_of (M := (M'.set ds (.dK (kv.map fun p => (kN p.1, nI p.2))) ++ [.lst (((byAns q kv).map fun p => (kN p.1, nI p.2)).map itemA)]) ++ [.lst (canonT (byAns q kv))]) (xs := canonT (byAns q kv)) (by simp))) ⟨rfl, (pp.app _).app _⟩
end P66
namespace P66
open PySem PySem.Spec PyProof.Rows L2 AB SM
/-! ### the rows' order -/
theorem flat_get {α β : Type} {f : α → List β} {B : Nat} : ∀ {L : List α} {i k : Nat} {x : α}, (∀ y ∈ L, (f y).length = B) → L[i]? = some x → k < B → (L.flatMap f)[i * B + k]? = (f x)[k]?
  | [], _, _, _, _, h, _ => by simp at h
  | y :: L, 0, k, x, hf, h, hk => by
    have : y = x := by simpa using h
    subst this
    rw [List.flatMap_cons, Nat.zero_mul, Nat.zero_add, List.getElem?_append_left (by rw [hf y List.mem_cons_self]; exact hk)]
  | y :: L, i + 1, k, x, hf, h, hk => by
    have hy := hf y List.mem_cons_self
    rw [List.flatMap_cons, List.getElem?_append_right (by rw [hy, Nat.add_mul]; omega), hy, show (i + 1) * B + k - B = i * B + k by rw [Nat.add_mul]; omega]
    exact flat_get (fun z hz => hf z (List.mem_cons_of_mem _ hz)) (by simpa using h) hk
theorem cu_get {rows : List (List Nat)} {m i k : Nat} {r : List Nat} (h : rows[i]? = some r) (hk : k ≤ m) : (cu rows m)[i * (m + 1) + k]? = some (r ++ [k]) := by
  unfold cu
  rw [flat_get (B := m + 1) (fun y _ => by simp) h (by omega), List.getElem?_map, List.getElem?_range (by omega)]
  rfl
theorem cu_split {rows : List (List Nat)} {m e : Nat} {r : List Nat} (h : (cu rows m)[e]? = some r) : ∃ i k r', e = i * (m + 1) + k ∧ k ≤ m ∧ rows[i]? = some r' ∧ r = r' ++ [k] := by
  have he := (List.getElem?_eq_some_iff.mp h).1
  rw [cu_len] at he
  have hi : e / (m + 1) < rows.length := Nat.div_lt_of_lt_mul (by rw [Nat.mul_comm]; exact he)
  have hk : e % (m + 1) < m + 1 := Nat.mod_lt _ (by omega)
  have ee : e = e / (m + 1) * (m + 1) + e % (m + 1) := by rw [Nat.mul_comm]; exact (Nat.div_add_mod e (m + 1)).symm
  refine ⟨e / (m + 1), e % (m + 1), rows[e / (m + 1)], ee, by omega, List.getElem?_eq_getElem hi, ?_⟩
  have := cu_get (m := m) (List.getElem?_eq_getElem hi) (show e % (m + 1) ≤ m by omega)
  rw [← ee, h] at this
  exact Option.some.inj this
theorem rows_len (c : List Nat) : ∀ r ∈ rowsU c, r.length = c.length := by
  induction c using snoc_ind with
  | h0 => intro r hr; rw [List.mem_singleton.mp hr]
  | h1 c m ih =>
    intro r hr
    rw [rowsU_snoc] at hr
    obtain ⟨e, he⟩ := List.mem_iff_getElem?.mp hr
    obtain ⟨i, k, r', _, _, h, rfl⟩ := cu_split he
    rw [List.length_append, List.length_append, ih r' (List.mem_of_getElem? h)]
    rfl
/-- the row less one letter stands earlier -/
theorem rows_before (c : List Nat) : ∀ (e : Nat) (r : List Nat), (rowsU c)[e]? = some r → ∀ l, l < r.length → 0 < r.getD l 0 → ∃ j, j < e ∧ (rowsU c)[j]? = some (lessN r l) := by
  induction c using snoc_ind with
  | h0 =>
    intro e r h l hl _
    have := List.mem_singleton.mp (List.mem_of_getElem? h)
    subst this
    exact absurd hl (Nat.not_lt_zero _)
  | h1 c m ih =>
    intro e r h l hl hp
    rw [rowsU_snoc] at h ⊢
    obtain ⟨i, k, r', rfl, hk, hr', rfl⟩ := cu_split h
    rw [List.length_append] at hl
    simp only [List.length_singleton] at hl
    by_cases z : l = r'.length
    · subst z
      have ek : (r' ++ [k]).getD r'.length 0 = k := by rw [List.getD_eq_getElem?_getD]; simp
      rw [ek] at hp
      refine ⟨i * (m + 1) + (k - 1), by omega, ?_⟩
      rw [cu_get hr' (by omega)]
      unfold lessN
      rw [ek]
      simp
    · have hl' : l < r'.length := by omega
      have ek : (r' ++ [k]).getD l 0 = r'.getD l 0 := by rw [List.getD_eq_getElem?_getD, List.getD_eq_getElem?_getD, List.getElem?_append_left hl']
      rw [ek] at hp
      obtain ⟨j, hj, e⟩ := ih i r' hr' l hl' hp
      refine ⟨j * (m + 1) + k, ?_, ?_⟩
      · have : (j + 1) * (m + 1) ≤ i * (m + 1) := Nat.mul_le_mul_right _ hj
        rw [Nat.add_mul] at this
        omega
      · rw [cu_get e hk]
        unfold lessN
        rw [ek, List.take_append_of_le_length (by omega), List.drop_append_of_le_length (by omega)]
        simp
theorem rows_nodup (c : List Nat) : (rowsU c).Nodup := by
  induction c using snoc_ind with
  | h0 => simp [rowsU]
  | h1 c m ih =>
    rw [rowsU_snoc]
    refine List.pairwise_iff_getElem.mpr fun a b ha hb hab e => ?_
    have ea : (cu (rowsU c) m)[a]? = some (cu (rowsU c) m)[a] := List.getElem?_eq_getElem ha
    have eb : (cu (rowsU c) m)[b]? = some (cu (rowsU c) m)[b] := List.getElem?_eq_getElem hb
    obtain ⟨i, k, r, rfl, _, h1, h2⟩ := cu_split ea
    obtain ⟨j, k', r', rfl, _, h3, h4⟩ := cu_split eb
    rw [h2, h4] at e
    have er := (List.append_inj' e rfl).1
    have ek : k = k' := by simpa using (List.append_inj' e rfl).2
    subst er ek
    have hij : i = j := by
      have pw := List.pairwise_iff_getElem.mp ih
      obtain ⟨a1, a2⟩ := List.getElem?_eq_some_iff.mp h1
      obtain ⟨b1, b2⟩ := List.getElem?_eq_some_iff.mp h3
      rcases Nat.lt_trichotomy i j with z | z | z
      · exact absurd (a2.trans b2.symm) (pw i j a1 b1 z)
      · exact z
      · exact absurd (b2.trans a2.symm) (pw j i b1 a1 z)
    subst hij
    omega
end P66
namespace P66
open PySem PySem.Spec PyProof.Rows L2 AB SM
/-! ### ways_up_to -/
def KOk (p : Qn) (kv : Tal) : Prop := (keysT kv).Nodup ∧ ∀ s ∈ keysT kv, s < p.st.length
theorem KOk.len {p : Qn} (h : p.Ok) {kv : Tal} (k : KOk p kv) : kv.length ≤ 40 := by
  have h1 := nodup_lt p.st.length (keysT kv) k.1 k.2
  unfold keysT at h1
  rw [List.length_map] at h1
  have := h.n40
  omega
theorem ways_k {p : Qn} (h : p.Ok) {r : List Nat} (hr : r.length = p.L) : KOk p (ways p r) := by
  have w := ways_rep p r
  refine ⟨w.nd, fun s hs => ?_⟩
  have hs := (w.mem s).mp hs
  unfold endsT at hs
  obtain ⟨t, ht, rfl⟩ := List.mem_map.mp hs
  exact h.run_lt t (by have := h.n1; omega) fun x hx => by have := (allT_wd _ _ t ht).1 x hx; omega
theorem part_k {p : Qn} (h : p.Ok) {r : List Nat} (hr : r.length = p.L) {kv0 : Tal} (h0 : KOk p kv0) : ∀ L : List Nat, (∀ l ∈ L, l < r.length) → KOk p (L.foldl (wStep p (ways p) r) kv0) := by
  intro L
  induction L using snoc_ind with
  | h0 => intro _; exact h0
  | h1 L l ih =>
    intro hL
    have ih := ih fun x hx => hL x (List.mem_append_left _ hx)
    have hl : l < r.length := hL l (by simp)
    rw [List.foldl_append]
    show KOk p (wStep p (ways p) r _ l)
    unfold wStep
    split
    · refine ⟨tally_nd _ ih.1, fun s hs => ?_⟩
      rcases (tally_mem _ _ s).mp hs with hs | ⟨q, hq, e⟩
      · exact ih.2 s hs
      · obtain ⟨q', hq', rfl⟩ := List.mem_map.mp hq
        subst e
        exact h.d_lt ((ways_k h (by rw [lessN_len hl]; exact hr)).2 q'.1 (List.mem_map.mpr ⟨q', hq', rfl⟩)) (by omega)
    · exact ih
theorem rows_card (c : List Nat) : (∀ x ∈ c, x ≤ 20) → (rowsU c).length ≤ 21 ^ c.length := by
  induction c using snoc_ind with
  | h0 => intro _; simp [rowsU]
  | h1 d m ih =>
    intro hx
    have a := ih fun x hx2 => hx x (List.mem_append_left _ hx2)
    have hm := hx m (by simp)
    rw [rowsU_snoc, cu_len, List.length_append]
    show _ ≤ 21 ^ (d.length + 1)
    rw [Nat.pow_succ]
    exact Nat.mul_le_mul a (by omega)
theorem rows_few {c : List Nat} (h3 : c.length ≤ 3) (hc : ∀ x ∈ c, x ≤ 20) : (rowsU c).length ≤ 9261 :=
  Nat.le_trans (rows_card c hc) (Nat.le_trans (Nat.pow_le_pow_right (n := 21) (by decide) h3) (by decide))
theorem look_at {kv : List (List Nat × A)} {k : List Nat} {v : A} {j : Nat} (hn : (kv.map (·.1)).Nodup) (h : kv[j]? = some (k, v)) : look kv k = some v := by
  unfold look
  induction kv generalizing j with
  | nil => simp at h
  | cons p kv ih =>
    rw [List.map_cons, List.nodup_cons] at hn
    rw [List.find?_cons]
    cases j with
    | zero =>
      have : p = (k, v) := by simpa using h
      subst this
      simp
    | succ j =>
      have h2 : kv[j]? = some (k, v) := by simpa using h
      have : p.1 ≠ k := fun z => hn.1 (z ▸ List.mem_map.mpr ⟨_, List.mem_of_getElem? h2, rfl⟩)
      simp only [this, decide_false]
      exact ih hn.2 h2
theorem any_sum {M : Store} {r : List Nat} : oAnyI [tI r] M = some (.bl (decide (r.sum ≠ 0)), M) := by
  unfold oAnyI
  dsimp only
  rw [ints_nat]
  show some (A.bl _, M) = _
  congr 3
  induction r with
  | nil => rfl
  | cons x r ih =>
    rw [List.map_cons, List.any_cons, ih, List.sum_cons]
    by_cases h : x = 0
    · simp [h]
    · simp [h]
/-- what stands of the rows that are done -/
structure WA (p : Qn) (rows : List (List Nat)) (b : Nat) (M : Store) (l : Nat) (ad : List Nat) : Prop where
  len : ad.length = rows.length
  at_ : M[l]? = some (DT (rows.zip (ad.map A.dct)))
  cell : ∀ (i : Nat) (r : List Nat) (a : Nat), rows[i]? = some r → ad[i]? = some a → M[a]? = some (KC (ways p r)) ∧ b ≤ a ∧ a ≠ l
theorem zip_fst {α β : Type} : ∀ {xs : List α} {ys : List β}, ys.length = xs.length → (xs.zip ys).map (·.1) = xs
  | [], [], _ => rfl
  | x :: xs, y :: ys, h => by
    rw [List.zip_cons_cons, List.map_cons, zip_fst (by simpa using h)]
  | [], _ :: _, h => by simp at h
  | _ :: _, [], h => by simp at h
theorem WA.get {p : Qn} {rows : List (List Nat)} {b : Nat} {M : Store} {l : Nat} {ad : List Nat} (w : WA p rows b M l ad) (hn : rows.Nodup) {j : Nat} {r : List Nat} (h : rows[j]? = some r) :
    ∃ a, oDget (.dct l) (tI r) M = some (.dct a, M) ∧ M[a]? = some (KC (ways p r)) ∧ b ≤ a ∧ a ≠ l := by
  have hj := (List.getElem?_eq_some_iff.mp h).1
  have hl := w.len
  have ha : ad[j]? = some ad[j] := List.getElem?_eq_getElem (by omega)
  obtain ⟨c1, c2, c3⟩ := w.cell j r _ h ha
  refine ⟨ad[j], get_DT w.at_ (look_at (j := j) (by rw [zip_fst (by rw [List.length_map]; exact hl)]; exact hn) ?_), c1, c2, c3⟩
  rw [List.getElem?_zip_eq_some]
  exact ⟨h, by rw [List.getElem?_map, ha]; rfl⟩
theorem ways_zero (p : Qn) {r : List Nat} (h0 : r.sum = 0) : ways p r = [(0, 1)] := by
  unfold ways WT
  rw [if_pos h0]
def kv0 (r : List Nat) : Tal := if r.sum = 0 then [(0, 1)] else []
theorem kv0_k {p : Qn} (h : p.Ok) (r : List Nat) : KOk p (kv0 r) := by
  unfold kv0
  split
  · refine ⟨by simp [keysT], fun s hs => ?_⟩
    have := h.n1
    have : s = 0 := by simpa [keysT] using hs
    omega
  · exact ⟨.nil, fun s hs => by simp [keysT] at hs⟩
theorem sum_zero {r : List Nat} (h : r.sum = 0) (l : Nat) : r.getD l 0 = 0 := by
  rw [List.getD_eq_getElem?_getD]
  cases e : r[l]? with
  | none => rfl
  | some x =>
    have hx := List.mem_of_getElem? e
    have : x ≤ r.sum := by
      clear e h
      induction r with
      | nil => cases hx
      | cons y r ih =>
        rw [List.sum_cons]
        rcases List.mem_cons.mp hx with rfl | hx
        · omega
        · have := ih hx; omega
    show x = 0
    omega
theorem ways_full (p : Qn) (r : List Nat) : (List.range r.length).foldl (wStep p (ways p) r) (kv0 r) = ways p r := by
  unfold kv0
  by_cases h0 : r.sum = 0
  · rw [if_pos h0, ways_zero p h0]
    have : ∀ L : List Nat, L.foldl (wStep p (ways p) r) [(0, 1)] = [(0, 1)] := by
      intro L
      induction L with
      | nil => rfl
      | cons l L ih =>
        rw [List.foldl_cons]
        have e : wStep p (ways p) r [(0, 1)] l = [(0, 1)] := by
          unfold wStep
          rw [if_neg (by rw [sum_zero h0]; omega)]
        rw [e]; exact ih
    exact this _
  · rw [if_neg h0]
    exact (ways_eq p h0).symm
theorem set_new {M : Store} {c d : Cell} : (M ++ [c]).set M.length d = M ++ [d] := by
  simp
theorem ways_up_to_ok {p : Qn} (h : p.Ok) {c : List Nat} (hcl : c.length = p.L) (hc : ∀ x ∈ c, x ≤ 20) {M : Store} :
    (F_ways_up_to [p.A, tI c] M).W fun a M' => ∃ l ad, a = .dct l ∧ WA p (rowsU c) M.length M' l ad ∧ M.length ≤ l ∧ Pre M M' := by
  have h3 : c.length ≤ 3 := by have := h.l3; omega
  have hfew := rows_few h3 hc
  have hnd := rows_nodup c
  refine w_def ?_
  unfold S_ways_up_to
  repeat walk_at "wt"
  refine w_for (w_iSeqL ?_)
  repeat walk_at "wt"
  refine ⟨rfl, (counts_up_to_ok h3 hc).imp ?_⟩
  rintro _ M1 ⟨lr, rfl, hlr, hr, p1⟩
  rw [List.length_append, List.length_singleton] at hlr
  refine ⟨lr, _, rfl, listAt_of hr, (rowsU c).map tI, fun i τ M' => (∃ y3 y4 y5 y6 : Option A, τ = [some p.A, some (tI c), some (.dct M.length), y3, y4, y5, y6]) ∧ (∃ ad, WA p ((rowsU c).take i) M.length M' M.length ad) ∧ M'[lr]? = some (.lst ((rowsU c).map tI)) ∧ Pre M M', ?_, ⟨⟨_, _, _, _, rfl⟩, ⟨[], rfl, ?_, fun i r a e => by simp at e⟩, hr, (Fr.refl.app _).trans p1⟩, fun i τ M' h => dyn_at h.2.2.1 Fr.refl i, ?_, ?_⟩
  · rw [dyn_size hr]
  · exact p1.at at_new
  · rintro i x τ M' hx ⟨⟨y3, y4, y5, y6, rfl⟩, ⟨ad, wa⟩, g3, pp⟩
    rw [List.getElem?_map] at hx
    obtain ⟨r, hri, rfl⟩ := Option.map_eq_some_iff.mp hx
    have hi := (List.getElem?_eq_some_iff.mp hri).1
    have hrl : r.length = p.L := by rw [rows_len c r (List.mem_of_getElem? hri)]; exact hcl
    refine ⟨_, rfl, ?_⟩
    have hds : M.length ≤ M'.length := pp.1
    -- the tally begins
    refine w_seq (w_set (w_eIf (w_T (w_fn ?_))))
    repeat walk_at "wt"
    refine w_toE any_sum ⟨decide (r.sum ≠ 0), rfl, ?_⟩
    have body : ∀ (τ1 : Sl) (M2 : Store), τ1 = [some p.A, some (tI c), some (.dct M.length), some (tI r), some (.dct M'.length), y5, y6] → M2 = M' ++ [KC (kv0 r)] → ∀ {N : Sl → Store → Prop} {R : A → Store → Prop}, (∀ y5 y6 M3, M3[M'.length]? = some (KC (ways p r)) → Fr (some M'.length) (M' ++ [KC (kv0 r)]) M3 → N [some p.A, some (tI c), some (.dct M.length), some (tI r), some (.dct M'.length), y5, y6] M3) →
        (sFor (iEnumA (eCons (eVar 3) eNil)) (.tp [(.nm 5), (.nm 6)]) (sSeq (sIf (eB (eOp oGt (eVar 6) (eC (.int 0)))) (sSeq (sExpr (eCall 4 F_add_ways (eCons (eVar 4) (eCons (eVar 0) (eCons (eVar 5) (eCons (eOp oDget (eVar 2) (eOp oAdd (eOp oAdd (eSl (eVar 3) eNoPart (ePart (eVar 5))) (eTup (eCons (eOp oSub (eVar 6) (eC (.int 1))) eNil))) (eSl (eVar 3) (ePart (eOp oAdd (eVar 5) (eC (.int 1)))) eNoPart))) eNil)))))) sNil) sNil) sNil) τ1 M2).W N R := by
      rintro τ1 M2 rfl rfl N R hN
      refine w_for (w_enumT ?_)
      repeat walk_at "wt"
      refine ⟨_, rfl, pairsFrom 0 (r.map nI), fun k τ M3 => (∃ y5 y6 : Option A, τ = [some p.A, some (tI c), some (.dct M.length), some (tI r), some (.dct M'.length), y5, y6]) ∧ M3[M'.length]? = some (KC (((List.range r.length).take k).foldl (wStep p (ways p) r) (kv0 r))) ∧ Fr (some M'.length) (M' ++ [KC (kv0 r)]) M3, by simp [Src.size], ⟨⟨_, _, rfl⟩, at_new, Fr.refl⟩, fun k τ M3 _ => rfl, ?_, ?_⟩
      · rintro k x τ M3 hx ⟨⟨z5, z6, rfl⟩, e1, f3⟩
        rw [pairs_get, List.getElem?_map] at hx
        obtain ⟨x', hx', rfl⟩ := Option.map_eq_some_iff.mp hx
        obtain ⟨y, hy, rfl⟩ := Option.map_eq_some_iff.mp hx'
        rw [Nat.zero_add]
        have hk := (List.getElem?_eq_some_iff.mp hy).1
        have hyk : r.getD k 0 = y := by rw [List.getD_eq_getElem?_getD, hy]; rfl
        have htk : (List.range r.length).take (k + 1) = (List.range r.length).take k ++ [k] := by rw [List.take_add_one, List.getElem?_range hk]; rfl
        refine ⟨_, rfl, ?_⟩
        repeat walk_at "wt"
        refine w_toE (a := .bl (decide (0 < y))) (M' := M3) (by
          show some (A.bl (decide ((0 : Int) < ((y : Nat) : Int))), M3) = _
          congr 3
          exact decide_eq_decide.mpr (by omega)) ⟨_, rfl, ?_⟩
        by_cases hp : 0 < y
        · rw [if_pos (by simpa using hp)]
          obtain ⟨j, hj, hrj⟩ := rows_before c i r hri k hk (by rw [hyk]; exact hp)
          have hrj2 : ((rowsU c).take i)[j]? = some (lessN r k) := by rw [List.getElem?_take, if_pos hj]; exact hrj
          obtain ⟨a, a1, a2, a3, a4⟩ := wa.get (hnd.sublist (List.take_sublist _ _)) hrj2
          have hal : a < M'.length := at_lt a2
          have hll : M.length < M'.length := at_lt wa.at_
          repeat walk_at "wt"
          refine w_sl ?_
          repeat walk_at "wt"
          refine w_noPart (w_part ?_)
          repeat walk_at "wt"
          refine ⟨_, rfl, w_toE (sl_take (s := k) (by rw [List.length_map]; omega)) ?_⟩
          repeat walk_at "wt"
          refine w_toE (sub_nat (a := y) (by omega)) ?_
          repeat walk_at "wt"
          refine ⟨by simp [sizeLine_eq], ?_⟩
          refine w_toE (add_tup (by rw [List.length_take, List.length_map]; simp; omega)) ?_
          refine w_sl ?_
          repeat walk_at "wt"
          refine w_part ?_
          repeat walk_at "wt"
          refine w_toE (add_nat (a := k) (b := 1)) ?_
          refine ⟨_, rfl, w_noPart ?_⟩
          refine w_toE (sl_drop (s := k + 1) (by rw [List.length_map]; omega)) ?_
          refine w_toE (add_tup (by rw [List.length_append, List.length_take, List.length_drop, List.length_map]; simp; omega)) ?_
          have eless : (A.tup (List.take k (List.map nI r) ++ [nI (y - 1)] ++ List.drop (k + 1) (List.map nI r))) = tI (lessN r k) := by
            unfold lessN
            rw [hyk]
            simp [tI, List.map_take, List.map_drop]
          rw [eless]
          have at3 : ∀ {b : Nat} {cc : Cell}, M'[b]? = some cc → M3[b]? = some cc := fun {b cc} e => f3.at (at_app e) (by
            have := at_lt e
            simp
            omega)
          have hget : oDget (.dct M.length) (tI (lessN r k)) M3 = some (.dct a, M3) := by
            have w3 : M3[M.length]? = some (DT (((rowsU c).take i).zip (ad.map A.dct))) := at3 wa.at_
            unfold oDget at a1 ⊢
            dsimp only at a1 ⊢
            rw [dGet_DT wa.at_] at a1
            rw [dGet_DT w3]
            cases el : look (((rowsU c).take i).zip (ad.map A.dct)) (lessN r k) with
            | none => rw [el] at a1; cases a1
            | some v => rw [el] at a1; simp at a1; rw [a1]
          refine w_toE hget ?_
          repeat walk_at "wt"
          have kp := part_k h hrl (kv0_k h r) ((List.range r.length).take k) fun l hl => List.mem_range.mp (List.mem_of_mem_take hl)
          have kw := ways_k h (r := lessN r k) (by rw [lessN_len hk]; exact hrl)
          have l1 := kp.len h
          have l2 := kw.len h
          refine ⟨rfl, (add_ways_ok h (l := k) (by omega) e1 (at3 a2) (by omega) kw.2 kw.1 (by omega) (by omega)).imp ?_⟩
          rintro _ M4 ⟨e4, f4⟩
          repeat walk_at "wt"
          refine ⟨⟨_, _, rfl⟩, ?_, f3.trans f4⟩
          rw [htk, List.foldl_append, e4]
          show _ = some (KC (wStep p (ways p) r _ k))
          unfold wStep
          rw [if_pos (by rw [hyk]; exact hp)]
        · rw [if_neg (by simpa using hp)]
          repeat walk_at "wt"
          refine ⟨⟨_, _, rfl⟩, ?_, f3⟩
          rw [htk, List.foldl_append, e1]
          show _ = some (KC (wStep p (ways p) r _ k))
          unfold wStep
          rw [if_neg (by rw [hyk]; exact hp)]
      · rintro τ M3 ⟨⟨z5, z6, rfl⟩, e1, f3⟩
        rw [pairs_len, List.length_map, List.take_of_length_le (by simp), ways_full] at e1
        exact hN _ _ _ e1 f3
    have fin : ∀ y5 y6 M3, M3[M'.length]? = some (KC (ways p r)) → Fr (some M'.length) (M' ++ [KC (kv0 r)]) M3 → (sSeq (sDput (eVar 2) (eVar 3) (eVar 4)) sNil [some p.A, some (tI c), some (.dct M.length), some (tI r), some (.dct M'.length), y5, y6] M3).W (fun τ M' => (∃ y3 y4 y5 y6 : Option A, τ = [some p.A, some (tI c), some (.dct M.length), y3, y4, y5, y6]) ∧ (∃ ad, WA p ((rowsU c).take (i + 1)) M.length M' M.length ad) ∧ M'[lr]? = some (.lst ((rowsU c).map tI)) ∧ Pre M M') (fun a M' => ∃ l ad, a = .dct l ∧ WA p (rowsU c) M.length M' l ad ∧ M.length ≤ l ∧ Pre M M') := by
      intro z5 z6 M3 e1 f3
      have hll : M.length < M'.length := at_lt wa.at_
      have hlrl : lr < M'.length := at_lt g3
      have at3 : ∀ {b : Nat} {cc : Cell}, M'[b]? = some cc → M3[b]? = some cc := fun {b cc} e => f3.at (at_app e) (by
        have := at_lt e
        simp
        omega)
      have w3 : M3[M.length]? = some (DT (((rowsU c).take i).zip (ad.map A.dct))) := at3 wa.at_
      have hadl : (ad.map A.dct).length = ((rowsU c).take i).length := by rw [List.length_map]; exact wa.len
      repeat walk_at "wt"
      refine ⟨M.length, _, rfl, put_DT w3 ?_ ?_, ?_⟩
      · rw [zip_fst hadl]
        intro hm
        obtain ⟨j, hj⟩ := List.mem_iff_getElem?.mp hm
        rw [List.getElem?_take] at hj
        split at hj
        · rename_i hji
          obtain ⟨a1, a2⟩ := List.getElem?_eq_some_iff.mp hj
          obtain ⟨b1, b2⟩ := List.getElem?_eq_some_iff.mp hri
          exact absurd (a2.trans b2.symm) (List.pairwise_iff_getElem.mp hnd j i a1 b1 hji)
        · cases hj
      · rw [List.length_zip, List.length_take]; omega
      · repeat walk_at "wt"
        have htk : (rowsU c).take (i + 1) = (rowsU c).take i ++ [r] := by rw [List.take_add_one, hri]; rfl
        refine ⟨⟨_, _, _, _, rfl⟩, ⟨ad ++ [M'.length], ?_, ?_, ?_⟩, ?_, ?_⟩
        · rw [htk, List.length_append, List.length_append, wa.len]; rfl
        · rw [at_set w3, htk, List.map_append, List.zip_append hadl.symm]; rfl
        · intro j r2 a hj ha
          rw [htk] at hj
          have hwl := wa.len
          by_cases hji : j < ((rowsU c).take i).length
          · rw [List.getElem?_append_left hji] at hj
            rw [List.getElem?_append_left (by omega)] at ha
            obtain ⟨c1, c2, c3⟩ := wa.cell j r2 a hj ha
            exact ⟨at_ne c3 (at3 c1), c2, c3⟩
          · rw [List.getElem?_append_right (by omega)] at hj ha
            have hz : j - ((rowsU c).take i).length = 0 := by
              have := (List.getElem?_eq_some_iff.mp hj).1
              rw [List.length_singleton] at this
              omega
            rw [hz] at hj
            rw [hwl, hz] at ha
            simp at hj ha
            subst hj ha
            exact ⟨at_ne (by omega) e1, hds, by omega⟩
        · exact at_ne (by omega) (at3 g3)
        · refine Fr.set ⟨?_, fun j cc _ e => ?_⟩ (Nat.le_refl _)
          · have := f3.1
            rw [List.length_append] at this
            omega
          · exact at3 (pp.at e)
    by_cases h0 : r.sum = 0
    · rw [if_neg (by simp [h0])]
      refine w_disp1 ?_
      repeat walk_at "wt"
      refine ⟨kN 0, rfl, at_new, ?_⟩
      rw [set_new]
      refine w_seq (body _ _ rfl (by unfold kv0; rw [if_pos h0]; rfl) fun y5 y6 M3 e1 f3 => ?_)
      exact fin y5 y6 M3 e1 f3
    · rw [if_pos (by simpa using h0)]
      repeat walk_at "wt"
      refine body _ _ rfl (by unfold kv0; rw [if_neg h0]; rfl) fun y5 y6 M3 e1 f3 => ?_
      exact fin y5 y6 M3 e1 f3
  · rintro τ M' ⟨⟨y3, y4, y5, y6, rfl⟩, ⟨ad, wa⟩, g3, pp⟩
    rw [List.length_map, List.take_length] at wa
    repeat walk_at "wt"
    exact ⟨_, ad, rfl, wa, Nat.le_refl _, pp⟩
end P66
namespace P66
open PySem PySem.Spec PyProof.Rows L2 AB SM
/-! ### the pairs, in one order -/
theorem nodup_keys {t : Tal} (h : (keysT t).Nodup) : t.Nodup := (List.pairwise_map.mp h).imp fun hne e => hne (by rw [e])
theorem Rep.mem_pair {t : Tal} {ks : List Nat} (h : Rep t ks) {p : Nat × Nat} : p ∈ t ↔ p.1 ∈ ks ∧ p.2 = ks.count p.1 := by
  constructor
  · intro hp
    exact ⟨(h.mem p.1).mp (List.mem_map.mpr ⟨p, hp, rfl⟩), by rw [← h.cnt, cnt_of h.nd hp]⟩
  · rintro ⟨h1, h2⟩
    obtain ⟨p', hp', e⟩ := List.mem_map.mp ((h.mem p.1).mpr h1)
    have := cnt_of h.nd hp'
    rw [h.cnt, e, ← h2] at this
    have : p = p' := Prod.ext e.symm this
    rw [this]; exact hp'
theorem Rep.perm {t t' : Tal} {ks : List Nat} (h : Rep t ks) (h' : Rep t' ks) : t.Perm t' :=
  (List.perm_ext_iff_of_nodup (nodup_keys h.nd) (nodup_keys h'.nd)).mpr fun _ => h.mem_pair.trans h'.mem_pair.symm
theorem Rep.canon {t t' : Tal} {ks : List Nat} (h : Rep t ks) (h' : Rep t' ks) : canonT t = canonT t' := by
  unfold canonT
  rw [SX.up_unique (SX.sortL_up _) (SX.sortL_up _) (((SX.sortL_perm _).trans ((h.perm h').map prI)).trans (SX.sortL_perm _).symm)]
def keyI (t : Tal) : List Int := sortI ((keysT t).map fun (n : Nat) => (n : Int))
def dueT (t : Tal) : List A := (keyI t).map fun i => .tup [.int i, nI (cntOf t i.toNat)]
theorem due_eq {t : Tal} (hn : (keysT t).Nodup) : canonT t = dueT t := by
  unfold canonT dueT keyI
  have e : SX.sortL (t.map prI) = (sortI ((keysT t).map fun (n : Nat) => (n : Int))).map fun i => [i, (cntOf t i.toNat : Int)] := by
    refine SX.up_unique (SX.sortL_up _) ?_ ?_
    · unfold SX.Up
      rw [List.pairwise_map]
      refine (sortI_up _).imp fun {a b} hab => ?_
      by_cases z : b = a
      · subst z
        rw [SX.ltL_yes rfl, SX.ltL_yes rfl]; rfl
      · rw [SX.ltL_no z]
        exact decide_eq_false (by omega)
    · refine (SX.sortL_perm _).trans ((List.Perm.map _ (sortI_perm _)).trans ?_).symm
      unfold keysT
      rw [List.map_map, List.map_map]
      have : t.map (((fun (i : Int) => [i, (cntOf t i.toNat : Int)]) ∘ (fun (n : Nat) => (n : Int))) ∘ fun x => x.1) = t.map prI := List.map_congr_left fun p hp => by
        show [(p.1 : Int), (cntOf t (p.1 : Int).toNat : Int)] = [(p.1 : Int), (p.2 : Int)]
        rw [Int.toNat_natCast, cnt_of hn hp]
      rw [this]
  rw [e, List.map_map]
  rfl
theorem canon_len (t : Tal) : (canonT t).length = t.length := by
  unfold canonT
  rw [List.length_map, (SX.sortL_perm _).length_eq, List.length_map]
theorem key_len (t : Tal) : (keyI t).length = t.length := by
  unfold keyI keysT
  rw [(sortI_perm _).length_eq, List.length_map, List.length_map]
/-! ### arrangements, possible, is_sure -/
theorem rows_self (c : List Nat) : c ∈ rowsU c := by
  induction c using snoc_ind with
  | h0 => simp [rowsU]
  | h1 c m ih =>
    rw [rowsU_snoc]
    exact List.mem_flatMap.mpr ⟨c, ih, List.mem_map.mpr ⟨m, List.mem_range.mpr (by omega), rfl⟩⟩
/-- the answers of all texts with such counts -/
def ansT (q : Qn) (c : List Nat) : List Nat := (allT (c.sum + 1) c).map fun w => q.o (q.run 0 w)
theorem ans_rep {q p : Qn} (h : q.Ok) (hs : IsSmall q p) {c : List Nat} (hcl : c.length = q.L) : Rep (byAns p (ways p c)) (ansT q c) := by
  have r := Rep.more (fun s => p.o s) Rep.nil (ways_rep p c)
  rw [List.nil_append] at r
  have e : (endsT p (c.sum + 1) c).map (fun s => p.o s) = ansT q c := by
    unfold endsT ansT
    rw [List.map_map]
    refine List.map_congr_left fun w hw => ?_
    exact (hs.eqv h) w fun l hl => by
      have := (allT_wd _ _ w hw).1 l hl
      have := (hs.ok h).2.2
      omega
  rw [e] at r
  exact r
theorem arrangements_ok {q : Qn} (h : q.Ok) {c : List Nat} (hcl : c.length = q.L) (hc : ∀ x ∈ c, x ≤ 20) {M : Store} :
    (F_arrangements [q.A, tI c] M).W fun a M' => ∃ t, a = .tup (canonT t) ∧ Rep t (ansT q c) ∧ Pre M M' := by
  refine w_def ?_
  unfold S_arrangements
  repeat walk_at "wt"
  refine ⟨rfl, (check_question_ok h).imp ?_⟩
  rintro _ M1 ⟨rfl, p1⟩
  repeat walk_at "wt"
  refine w_toE ixQ0 ?_
  repeat walk_at "wt"
  refine ⟨rfl, ?_⟩
  rw [show ([tI c, nI q.L, A.int 20] : List A) = [tI c, nI c.length, nI 20] by rw [hcl]; rfl]
  refine (are_numbers_ok (by have := h.l3; omega) hc).imp ?_
  rintro _ M2 ⟨rfl, p2⟩
  refine ⟨true, rfl, ?_⟩
  rw [if_neg (by decide)]
  repeat walk_at "wt"
  refine ⟨rfl, (least_of_ok h).imp ?_⟩
  rintro _ M3 ⟨p, hp, rfl, p3⟩
  obtain ⟨hpo, hpl, hpL⟩ := hp.ok h
  repeat walk_at "wt"
  refine ⟨rfl, (ways_up_to_ok hpo (by rw [hpL]; exact hcl) hc).imp ?_⟩
  rintro _ M4 ⟨l, ad, rfl, wa, hl, p4⟩
  obtain ⟨j, hj⟩ := List.mem_iff_getElem?.mp (rows_self c)
  obtain ⟨a, a1, a2, a3, a4⟩ := wa.get (rows_nodup c) hj
  repeat walk_at "wt"
  refine w_toE a1 ?_
  repeat walk_at "wt"
  have kw := ways_k hpo (r := c) (by rw [hpL]; exact hcl)
  have kl := kw.len hpo
  refine ⟨rfl, (answers_of_ok hpo a2 kw.2 kw.1 (by omega)).imp ?_⟩
  rintro _ M5 ⟨rfl, p5⟩
  exact ⟨_, rfl, ans_rep h hp hcl, (((p1.trans p2).trans p3).trans p4).trans p5⟩
theorem possible_ok {q : Qn} (h : q.Ok) {c : List Nat} (hcl : c.length = q.L) (hc : ∀ x ∈ c, x ≤ 20) {M : Store} :
    (F_possible [q.A, tI c] M).W fun a M' => ∃ t, a = .tup ((keyI t).map A.int) ∧ Rep t (ansT q c) ∧ Pre M M' := by
  refine w_def ?_
  unfold S_possible
  repeat walk_at "wt"
  refine w_lc_map (fun a => match a with
    | .tup (x :: _) => x
    | _ => .non) (w_iSeqT ?_)
  repeat walk_at "wt"
  refine ⟨rfl, (arrangements_ok h hcl hc).imp ?_⟩
  rintro _ M1 ⟨t, rfl, ht, p1⟩
  rw [due_eq ht.nd]
  have hb : t.length ≤ 1000 := by
    have h1 := nodup_lt 4 (keysT t) ht.nd fun k hk => by
      have hk := (ht.mem k).mp hk
      unfold ansT at hk
      obtain ⟨w, hw, rfl⟩ := List.mem_map.mp hk
      have hs := h.run_lt w (s := 0) (by have := h.n1; omega) fun x hx => by have := (allT_wd _ _ w hw).1 x hx; omega
      unfold Qn.o
      have := h.an
      rw [List.getD_eq_getElem?_getD, List.getElem?_eq_getElem (by omega)]
      have := h.a3 _ (List.getElem_mem (l := q.an) (n := q.run 0 w) (by omega))
      show q.an[q.run 0 w] < 4
      omega
    unfold keysT at h1
    rw [List.length_map] at h1
    omega
  refine ⟨_, rfl, dueT t, by simp [Src.size], by unfold dueT; rw [List.length_map, key_len, sizeLine_eq]; omega, fun M2 _ i => rfl, fun x M2 hx p2 => ?_, fun l M2 hl p2 h2 => ?_⟩
  · obtain ⟨i, hi, rfl⟩ := List.mem_map.mp hx
    refine ⟨_, rfl, ?_⟩
    repeat walk_at "wt"
    exact ⟨rfl, Fr.refl⟩
  · repeat walk_at "wt"
    refine w_toE (tuple_lst (listAt_of h2)) ⟨t, ?_, ht, p1.trans p2⟩
    unfold dueT
    rw [List.map_map]
    rfl
theorem is_sure_ok {q : Qn} (h : q.Ok) {c : List Nat} (hcl : c.length = q.L) (hc : ∀ x ∈ c, x ≤ 20) {M : Store} :
    (F_is_sure [q.A, tI c] M).W fun a M' => ∃ t, a = .bl (decide (t.length = 1)) ∧ Rep t (ansT q c) ∧ Pre M M' := by
  refine w_def ?_
  unfold S_is_sure
  repeat walk_at "wt"
  refine ⟨rfl, (arrangements_ok h hcl hc).imp ?_⟩
  rintro _ M1 ⟨t, rfl, ht, p1⟩
  repeat walk_at "wt"
  refine w_toE (len_tup (k := t.length) (canon_len t)) ?_
  repeat walk_at "wt"
  refine w_toE (eq_nat (b := 1)) ⟨t, rfl, ht, p1⟩
end P66
namespace P66
open PySem PySem.Spec PyProof.Rows L2 AB SM
/-! ### can it be kept -/
def colI (q : Qn) (l : Nat) : List Int := q.st.map fun r => (r.getD l 0 : Int)
def parts (q : Qn) : Bool := (List.range q.L).all fun l => decide ((stOf (colI q l)).length = q.st.length)
theorem all_of_map {M : Store} {l : Nat} {α : Type} (f : α → Bool) {xs : List α} (h : listAt M l = some (xs.map fun x => A.bl (f x))) : oAll [.lst l] M = some (.bl (xs.all f), M) := by
  have e : ∀ xs : List α, bls? (xs.map fun x => A.bl (f x)) = some (xs.map f) := by
    intro xs
    induction xs with
    | nil => rfl
    | cons x xs ih =>
      rw [List.map_cons]
      unfold bls?
      rw [ih]
      rfl
  unfold oAll
  dsimp only
  rw [h]
  show (bls? (xs.map fun x => A.bl (f x))).map _ = _
  rw [e]
  simp
theorem is_parting_ok {q : Qn} (h : q.Ok) {M : Store} : (F_is_parting [q.A] M).W fun a M' => a = .bl (parts q) ∧ Pre M M' := by
  have h40 := h.n40
  have h3 := h.l3
  refine w_def ?_
  unfold S_is_parting Qn.A
  repeat walk_at "wt"
  refine ⟨_, rfl, ?_⟩
  repeat walk_at "wt"
  refine w_lc_rng (n := q.L) (fun l => .bl (decide ((stOf (colI q l)).length = q.st.length))) (w_rng1 ?_)
  repeat walk_at "wt"
  refine ⟨q.L, rfl, by omega, rfl, by omega, fun i M2 hi p => ⟨_, rfl, ?_⟩, fun l M2 hl p h2 => ?_⟩
  · refine w_op (w_fn (w_cons (w_sc (w_iSeqT ?_))))
    repeat walk_at "wt"
    refine ⟨_, rfl, colI q i, q.st.map tI, by simp [Src.size], by simp [colI], by simp [colI]; omega, fun M3 _ j => rfl, fun j x k M3 hx hk p3 => ?_, fun M3 p3 hc => ?_⟩
    · rw [List.getElem?_map] at hx
      obtain ⟨r, hr, rfl⟩ := Option.map_eq_some_iff.mp hx
      unfold colI at hk
      rw [List.getElem?_map, hr] at hk
      have hk := (Option.some.inj hk).symm
      subst hk
      have hrl := (h.row r (List.mem_of_getElem? hr)).1
      refine ⟨_, rfl, ?_⟩
      repeat walk_at "wt"
      refine w_toE (a := .int (r.getD i 0 : Nat)) (M' := M3) (ix_tup (by rw [List.getElem?_map, List.getElem?_eq_getElem (by omega), List.getD_eq_getElem?_getD, List.getElem?_eq_getElem (by omega)]; rfl)) ⟨rfl, Fr.refl⟩
    · repeat walk_at "wt"
      refine w_toE (lenSt hc (by simp [colI]; omega)) ?_
      repeat walk_at "wt"
      refine w_toE (len_tup (k := q.st.length) (by rw [List.length_map])) ?_
      refine w_toE eq_int ⟨?_, p3⟩
      congr 1
      exact decide_eq_decide.mpr (by omega)
  · repeat walk_at "wt"
    refine w_toE (all_of_map (fun l => decide ((stOf (colI q l)).length = q.st.length)) (listAt_of h2)) ⟨rfl, p⟩
end P66
namespace P66
open PySem PySem.Spec PyProof.Rows L2 AB SM
def comm1 (q : Qn) (r : List Nat) (a : Nat) : Bool := (List.range a).all fun b => decide (q.d (r.getD a 0) b = q.d (r.getD b 0) a)
def commR (q : Qn) (r : List Nat) : Bool := (List.range q.L).all (comm1 q r)
def comm (q : Qn) : Bool := q.st.all (commR q)
theorem any_of_map {M : Store} {l : Nat} {α : Type} (f : α → Bool) {xs : List α} (h : listAt M l = some (xs.map fun x => A.bl (f x))) : oAny [.lst l] M = some (.bl (xs.any f), M) := by
  have e : ∀ xs : List α, bls? (xs.map fun x => A.bl (f x)) = some (xs.map f) := by
    intro xs
    induction xs with
    | nil => rfl
    | cons x xs ih =>
      rw [List.map_cons]
      unfold bls?
      rw [ih]
      rfl
  unfold oAny
  dsimp only
  rw [h]
  show (bls? (xs.map fun x => A.bl (f x))).map _ = _
  rw [e]
  simp
theorem any_not {α : Type} (f : α → Bool) (xs : List α) : xs.any (fun x => !f x) = !xs.all f := by
  induction xs with
  | nil => rfl
  | cons x xs ih => rw [List.any_cons, List.all_cons, ih]; cases f x <;> rfl
theorem all_take {α : Type} (f : α → Bool) {xs : List α} {i : Nat} {x : α} (h : xs[i]? = some x) : (xs.take (i + 1)).all f = ((xs.take i).all f && f x) := by
  rw [List.take_add_one, h, List.all_append]
  simp
theorem all_false {α : Type} (f : α → Bool) {xs : List α} {i : Nat} {x : α} (h : xs[i]? = some x) (hf : f x = false) : xs.all f = false := by
  rw [List.all_eq_false]
  exact ⟨x, List.mem_of_getElem? h, by rw [hf]; simp⟩
theorem is_commuting_ok {q : Qn} (h : q.Ok) {M : Store} : (F_is_commuting [q.A] M).W fun a M' => a = .bl (comm q) ∧ Pre M M' := by
  have h40 := h.n40
  have h3 := h.l3
  refine w_def ?_
  unfold S_is_commuting
  repeat walk_at "wt"
  refine ⟨_, rfl, ?_⟩
  refine w_seq (w_for (w_iSeqT ?_))
  repeat walk_at "wt"
  refine ⟨_, rfl, q.st.map tI, fun i τ M' => (∃ y1 y5 : Option A, τ = [some q.A, y1, some (nI q.L), some (.tup (q.st.map tI)), some (tI q.an), y5, none]) ∧ (q.st.take i).all (commR q) = true ∧ Pre M M', rfl, ⟨⟨_, _, rfl⟩, by simp, Fr.refl⟩, fun _ _ _ _ => rfl, ?_, ?_⟩
  · rintro i x τ M1 hx ⟨⟨y1, y5, rfl⟩, hall, p1⟩
    rw [List.getElem?_map] at hx
    obtain ⟨r, hr, rfl⟩ := Option.map_eq_some_iff.mp hx
    obtain ⟨hrl, hrx⟩ := h.row r (List.mem_of_getElem? hr)
    have hrg : ∀ l, l < q.L → r[l]? = some (r.getD l 0) ∧ r.getD l 0 < q.st.length := fun l hl => by
      rw [List.getD_eq_getElem?_getD, List.getElem?_eq_getElem (by omega)]
      exact ⟨rfl, hrx _ (List.getElem_mem _)⟩
    have ixr : ∀ l M, l < q.L → oIx (tI r) (nI l) M = some (nI (r.getD l 0), M) := fun l M hl => ix_tup (by rw [List.getElem?_map, (hrg l hl).1]; rfl)
    refine ⟨_, rfl, ?_⟩
    refine w_seq (w_for (w_rng1 ?_))
    repeat walk_at "wt"
    refine ⟨q.L, rfl, by omega, (List.range q.L).map nI, fun a τ M' => (∃ y5 : Option A, τ = [some q.A, some (tI r), some (nI q.L), some (.tup (q.st.map tI)), some (tI q.an), y5, none]) ∧ ((List.range q.L).take a).all (comm1 q r) = true ∧ Pre M M', by simp [Src.size], ⟨⟨_, rfl⟩, by simp, p1⟩, fun _ _ _ _ => rng_at, ?_, ?_⟩
    · rintro a x τ M2 hx ⟨⟨y5, rfl⟩, hall2, p2⟩
      have ha : a < q.L := by
        have := (List.getElem?_eq_some_iff.mp hx).1
        simpa using this
      rw [List.getElem?_map, List.getElem?_range ha] at hx
      have hx := (Option.some.inj hx).symm
      subst hx
      refine ⟨_, rfl, ?_⟩
      repeat walk_at "wt"
      refine w_lc_rng (n := a) (fun b => .bl (!decide (q.d (r.getD a 0) b = q.d (r.getD b 0) a))) (w_rng1 ?_)
      repeat walk_at "wt"
      refine ⟨a, rfl, by omega, rfl, by omega, fun b M3 hb p3 => ⟨_, rfl, ?_⟩, fun l M3 hl p3 h3' => ?_⟩
      · repeat walk_at "wt"
        refine w_toE (ixr a _ ha) ?_
        refine w_toE (ixRow h (hrg a ha).2) ?_
        repeat walk_at "wt"
        refine w_toE (ixD h (hrg a ha).2 (by omega)) ?_
        repeat walk_at "wt"
        refine w_toE (ixr b _ (by omega)) ?_
        refine w_toE (ixRow h (hrg b (by omega)).2) ?_
        repeat walk_at "wt"
        refine w_toE (ixD h (hrg b (by omega)).2 ha) ?_
        refine w_toE ne_int ⟨?_, Fr.refl⟩
        congr 1
        by_cases e : q.d (r.getD a 0) b = q.d (r.getD b 0) a
        · rw [e]; simp
        · rw [decide_eq_false e, decide_eq_true (show ((q.d (r.getD a 0) b : Int) ≠ (q.d (r.getD b 0) a : Int)) by omega)]; rfl
      · repeat walk_at "wt"
        refine w_toE (any_of_map (fun b => !decide (q.d (r.getD a 0) b = q.d (r.getD b 0) a)) (listAt_of h3')) ⟨_, rfl, ?_⟩
        rw [any_not (fun b => decide (q.d (r.getD a 0) b = q.d (r.getD b 0) a))]
        rw [show ((List.range a).all fun b => decide (q.d (r.getD a 0) b = q.d (r.getD b 0) a)) = comm1 q r a from rfl]
        have er : (List.range q.L)[a]? = some a := List.getElem?_range ha
        cases hc : comm1 q r a with
        | false =>
          rw [if_pos (by decide)]
          repeat walk_at "wt"
          refine ⟨?_, p2.trans p3⟩
          rw [show comm q = false from all_false (commR q) hr (all_false (comm1 q r) er hc)]
        | true =>
          rw [if_neg (by decide)]
          repeat walk_at "wt"
          exact ⟨⟨_, rfl⟩, by rw [all_take _ er, hall2, hc]; rfl, p2.trans p3⟩
    · rintro τ M2 ⟨⟨y5, rfl⟩, hall2, p2⟩
      rw [rng_len, List.take_of_length_le (by simp)] at hall2
      repeat walk_at "wt"
      refine ⟨⟨_, _, rfl⟩, ?_, p2⟩
      rw [all_take _ hr, hall]
      exact hall2
  · rintro τ M1 ⟨⟨y1, y5, rfl⟩, hall, p1⟩
    rw [List.length_map, List.take_length] at hall
    repeat walk_at "wt"
    exact ⟨by rw [show comm q = true from hall], p1⟩
def kept (w : Str) (q : Qn) : Bool := !(tt_PLACELESS.contains w && !comm q) && (!tt_TAKING.contains w || parts q)
theorem inV_strs (w : Str) : ∀ ts : List Str, inV (.str w) (ts.map V.str) = ts.contains w := by
  intro ts
  induction ts with
  | nil => rfl
  | cons t ts ih =>
    unfold inV at ih ⊢
    rw [List.map_cons, List.any_cons, ih, List.contains_cons]
    congr 1
    show (t == w) = (w == t)
    exact Bool.eq_iff_iff.mpr (by rw [beq_iff_eq, beq_iff_eq]; exact eq_comm)
theorem is_kept_ok {w : Str} {q : Qn} (h : q.Ok) {M : Store} : (F_is_kept [.str w, q.A] M).W fun a M' => a = .bl (kept w q) ∧ Pre M M' := by
  refine w_def ?_
  unfold S_is_kept kept
  repeat walk_at "wt"
  refine ⟨_, rfl, _, rfl, ?_⟩
  rw [if_neg (show ¬ false = true by decide), inV_strs]
  cases hp : tt_PLACELESS.contains w with
  | true =>
    rw [if_pos rfl]
    repeat walk_at "wt"
    refine ⟨rfl, (is_commuting_ok h).imp ?_⟩
    rintro _ M1 ⟨rfl, p1⟩
    refine ⟨_, rfl, ?_⟩
    cases hc : comm q with
    | false =>
      rw [if_pos (by decide)]
      repeat walk_at "wt"
      exact ⟨rfl, p1⟩
    | true =>
      rw [if_neg (by decide)]
      repeat walk_at "wt"
      refine ⟨_, rfl, _, rfl, ?_⟩
      rw [if_pos (show true = true from rfl), inV_strs]
      cases ht : tt_TAKING.contains w with
      | false =>
        rw [if_pos (by decide)]
        exact ⟨rfl, p1⟩
      | true =>
        rw [if_neg (by decide)]
        repeat walk_at "wt"
        refine ⟨rfl, (is_parting_ok h).imp ?_⟩
        rintro _ M2 ⟨rfl, p2⟩
        exact ⟨by simp, p1.trans p2⟩
  | false =>
    rw [if_neg (by decide), if_neg (by decide)]
    repeat walk_at "wt"
    refine ⟨_, rfl, _, rfl, ?_⟩
    rw [if_pos (show true = true from rfl), inV_strs]
    cases ht : tt_TAKING.contains w with
    | false =>
      rw [if_pos (by decide)]
      exact ⟨rfl, Fr.refl⟩
    | true =>
      rw [if_neg (by decide)]
      repeat walk_at "wt"
      refine ⟨rfl, (is_parting_ok h).imp ?_⟩
      rintro _ M2 ⟨rfl, p2⟩
      exact ⟨by simp, p2⟩
end P66
namespace P66
open PySem PySem.Spec PyProof.Rows L2 AB SM
/-! ### can_keep("in", ..), sure_counts -/
theorem can_keep_in {q p : Qn} (hq : q.Ok) (hp : IsSmall q p) {M : Store} : (F_can_keep [.str (Str.ofString "in"), q.A] M).W fun a M' => ∃ k, a = .bl k ∧ (k = true → comm p = true) ∧ Pre M M' := by
  refine w_def ?_
  unfold S_can_keep
  repeat walk_at "wt"
  refine ⟨rfl, ?_⟩
  have hw : (F_check_world [.str (Str.ofString "in")] M).W fun _ M' => M' = M := by
    refine w_def ?_
    unfold S_check_world
    repeat walk_at "wt"
    refine w_toE (a := .bl true) (M' := M) (by simp [oIsi, tyOf?, isiT]) ⟨true, rfl, ?_⟩
    rw [if_neg (by decide)]
    repeat walk_at "wt"
    refine ⟨_, _, rfl, rfl, _, rfl, ?_⟩
    rw [if_neg (by decide)]
    repeat walk_at "wt"
    rfl
  refine hw.imp ?_
  rintro _ _ rfl
  repeat walk_at "wt"
  refine ⟨rfl, (check_question_ok hq).imp ?_⟩
  rintro _ M1 ⟨rfl, p1⟩
  repeat walk_at "wt"
  refine ⟨rfl, (least_of_ok hq).imp ?_⟩
  rintro _ M2 ⟨p', hp', rfl, p2⟩
  obtain rfl := hp.eq hq hp'
  repeat walk_at "wt"
  refine ⟨rfl, (is_kept_ok (hp.ok hq).1).imp ?_⟩
  rintro _ M3 ⟨rfl, p3⟩
  refine ⟨_, rfl, fun h => ?_, (p1.trans p2).trans p3⟩
  unfold kept at h
  have e : tt_PLACELESS.contains (Str.ofString "in") = true := by decide
  rw [e] at h
  cases hc : comm p with
  | true => rfl
  | false => rw [hc] at h; cases h
theorem w_lc_filter {fi : EI} {t : Tgt} {ft : EFb} {fe : EF} {own : List Nat} {τ : Sl} {M : Store} {Q : A → Store → Prop} (g : A → A) (k : A → Bool)
    (h : (fi τ M).W fun src M1 => ∃ xs : List A, src.size M1 = xs.length + 1 ∧ xs.length ≤ sizeLine ∧ (∀ M2, Pre M1 M2 → ∀ i, src.at M2 i = some xs[i]?) ∧
      (∀ x M2, x ∈ xs → Pre M1 M2 → ∃ τ1, t.set x (wipeA τ own) = some τ1 ∧ (ft τ1 M2).W fun kk M3 => kk = k x ∧ Pre M2 M3 ∧ (k x = true → (fe τ1 M3).W fun y M4 => y = g x ∧ Pre M3 M4)) ∧
      (∀ l M2, M1.length ≤ l → Pre M1 M2 → M2[l]? = some (.lst ((xs.filter k).map g)) → Q (.lst l) M2)) : (eLc fi t ft fe own τ M).W Q := by
  refine w_lc (h.imp fun src M1 ⟨xs, e, hz, hat, hs, hq⟩ => ⟨xs, fun i acc M2 => acc = ((xs.take i).filter k).map g ∧ Pre M1 M2, e, hz, ⟨by simp, Fr.refl.app _⟩, fun i acc M2 h => hat M2 h.2 i, fun i x acc M2 ex h hl _ => ?_, fun acc M2 h hl => ?_⟩)
  · obtain ⟨τ1, e1, w⟩ := hs x M2 (List.mem_of_getElem? ex) h.2
    refine ⟨τ1, e1, w.imp fun kk M3 hy => ?_⟩
    obtain ⟨rfl, p3, hk⟩ := hy
    have et : (xs.take (i + 1)).filter k = (xs.take i).filter k ++ [x].filter k := by rw [List.take_add_one, ex, List.filter_append]; rfl
    cases hkx : k x with
    | true =>
      rw [if_pos rfl]
      refine (hk hkx).imp fun y M4 h4 => ⟨Pre.at (p3.trans h4.2) hl, ?_, ((h.2.trans p3).trans h4.2).set (Nat.le_refl _)⟩
      rw [h4.1, h.1, et, List.map_append, List.filter_cons_of_pos hkx]
      rfl
    | false =>
      rw [if_neg (by decide)]
      refine ⟨Pre.at p3 hl, ?_, h.2.trans p3⟩
      rw [h.1, et, List.filter_cons_of_neg (by rw [hkx]; decide), List.filter_nil, List.append_nil]
  · obtain ⟨rfl, p⟩ := h
    rw [List.take_length] at hl
    exact hq _ _ (Nat.le_refl _) p hl
theorem w_lcD {i l : Nat} {t : Tgt} {ft : EFb} {fe : EF} {own : List Nat} {τ : Sl} {M : Store} {kvs : List (List Key × A)} {Q : A → Store → Prop} (e : τ[i]? = some (some (.dct l))) (ec : M[l]? = some (.dT kvs))
    (h : (eLc (fun _ M1 => .ok (.snap (keyLT kvs)) M1) t ft fe own τ (M.set l (.fT kvs))).W fun a M' => M'[l]? = some (.fT kvs) ∧ Q a (M'.set l (.dT kvs))) : (eLcD i t ft fe own τ M).W Q := by
  obtain ⟨a, M', e1, e2, e3⟩ := h.out
  unfold eLcD
  rw [e]
  dsimp only
  rw [ec]
  dsimp only
  rw [e1]
  have e4 : letGoE l (.ok a M') = .ok a (M'.set l (.dT kvs)) := by unfold letGoE; dsimp only; rw [e2]
  rw [e4]
  exact w_of rfl e3
def unI : A → List Nat
  | .tup xs => xs.map fun a => match a with
    | .int i => i.toNat
    | _ => 0
  | _ => []
theorem un_tI (r : List Nat) : unI (tI r) = r := by
  unfold unI
  show (r.map nI).map _ = r
  rw [List.map_map]
  conv => rhs; rw [← List.map_id r]
  exact List.map_congr_left fun n _ => by show ((n : Nat) : Int).toNat = n; omega
def FT (kv : List (List Nat × A)) : Cell := .fT (kv.map fun p => (kI p.1, p.2))
theorem get_FT {M : Store} {l : Nat} {kv : List (List Nat × A)} {k : List Nat} {v : A} (h : M[l]? = some (FT kv)) (e : look kv k = some v) : oDget (.dct l) (tI k) M = some (v, M) := by
  have h2 : dGet M l (tI k) = some (look kv k) := by
    unfold dGet FT at *
    rw [h]
    dsimp only
    rw [keys_of]
    show some (valA _ _) = _
    rw [valA_DT]
  unfold oDget
  dsimp only
  rw [h2, e]
theorem keys_A : ∀ r : List Nat, (kI r).map keyA = r.map nI
  | [] => rfl
  | x :: r => by
    show keyA (Sum.inl (x : Int)) :: (kI r).map keyA = _
    rw [keys_A r]; rfl
/-- whether all texts of such counts have one answer, as the program finds it -/
def one1 (p : Qn) (r : List Nat) : Bool := decide ((byAns p (ways p r)).length = 1)
def sureR (p : Qn) (m : Nat) : List (List Nat) := (rowsU (List.replicate p.L m)).filter (one1 p)
theorem sure_counts_ok {q p : Qn} (h : q.Ok) (hp : IsSmall q p) {m : Nat} (hm : m ≤ 5) {M : Store} :
    (F_sure_counts [q.A, nI m] M).W fun a M' => a = .tup ((sureR p m).map tI) ∧ Pre M M' := by
  obtain ⟨hpo, hpl, hpL⟩ := hp.ok h
  have hcl : (List.replicate p.L m).length = p.L := List.length_replicate
  have hc : ∀ x ∈ List.replicate p.L m, x ≤ 20 := fun x hx => by have := List.eq_of_mem_replicate hx; omega
  have h3 := hpo.l3
  have h1 := hpo.l1
  have hfew := rows_few (c := List.replicate p.L m) (by omega) hc
  refine w_def ?_
  unfold S_sure_counts
  repeat walk_at "wt"
  refine ⟨rfl, (check_question_ok h).imp ?_⟩
  rintro _ M1 ⟨rfl, p1⟩
  repeat walk_at "wt"
  refine ⟨rfl, (is_number_ok (lo := 0) (hi := 5) (Nat.zero_le _) hm).imp ?_⟩
  rintro _ _ ⟨rfl, rfl⟩
  refine ⟨true, rfl, ?_⟩
  rw [if_neg (by decide)]
  repeat walk_at "wt"
  refine ⟨rfl, (least_of_ok h).imp ?_⟩
  rintro _ M3 ⟨p', hp', rfl, p3⟩
  obtain rfl := hp.eq h hp'
  repeat walk_at "wt"
  refine ⟨by simp [sizeLine_eq], ?_⟩
  repeat walk_at "wt"
  refine w_toE ixQ0 ?_
  refine w_toE (a := tI (List.replicate p.L m)) (M' := M3) (by
    unfold oMulT
    dsimp only
    rw [if_pos ⟨by simp, by omega, by omega, by simp⟩]
    congr 2
    rw [Int.toNat_natCast]
    have : ∀ n : Nat, (List.replicate n [nI m]).flatten = (List.replicate n m).map nI := by
      intro n
      induction n with
      | zero => rfl
      | succ n ih => rw [List.replicate_succ, List.flatten_cons, ih, List.replicate_succ]; rfl
    rw [this]) ?_
  repeat walk_at "wt"
  refine ⟨rfl, (ways_up_to_ok hpo hcl hc).imp ?_⟩
  rintro _ M4 ⟨l, ad, rfl, wa, hl, p4⟩
  repeat walk_at "wt"
  have hadl : (ad.map A.dct).length = (rowsU (List.replicate p.L m)).length := by rw [List.length_map]; exact wa.len
  have hkl : keyLT (((rowsU (List.replicate p.L m)).zip (ad.map A.dct)).map fun q => (kI q.1, q.2)) = (rowsU (List.replicate p.L m)).map tI := by
    unfold keyLT
    rw [List.map_map]
    have := congrArg (List.map tI) (zip_fst hadl)
    rw [List.map_map] at this
    rw [← this]
    exact List.map_congr_left fun q _ => by show A.tup ((kI q.1).map keyA) = A.tup (q.1.map nI); rw [keys_A]
  refine w_lcD (l := l) rfl (show M4[l]? = some (.dT (((rowsU (List.replicate p.L m)).zip (ad.map A.dct)).map fun q => (kI q.1, q.2))) from wa.at_) ?_
  rw [hkl]
  refine w_lc_filter id (fun a => one1 p (unI a)) (w_okI ⟨(rowsU (List.replicate p.L m)).map tI, by simp [Src.size], by rw [List.length_map, sizeLine_eq]; omega, fun M2 _ i => rfl, fun x M2 hx p2 => ?_, fun l2 M2 hl2 p2 h2 => ?_⟩)
  · obtain ⟨r, hr, rfl⟩ := List.mem_map.mp hx
    rw [un_tI]
    refine ⟨_, rfl, ?_⟩
    obtain ⟨j, hj⟩ := List.mem_iff_getElem?.mp hr
    have hrl : r.length = p.L := by rw [rows_len _ r hr]; exact hcl
    have hjl := (List.getElem?_eq_some_iff.mp hj).1
    have hwl := wa.len
    have ha : ad[j]? = some ad[j] := List.getElem?_eq_getElem (by omega)
    obtain ⟨c1, c2, c3⟩ := wa.cell j r _ hj ha
    have hf : M2[l]? = some (FT ((rowsU (List.replicate p.L m)).zip (ad.map A.dct))) := p2.at (at_set wa.at_)
    have hk2 : M2[ad[j]]? = some (KC (ways p r)) := p2.at (at_ne c3 c1)
    have kw := ways_k hpo (r := r) hrl
    have kl := kw.len hpo
    repeat walk_at "wt"
    refine w_toE (get_FT hf (look_at (j := j) (by rw [zip_fst hadl]; exact rows_nodup _) (v := .dct ad[j]) (by rw [List.getElem?_zip_eq_some]; exact ⟨hj, by rw [List.getElem?_map, ha]; rfl⟩))) ?_
    repeat walk_at "wt"
    refine ⟨rfl, (answers_of_ok hpo hk2 kw.2 kw.1 (by omega)).imp ?_⟩
    rintro _ M5 ⟨rfl, p5⟩
    repeat walk_at "wt"
    refine w_toE (len_tup (canon_len _)) ?_
    repeat walk_at "wt"
    refine w_toE (eq_nat (b := 1)) ⟨_, rfl, rfl, p5, fun _ => ?_⟩
    repeat walk_at "wt"
    exact ⟨rfl, Fr.refl⟩
  · refine ⟨p2.at (at_set wa.at_), ?_⟩
    have hll := at_lt wa.at_
    have hM1 : M.length ≤ M3.length := (p1.trans p3).1
    have pm : Pre M M4 := (p1.trans p3).trans p4
    have pp : Pre M (M2.set l (.dT (((rowsU (List.replicate p.L m)).zip (ad.map A.dct)).map fun q => (kI q.1, q.2)))) := Fr.set ((Fr.set pm (by omega)).trans p2) (by omega)
    have hl2' : M4.length ≤ l2 := by rw [List.length_set] at hl2; exact hl2
    have h3' : (M2.set l (.dT (((rowsU (List.replicate p.L m)).zip (ad.map A.dct)).map fun q => (kI q.1, q.2))))[l2]? = some (.lst (((rowsU (List.replicate p.L m)).filter (one1 p)).map tI)) := by
      rw [at_ne (by omega) h2, List.map_id, List.filter_map]
      have : ((fun a => one1 p (unI a)) ∘ tI) = one1 p := by funext r; show one1 p (unI (tI r)) = _; rw [un_tI]
      rw [this]
    repeat walk_at "wt"
    exact w_toE (tuple_lst (listAt_of h3')) ⟨rfl, pp⟩
end P66
namespace P66
open PySem PySem.Spec PyProof.Rows L2 AB SM
/-! ### a drawn question -/
theorem law_question_ok {M : Store} (h : RowOk M) {L m : Nat} (h1 : 1 ≤ L) (h3 : L ≤ 3) (m1 : 1 ≤ m) (m40 : m ≤ 40) : (F_law_question [.lst 1, nI L, nI m] M).W fun a M' => ∃ q : Qn, q.Ok ∧ q.L = L ∧ a = q.A ∧ Fr (some 1) M M' ∧ RowOk M' := by
  refine w_def ?_
  unfold S_law_question
  repeat walk_at "wt"
  refine ⟨rfl, (taken_ok (n := m) h m1 (by omega)).imp ?_⟩
  rintro _ M1 ⟨k, hk, rfl, f1, r1⟩
  refine w_toE (add_nat (a := 1)) ?_
  generalize hn : 1 + k = n
  repeat walk_at "wt"
  refine lc_draw (fun y => ∃ r : List Nat, (r.length = L ∧ ∀ x ∈ r, x < n) ∧ y = tI r) (w_rng1 ?_)
  repeat walk_at "wt"
  refine ⟨n, rfl, by omega, (List.range n).map nI, by simp [Src.size], by rw [rng_len, sizeLine_eq]; omega, fun _ _ _ => rng_at, r1, fun x M2 hx f2 r2 => ⟨_, rfl, ?_⟩, fun l M2 ys hl f2 r2 h2 hys hP => ?_⟩
  · repeat walk_at "wt"
    refine lc_draw (fun y => ∃ x : Nat, x < n ∧ y = nI x) (w_rng1 ?_)
    repeat walk_at "wt"
    refine ⟨L, rfl, by omega, (List.range L).map nI, by simp [Src.size], by rw [rng_len, sizeLine_eq]; omega, fun _ _ _ => rng_at, r2, fun x M3 hx f3 r3 => ⟨_, rfl, ?_⟩, fun l M3 ys hl f3 r3 h3' hys hP => ?_⟩
    · repeat walk_at "wt"
      exact ⟨rfl, (taken_ok (n := n) r3 (by omega) (by omega)).imp fun a M4 ⟨x, hx, e, f, r⟩ => ⟨⟨x, hx, e⟩, f, r⟩⟩
    · obtain ⟨xs, rfl, hxs⟩ := all_of (f := nI) ys hP
      rw [List.length_map, rng_len] at hys
      repeat walk_at "wt"
      exact w_toE (tuple_lst (listAt_of h3')) ⟨⟨xs, ⟨hys, hxs⟩, rfl⟩, f3, r3⟩
  · obtain ⟨st, rfl, hst⟩ := all_of (f := tI) ys hP
    rw [List.length_map, rng_len] at hys
    repeat walk_at "wt"
    refine w_toE (tuple_lst (listAt_of h2)) ?_
    repeat walk_at "wt"
    refine lc_draw (fun y => ∃ x : Nat, x < 3 ∧ y = nI x) (w_rng1 ?_)
    repeat walk_at "wt"
    refine ⟨n, rfl, by omega, (List.range n).map nI, by simp [Src.size], by rw [rng_len, sizeLine_eq]; omega, fun _ _ _ => rng_at, r2, fun x M3 hx f3 r3 => ⟨_, rfl, ?_⟩, fun l M3 ys hl f3 r3 h3' hys2 hP => ?_⟩
    · repeat walk_at "wt"
      exact ⟨rfl, (taken_ok (n := 3) r3 (by omega) (by omega)).imp fun a M4 ⟨x, hx, e, f, r⟩ => ⟨⟨x, hx, e⟩, f, r⟩⟩
    · obtain ⟨an, rfl, han⟩ := all_of (f := nI) ys hP
      rw [List.length_map, rng_len] at hys2
      repeat walk_at "wt"
      refine w_toE (tuple_lst (listAt_of h3')) ?_
      repeat walk_at "wt"
      refine ⟨by simp [sizeLine_eq], ⟨L, st, an⟩, ⟨h1, h3, ?_, ?_, fun r hr => ?_, ?_, fun x hx => ?_⟩, rfl, rfl, (f1.trans f2).trans f3, r3⟩
      · show 1 ≤ st.length; omega
      · show st.length ≤ 40; omega
      · exact ⟨(hst r hr).1, fun x hx => by have := (hst r hr).2 x hx; show x < st.length; omega⟩
      · show an.length = st.length; omega
      · have := han x hx; omega
end P66
namespace P66
open PySem PySem.Spec PyProof.Rows L2 AB SM
/-! ### a question of counts: its states as data -/
abbrev Cs := Option (List Nat) × Nat
abbrev long : Str := Str.ofString "long"
def cA : Option (List Nat) → A
  | some c => tI c
  | none => .str long
def csA (s : Cs) : A := .tup [cA s.1, nI s.2]
def cD : Option (List Nat) → PyData
  | some c => .tuple (c.map dI)
  | none => .str long
def csD (s : Cs) : PyData := .tuple [cD s.1, dI s.2]
theorem dat_c (M : Store) (k : Nat) (o : Option (List Nat)) : dat M (k + 1) (cA o) = some (cD o) := by
  cases o with
  | none => unfold dat cA; rfl
  | some c =>
    show ((c.map nI).mapM (dat M k)).map PyData.tuple = _
    rw [mapM_ints]; rfl
theorem dat_cs (M : Store) (k : Nat) (s : Cs) : dat M (k + 2) (csA s) = some (csD s) := by
  show ([cA s.1, nI s.2].mapM (dat M (k + 1))).map PyData.tuple = _
  rw [List.mapM_cons, List.mapM_cons, dat_c, show dat M (k + 1) (nI s.2) = some (dI s.2) by unfold dat; rfl]
  rfl
theorem mapM_cs (M : Store) (k : Nat) : ∀ S : List Cs, (S.map csA).mapM (dat M (k + 2)) = some (S.map csD)
  | [] => rfl
  | s :: S => by rw [List.map_cons, List.mapM_cons, mapM_cs M k S, dat_cs]; rfl
theorem lay_c (o : Option (List Nat)) : PyData.canLay0 (cD o) = true := by
  cases o with
  | none => decide +kernel
  | some c => simp [cD, PyData.canLay0, lay_ints c]
theorem lay_cs : ∀ S : List Cs, PyData.canLayAll0 (S.map csD) = true
  | [] => by simp [PyData.canLayAll0]
  | s :: S => by simp [PyData.canLayAll0, PyData.canLay0, csD, lay_cs S, lay_c]
theorem depth_c (o : Option (List Nat)) : (cD o).depth ≤ 1 := by
  cases o with
  | none => simp [cD, PyData.depth]
  | some c => simp [cD, PyData.depth, depth_ints c]
theorem depth_cs : ∀ S : List Cs, PyData.depthAll (S.map csD) ≤ 2
  | [] => by simp [PyData.depthAll]
  | s :: S => by
    have := depth_cs S
    have := depth_c s.1
    simp [PyData.depthAll, PyData.depth, csD]
    omega
theorem eqv_c (o p : Option (List Nat)) : PyData.eqv (cD o) (cD p) = decide (o = p) := by
  cases o <;> cases p <;> simp [cD, PyData.eqv, eqv_ints]
theorem eqv_cs (s t : Cs) : PyData.eqv (csD s) (csD t) = decide (s = t) := by
  obtain ⟨a, b⟩ := s
  obtain ⟨c, d⟩ := t
  simp only [csD, PyData.eqv, PyData.eqvAll, eqv_c]
  by_cases h : a = c <;> by_cases h2 : b = d <;> simp [h, h2]
  all_goals omega
theorem datS_c {M : Store} {o : Option (List Nat)} : datS M (cA o) = some (cD o) := by
  unfold datS
  rw [show dat M 8 (cA o) = some (cD o) from dat_c M 7 o]
  dsimp only
  rw [if_pos]
  unfold SeqAt.shaped
  have := depth_c o
  simp [lay_c]
  omega
theorem datS_cs {M : Store} {s : Cs} : datS M (csA s) = some (csD s) := by
  unfold datS
  rw [show dat M 8 (csA s) = some (csD s) from dat_cs M 6 s]
  dsimp only
  rw [if_pos]
  unfold SeqAt.shaped
  have := depth_c s.1
  simp [csD, PyData.canLay0, PyData.canLayAll0, lay_c, PyData.depth, PyData.depthAll]
  omega
theorem datS_S {M : Store} {l : Nat} {S : List Cs} (h : listAt M l = some (S.map csA)) : datS M (.lst l) = some (.list (S.map csD)) := by
  have e : dat M 8 (.lst l) = some (.list (S.map csD)) := by
    show ((listAt M l).bind fun xs => (xs.mapM (dat M 7)).map PyData.list) = _
    rw [h]
    show ((S.map csA).mapM (dat M 7)).map PyData.list = _
    rw [mapM_cs M 5]
    rfl
  unfold datS
  rw [e]
  dsimp only
  rw [if_pos]
  unfold SeqAt.shaped
  have := depth_cs S
  simp [PyData.canLay0, lay_cs, PyData.depth]
  omega
theorem ne_long {M : Store} {o : Option (List Nat)} : oNe (cA o) (.str long) M = some (.bl (!decide (o = none)), M) := by
  unfold oNe
  rw [datS_c, show A.str long = cA none from rfl, datS_c]
  dsimp only
  rw [eqv_c]
theorem eq_long {M : Store} {o : Option (List Nat)} : oEq (cA o) (.str long) M = some (.bl (decide (o = none)), M) := by
  unfold oEq
  rw [datS_c, show A.str long = cA none from rfl, datS_c]
  dsimp only
  rw [eqv_c]
theorem notin_cs {M : Store} {l : Nat} {S : List Cs} {s : Cs} (h : M[l]? = some (.lst (S.map csA))) : oNotIn (csA s) (.lst l) M = some (.bl (!decide (s ∈ S)), M) := by
  have e : oIn (csA s) (.lst l) M = some (.bl (decide (s ∈ S)), M) := by
    unfold oIn
    dsimp only
    rw [listAt_of h]
    dsimp only
    rw [show flat? (csA s) = none from rfl]
    dsimp only
    rw [datS_cs, datS_S (listAt_of h)]
    dsimp only
    have : ∀ S : List Cs, ((S.map csD).any fun z => PyData.eqv z (csD s)) = decide (s ∈ S) := by
      intro S
      induction S with
      | nil => rfl
      | cons t S ih =>
        rw [List.map_cons, List.any_cons, ih, eqv_cs]
        by_cases z : t = s
        · simp [z]
        · have z2 : ¬ s = t := fun q => z q.symm
          simp [z, z2]
    rw [this]
  unfold oNotIn notO
  rw [e]
theorem index_cs {M : Store} {l : Nat} {S : List Cs} {s : Cs} (h : M[l]? = some (.lst (S.map csA))) (hs : s ∈ S) : ∃ j, j < S.length ∧ oIndexD (.lst l) [csA s] M = some (nI j, M) := by
  have : ∀ (S : List Cs) (n : Nat), s ∈ S → ∃ j, j < S.length ∧ ixData (csD s) (S.map csD) n = some (n + j) := by
    intro S
    induction S with
    | nil => intro n h; cases h
    | cons t S ih =>
      intro n hm
      rw [List.map_cons]
      unfold ixData
      rw [eqv_cs]
      by_cases z : t = s
      · rw [if_pos (by simpa using z)]
        exact ⟨0, by simp, rfl⟩
      · rw [if_neg (by simpa using z)]
        obtain ⟨j, hj, e⟩ := ih (n + 1) ((List.mem_cons.mp hm).resolve_left fun q => z q.symm)
        exact ⟨j + 1, by simp; omega, by rw [e]; congr 1; omega⟩
  obtain ⟨j, hj, e⟩ := this S 0 hs
  refine ⟨j, hj, ?_⟩
  unfold oIndexD
  dsimp only
  rw [datS_S (listAt_of h), datS_cs]
  dsimp only
  rw [e, Nat.zero_add]
  rfl
/-! ### there are at most 33 such states -/
def allU : Nat → List (List Nat)
  | 0 => [[]]
  | L + 1 => (allU L).flatMap fun r => [0 :: r, 1 :: r, 2 :: r]
def univ (L : Nat) : List Cs := (none :: ((allU L).filter fun c => decide (c.sum ≤ 2)).map some).flatMap fun o => [(o, 0), (o, 1), (o, 2)]
theorem univ_len {L : Nat} (h1 : 1 ≤ L) (h3 : L ≤ 3) : (univ L).length ≤ 33 := by
  obtain rfl | rfl | rfl : L = 1 ∨ L = 2 ∨ L = 3 := by omega
  all_goals decide
def Pu (L : Nat) (s : Cs) : Prop := s.2 < 3 ∧ ∀ c, s.1 = some c → c.length = L ∧ c.sum ≤ 2
theorem mem_allU : ∀ (c : List Nat), (∀ x ∈ c, x ≤ 2) → c ∈ allU c.length
  | [], _ => by simp [allU]
  | x :: c, h => by
    have ih := mem_allU c fun y hy => h y (List.mem_cons_of_mem _ hy)
    have hx := h x List.mem_cons_self
    refine List.mem_flatMap.mpr ⟨c, ih, ?_⟩
    obtain rfl | rfl | rfl : x = 0 ∨ x = 1 ∨ x = 2 := by omega
    all_goals simp
theorem le_sum {c : List Nat} {x : Nat} (hx : x ∈ c) : x ≤ c.sum := by
  induction c with
  | nil => cases hx
  | cons y r ih =>
    rw [List.sum_cons]
    rcases List.mem_cons.mp hx with rfl | hx
    · omega
    · have := ih hx; omega
theorem mem_univ {L : Nat} {s : Cs} (h : Pu L s) : s ∈ univ L := by
  obtain ⟨o, v⟩ := s
  obtain ⟨h1, h2⟩ := h
  have h1 : v < 3 := h1
  refine List.mem_flatMap.mpr ⟨o, ?_, ?_⟩
  · cases o with
    | none => exact List.mem_cons_self
    | some c =>
      obtain ⟨a, b⟩ := h2 c rfl
      refine List.mem_cons_of_mem _ (List.mem_map.mpr ⟨c, List.mem_filter.mpr ⟨?_, by simpa using b⟩, rfl⟩)
      rw [← a]
      exact mem_allU c fun x hx => Nat.le_trans (le_sum hx) b
  · obtain rfl | rfl | rfl : v = 0 ∨ v = 1 ∨ v = 2 := by omega
    all_goals simp
theorem nodup_sub {α : Type} [DecidableEq α] : ∀ {U l : List α}, l.Nodup → (∀ x ∈ l, x ∈ U) → l.length ≤ U.length
  | U, [], _, _ => Nat.zero_le _
  | U, x :: l, hn, h => by
    have hn := List.nodup_cons.mp hn
    have hx := h x List.mem_cons_self
    have := nodup_sub (U := U.erase x) (l := l) hn.2 fun y hy => by
      have : y ≠ x := fun z => hn.1 (z ▸ hy)
      exact (List.mem_erase_of_ne this).mpr (h y (List.mem_cons_of_mem _ hy))
    rw [List.length_erase_of_mem hx] at this
    have : 0 < U.length := List.length_pos_of_mem hx
    simp only [List.length_cons]
    omega
structure SOk (L : Nat) (S : List Cs) : Prop where
  nd : S.Nodup
  pu : ∀ s ∈ S, Pu L s
theorem SOk.len {L : Nat} {S : List Cs} (h : SOk L S) (h1 : 1 ≤ L) (h3 : L ≤ 3) : S.length ≤ 33 :=
  Nat.le_trans (nodup_sub h.nd fun s hs => mem_univ (h.pu s hs)) (univ_len h1 h3)
theorem SOk.add {L : Nat} {S : List Cs} {s : Cs} (h : SOk L S) (hs : Pu L s) (hn : s ∉ S) : SOk L (S ++ [s]) := by
  refine ⟨?_, fun t ht => ?_⟩
  · rw [List.nodup_append]
    exact ⟨h.nd, by simp, fun a ha b hb => by rw [List.mem_singleton.mp hb]; exact fun z => hn (z ▸ ha)⟩
  · rcases List.mem_append.mp ht with ht | ht
    · exact h.pu t ht
    · rw [List.mem_singleton.mp ht]; exact hs
end P66
namespace P66
open PySem PySem.Spec PyProof.Rows L2 AB SM
/-! ### a question of counts -/
theorem lt_nat {M : Store} {a b : Nat} : oLt (nI a) (nI b) M = some (.bl (decide (a < b)), M) := by
  show some (A.bl (decide ((a : Int) < (b : Int))), M) = _
  congr 3
  exact decide_eq_decide.mpr (by omega)
def upC (c : List Nat) (l : Nat) : List Nat := c.take l ++ [c.getD l 0 + 1] ++ c.drop (l + 1)
theorem upC_len {c : List Nat} {l : Nat} (h : l < c.length) : (upC c l).length = c.length := by
  unfold upC
  simp
  omega
theorem upC_sum {c : List Nat} {l : Nat} (h : l < c.length) : (upC c l).sum = c.sum + 1 := by
  have e := congrArg List.sum (split_at h)
  unfold upC
  simp only [List.sum_append, List.sum_cons, List.sum_nil] at e ⊢
  omega
structure CI (odd ws : List Nat) (lo lw l8 l9 : Nat) (M : Store) (S : List Cs) (ls : Nat) (rows : List (List Nat)) (ans : List Nat) : Prop where
  hs : M[ls]? = some (.lst (S.map csA))
  hr : M[l8]? = some (.lst (rows.map tI))
  ha : M[l9]? = some (.lst (ans.map nI))
  ho : M[lo]? = some (.lst (odd.map nI))
  hw : M[lw]? = some (.lst (ws.map nI))
  rk : RowOk M
theorem sum_lst {M : Store} {l : Nat} {xs : List Nat} (h : M[l]? = some (.lst (xs.map nI))) : oSumI [.lst l] M = some (nI xs.sum, M) := by
  have h2 := sum_nat (M := M) (c := xs)
  unfold oSumI seqI at h2 ⊢
  dsimp only at h2 ⊢
  rw [listAt_of h]
  exact h2
theorem law_counting_ok {M : Store} (h : RowOk M) {L : Nat} (h1 : 1 ≤ L) (h3 : L ≤ 3) : (F_law_counting [.lst 1, nI L] M).W fun a M' => ∃ q : Qn, q.Ok ∧ q.L = L ∧ a = q.A ∧ Fr (some 1) M M' ∧ RowOk M' := by
  refine w_def ?_
  unfold S_law_counting
  repeat walk_at "wt"
  refine ⟨rfl, (taken_ok (n := 3) h (by omega) (by omega)).imp ?_⟩
  rintro _ M1 ⟨k1, hk1, rfl, f1, r1⟩
  refine w_toE (add_nat (a := 1)) ?_
  generalize hmd : 1 + k1 = md
  repeat walk_at "wt"
  refine ⟨rfl, (taken_ok (n := 3) r1 (by omega) (by omega)).imp ?_⟩
  rintro _ M2 ⟨sh, hsh, rfl, f2, r2⟩
  repeat walk_at "wt"
  refine ⟨by simp [sizeLine_eq], _, rfl, ?_⟩
  repeat walk_at "wt"
  refine lc_draw (fun y => ∃ x : Nat, x < md ∧ y = nI x) (w_rng1 ?_)
  repeat walk_at "wt"
  refine ⟨L, rfl, by omega, (List.range L).map nI, by simp [Src.size], by rw [rng_len, sizeLine_eq]; omega, fun _ _ _ => rng_at, r2, fun x M3 hx f3 r3 => ⟨_, rfl, ?_⟩, fun lw M3 ys hlw f3 r3 hw hys hP => ?_⟩
  · repeat walk_at "wt"
    exact ⟨rfl, (taken_ok (n := md) r3 (by omega) (by omega)).imp fun a M4 ⟨x, hx, e, f, r⟩ => ⟨⟨x, hx, e⟩, f, r⟩⟩
  obtain ⟨ws, rfl, hws⟩ := all_of (f := nI) ys hP
  rw [List.length_map, rng_len] at hys
  have hf13 : Fr (some 1) M M3 := (f1.trans f2).trans f3
  have h1l := r3.lt
  repeat walk_at "wt"
  refine ⟨by simp [sizeLine_eq], ?_⟩
  repeat walk_at "wt"
  refine w_toE (a := tI (List.replicate L 0)) (M' := M3) (by
    unfold oMulT
    dsimp only
    rw [if_pos ⟨by simp, by omega, by omega, by simp⟩]
    congr 2
    rw [Int.toNat_natCast]
    have : ∀ n : Nat, (List.replicate n [A.int 0]).flatten = (List.replicate n 0).map nI := by
      intro n
      induction n with
      | zero => rfl
      | succ n ih => rw [List.replicate_succ, List.flatten_cons, ih, List.replicate_succ]; rfl
    rw [this]) ?_
  repeat walk_at "wt"
  refine ⟨by simp [sizeLine_eq], ?_⟩
  repeat walk_at "wt"
  refine ⟨by simp [sizeLine_eq], ?_⟩
  repeat walk_at "wt"
  refine ⟨by simp [sizeLine_eq], ?_⟩
  repeat walk_at "wt"
  refine ⟨by simp [sizeLine_eq], ?_⟩
  repeat walk_at "wt"
  refine ⟨by simp [sizeLine_eq], ⟨_, rfl, ?_⟩⟩
  have r4 : RowOk (M3 ++ [Cell.lst [csA (some (List.replicate L 0), 0)]] ++ [Cell.lst []] ++ [Cell.lst []]) := ((r3.app _).app _).app _
  have hw4 : (M3 ++ [Cell.lst [csA (some (List.replicate L 0), 0)]] ++ [Cell.lst []] ++ [Cell.lst []])[lw]? = some (.lst (ws.map nI)) := at_app (at_app (at_app hw))
  have f4 : Fr (some 1) M (M3 ++ [Cell.lst [csA (some (List.replicate L 0), 0)]] ++ [Cell.lst []] ++ [Cell.lst []]) := ((hf13.app _).app _).app _
  have hs4 : (M3 ++ [Cell.lst [csA (some (List.replicate L 0), 0)]] ++ [Cell.lst []] ++ [Cell.lst []])[M3.length]? = some (.lst ([(some (List.replicate L 0), 0)].map csA)) := at_app (at_app at_new)
  have ha4 : (M3 ++ [Cell.lst [csA (some (List.replicate L 0), 0)]] ++ [Cell.lst []])[M3.length + 1]? = some (.lst []) := by
    have := at_new (M := M3 ++ [Cell.lst [csA (some (List.replicate L 0), 0)]]) (c := .lst [])
    rwa [List.length_append, List.length_singleton] at this
  have hb4 : (M3 ++ [Cell.lst [csA (some (List.replicate L 0), 0)]] ++ [Cell.lst []] ++ [Cell.lst []])[M3.length + 1 + 1]? = some (.lst []) := by
    have := at_new (M := M3 ++ [Cell.lst [csA (some (List.replicate L 0), 0)]] ++ [Cell.lst []]) (c := .lst [])
    rwa [List.length_append, List.length_append, List.length_singleton, List.length_singleton] at this
  have ha5 : (M3 ++ [Cell.lst [csA (some (List.replicate L 0), 0)]] ++ [Cell.lst []] ++ [Cell.lst []])[M3.length + 1]? = some (.lst []) := at_app ha4
  have e5 : (M3 ++ [Cell.lst [csA (some (List.replicate L 0), 0)]]).length = M3.length + 1 := by simp
  have e6 : (M3 ++ [Cell.lst [csA (some (List.replicate L 0), 0)]] ++ [Cell.lst []]).length = M3.length + 1 + 1 := by simp
  show SO.W _ _ _
  rw [show (A.tup [tI (List.replicate L 0), A.int 0]) = csA (some (List.replicate L 0), 0) from rfl]
  rw [e5, e6]
  have len4 : (M3 ++ [Cell.lst [csA (some (List.replicate L 0), 0)]] ++ [Cell.lst []] ++ [Cell.lst []]).length = M3.length + 3 := by simp
  have hlw3 := at_lt hw
  clear ha4 e5 e6
  generalize (M3 ++ [Cell.lst [csA (some (List.replicate L 0), 0)]] ++ [Cell.lst []] ++ [Cell.lst []]) = M4 at *
  have hbase : M.length ≤ M3.length := hf13.1
  generalize hl0 : M3.length = l0 at *
  repeat walk_at "wt"
  refine lc_draw (fun y => ∃ x : Nat, x < 3 ∧ y = nI x) (w_rng1 ?_)
  repeat walk_at "wt"
  refine ⟨4, rfl, by omega, (List.range 4).map nI, by simp [Src.size], by rw [rng_len, sizeLine_eq]; omega, fun _ _ _ => rng_at, r4, fun x M5 hx f5 r5 => ⟨_, rfl, ?_⟩, fun lo M5 ys hlo f5 r5 ho hys2 hP2 => ?_⟩
  · repeat walk_at "wt"
    exact ⟨rfl, (taken_ok (n := 3) r5 (by omega) (by omega)).imp fun a M4 ⟨x, hx, e, f, r⟩ => ⟨⟨x, hx, e⟩, f, r⟩⟩
  obtain ⟨odd, rfl, hodd⟩ := all_of (f := nI) ys hP2
  rw [List.length_map, rng_len] at hys2
  repeat walk_at "wt"
  have f5' : Fr (some 1) M M5 := f4.trans f5
  have c0 : CI odd ws lo lw (l0 + 1) (l0 + 1 + 1) M5 [(some (List.replicate L 0), 0)] l0 [] [] := ⟨f5.at hs4 (by simp <;> omega), f5.at ha5 (by simp <;> omega), f5.at hb4 (by simp <;> omega), ho, f5.at hw4 (by have := r2.lt; simp <;> omega), r5⟩
  have hlw1 : 1 < lw := by have := r2.lt; omega
  refine w_while (I := fun m τ M' => ∃ (S : List Cs) (ls at_ : Nat) (rows : List (List Nat)) (ans : List Nat) (y10 y11 y12 y13 y14 : Option A), τ = [some (.lst 1), some (nI L), some (.lst lo), some (nI at_), some (nI md), some (nI sh), some (.lst lw), some (.lst ls), some (.lst (l0 + 1)), some (.lst (l0 + 1 + 1)), y10, y11, y12, y13, y14] ∧ CI odd ws lo lw (l0 + 1) (l0 + 1 + 1) M' S ls rows ans ∧ SOk L S ∧ at_ ≤ S.length ∧ 1 ≤ S.length ∧ rows.length = at_ ∧ ans.length = at_ ∧ (∀ r ∈ rows, r.length = L ∧ ∀ x ∈ r, x < S.length) ∧ (∀ x ∈ ans, x ≤ 3) ∧ ls ≠ l0 + 1 ∧ ls ≠ l0 + 1 + 1 ∧ m = 40 - at_ ∧ l0 + 3 ≤ M'.length ∧ Fr (some 1) M M') ?_ fuel 40 _ _ (by unfold fuel; omega) ?_
  · rintro m τ M6 ⟨S, ls, at_, rows, ans, y10, y11, y12, y13, y14, rfl, c, so, hat, hS1, hrl, hal, hrows, hans, hn1, hn2, hm, hlen, f6⟩
    have hSl := so.len h1 h3
    repeat walk_at "wt"
    refine w_toE (len_lst (listAt_of c.hs)) ?_
    rw [List.length_map]
    repeat walk_at "wt"
    refine w_toE (lt_nat (b := S.length)) ⟨_, rfl, ?_⟩
    by_cases hlt : at_ < S.length
    · rw [if_pos (by simpa using hlt)]
      have hsg : S[at_]? = some S[at_] := List.getElem?_eq_getElem hlt
      have hpu : Pu L S[at_] := so.pu _ (List.getElem_mem hlt)
      generalize S[at_] = s0 at hsg hpu
      obtain ⟨o, v⟩ := s0
      have hv3 : v < 3 := hpu.1
      repeat walk_at "wt"
      refine w_toE (ix_lst (i := at_) (listAt_of c.hs) (by rw [List.getElem?_map, hsg]; rfl)) ?_
      repeat walk_at "wt"
      refine w_toE (show oIx (csA (o, v)) (.int 0) M6 = some (cA o, M6) from ix2_0) ?_
      repeat walk_at "wt"
      refine ⟨by simp [sizeLine_eq], ?_⟩
      repeat walk_at "wt"
      refine ⟨by simp [sizeLine_eq], _, rfl, ?_⟩
      refine w_seq (w_for (w_rng1 ?_))
      repeat walk_at "wt"
      have hls6 := at_lt c.hs
      have hlo6 := at_lt c.ho
      have hlw6 := at_lt c.hw
      refine ⟨L, rfl, by omega, (List.range L).map nI, fun i τ M' => ∃ (S' : List Cs) (ls' : Nat) (line : List Nat) (y10 y14 : Option A), τ = [some (.lst 1), some (nI L), some (.lst lo), some (nI at_), some (nI md), some (nI sh), some (.lst lw), some (.lst ls'), some (.lst (l0 + 1)), some (.lst (l0 + 1 + 1)), y10, y11, some (cA o), some (.lst M6.length), y14] ∧ CI odd ws lo lw (l0 + 1) (l0 + 1 + 1) M' S' ls' rows ans ∧ SOk L S' ∧ S.length ≤ S'.length ∧ S'[at_]? = some (o, v) ∧ M'[M6.length]? = some (.lst (line.map nI)) ∧ line.length = i ∧ (∀ x ∈ line, x < S'.length) ∧ ls' ≠ l0 + 1 ∧ ls' ≠ l0 + 1 + 1 ∧ ls' ≠ M6.length ∧ M6.length ≤ M'.length ∧ Fr (some 1) M M', by simp [Src.size], ?_, fun _ _ _ _ => rng_at, ?_, ?_⟩
      · refine ⟨S, ls, [], _, _, rfl, ⟨at_app c.hs, at_app c.hr, at_app c.ha, at_app c.ho, at_app c.hw, c.rk.app _⟩, so, Nat.le_refl _, hsg, at_new, rfl, by simp, hn1, hn2, by omega, by simp, f6.app _⟩
      · rintro i x τ M7 hx ⟨S', ls', line, y10, y14, rfl, c7, so7, hSS, hsg7, hline, hll, hlx, g1, g2, g3, hlen7, f7⟩
        obtain ⟨hi, rfl⟩ := rng_get hx
        have hSl7 := so7.len h1 h3
        have hwi : ws[i]? = some ws[i] := List.getElem?_eq_getElem (by omega)
        have hwl : ws[i] < md := hws _ (List.getElem_mem _)
        refine ⟨_, rfl, ?_⟩
        repeat walk_at "wt"
        refine w_toE (ix_lst (i := at_) (listAt_of c7.hs) (by rw [List.getElem?_map, hsg7]; rfl)) ?_
        repeat walk_at "wt"
        refine w_toE (show oIx (csA (o, v)) (.int 1) M7 = some (nI v, M7) from ix2_1) ?_
        repeat walk_at "wt"
        refine w_toE (ix_lst (i := i) (listAt_of c7.hw) (by rw [List.getElem?_map, hwi]; rfl)) ?_
        refine w_toE (add_nat (a := v) (b := ws[i])) ?_
        repeat walk_at "wt"
        refine w_toE (show oInt1 [nI (v + ws[i])] M7 = some (nI (v + ws[i]), M7) from rfl) ?_
        repeat walk_at "wt"
        refine w_toE (modn_ok (n := md) (by omega)) ?_
        repeat walk_at "wt"
        refine ⟨by simp [sizeLine_eq], ?_⟩
        have hw2 : (v + ws[i]) % md < 3 := Nat.lt_of_lt_of_le (Nat.mod_lt _ (by omega)) (by omega)
        generalize (v + ws[i]) % md = w2 at hw2
        have tail : ∀ s : Cs, Pu L s → (sSeq (sAsg (.nm 7) (eIf (eB (eOp oNotIn (eVar 14) (eVar 7))) (eOp oAdd (eVar 7) (eLst (eCons (eVar 14) eNil))) (eVar 7))) (sSeq (sExpr (eMeth oAppend (eVar 13) (eCons (eMeth oIndexD (eVar 7) (eCons (eVar 14) eNil)) eNil))) sNil) [some (.lst 1), some (nI L), some (.lst lo), some (nI at_), some (nI md), some (nI sh), some (.lst lw), some (.lst ls'), some (.lst (l0 + 1)), some (.lst (l0 + 1 + 1)), some (nI i), y11, some (cA o), some (.lst M6.length), some (csA s)] M7).W (fun τ M' => ∃ (S' : List Cs) (ls' : Nat) (line : List Nat) (y10 y14 : Option A), τ = [some (.lst 1), some (nI L), some (.lst lo), some (nI at_), some (nI md), some (nI sh), some (.lst lw), some (.lst ls'), some (.lst (l0 + 1)), some (.lst (l0 + 1 + 1)), y10, y11, some (cA o), some (.lst M6.length), y14] ∧ CI odd ws lo lw (l0 + 1) (l0 + 1 + 1) M' S' ls' rows ans ∧ SOk L S' ∧ S.length ≤ S'.length ∧ S'[at_]? = some (o, v) ∧ M'[M6.length]? = some (.lst (line.map nI)) ∧ line.length = i + 1 ∧ (∀ x ∈ line, x < S'.length) ∧ ls' ≠ l0 + 1 ∧ ls' ≠ l0 + 1 + 1 ∧ ls' ≠ M6.length ∧ M6.length ≤ M'.length ∧ Fr (some 1) M M') (fun a M' => ∃ q : Qn, q.Ok ∧ q.L = L ∧ a = q.A ∧ Fr (some 1) M M' ∧ RowOk M') := by
          intro s hs
          have low : ∀ (S2 : List Cs) (l2 : Nat) (M8 : Store), CI odd ws lo lw (l0 + 1) (l0 + 1 + 1) M8 S2 l2 rows ans → s ∈ S2 → SOk L S2 → S'.length ≤ S2.length → S2[at_]? = some (o, v) → M8[M6.length]? = some (.lst (line.map nI)) → l2 ≠ l0 + 1 → l2 ≠ l0 + 1 + 1 → l2 ≠ M6.length → M6.length ≤ M8.length → Fr (some 1) M M8 → (sSeq (sExpr (eMeth oAppend (eVar 13) (eCons (eMeth oIndexD (eVar 7) (eCons (eVar 14) eNil)) eNil))) sNil [some (.lst 1), some (nI L), some (.lst lo), some (nI at_), some (nI md), some (nI sh), some (.lst lw), some (.lst l2), some (.lst (l0 + 1)), some (.lst (l0 + 1 + 1)), some (nI i), y11, some (cA o), some (.lst M6.length), some (csA s)] M8).W (fun τ M' => ∃ (S' : List Cs) (ls' : Nat) (line : List Nat) (y10 y14 : Option A), τ = [some (.lst 1), some (nI L), some (.lst lo), some (nI at_), some (nI md), some (nI sh), some (.lst lw), some (.lst ls'), some (.lst (l0 + 1)), some (.lst (l0 + 1 + 1)), y10, y11, some (cA o), some (.lst M6.length), y14] ∧ CI odd ws lo lw (l0 + 1) (l0 + 1 + 1) M' S' ls' rows ans ∧ SOk L S' ∧ S.length ≤ S'.length ∧ S'[at_]? = some (o, v) ∧ M'[M6.length]? = some (.lst (line.map nI)) ∧ line.length = i + 1 ∧ (∀ x ∈ line, x < S'.length) ∧ ls' ≠ l0 + 1 ∧ ls' ≠ l0 + 1 + 1 ∧ ls' ≠ M6.length ∧ M6.length ≤ M'.length ∧ Fr (some 1) M M') (fun a M' => ∃ q : Qn, q.Ok ∧ q.L = L ∧ a = q.A ∧ Fr (some 1) M M' ∧ RowOk M') := by
            intro S2 l2 M8 c8 hm8 so8 hS8 hsg8 hline8 k1 k2 k3 hlen8 f8
            obtain ⟨j, hj, ej⟩ := index_cs c8.hs hm8
            repeat walk_at "wt"
            refine ⟨isL_of hline8, ?_⟩
            repeat walk_at "wt"
            refine ⟨isL_of c8.hs, ?_⟩
            repeat walk_at "wt"
            refine w_toE ej ?_
            repeat walk_at "wt"
            refine w_toE (append_ok hline8 (by rw [List.length_map]; omega)) ?_
            repeat walk_at "wt"
            refine ⟨S2, l2, line ++ [j], _, _, rfl, ⟨at_ne k3 c8.hs, at_ne (by omega) c8.hr, at_ne (by omega) c8.ha, at_ne (by omega) c8.ho, at_ne (by omega) c8.hw, c8.rk.set (by omega)⟩, so8, by omega, hsg8, by rw [at_set hline8, List.map_append]; rfl, by rw [List.length_append, hll]; rfl, fun x hx => ?_, k1, k2, k3, by rw [List.length_set]; exact hlen8, f8.set (by have := f6.1; omega)⟩
            rcases List.mem_append.mp hx with hx | hx
            · have := hlx x hx; omega
            · rw [List.mem_singleton.mp hx]; exact hj
          repeat walk_at "wt"
          refine w_toE (notin_cs c7.hs) ⟨_, rfl, ?_⟩
          by_cases hin : s ∈ S'
          · rw [if_neg (by simp [hin])]
            walk_at "wt"
            exact low S' ls' M7 c7 hin so7 (Nat.le_refl _) hsg7 hline g1 g2 g3 hlen7 f7
          · rw [if_pos (by simp [hin])]
            repeat walk_at "wt"
            refine ⟨by simp [sizeLine_eq], ?_⟩
            have ea : oAdd (.lst ls') (.lst M7.length) (M7 ++ [.lst [csA s]]) = some (.lst (M7.length + 1), M7 ++ [.lst [csA s]] ++ [.lst ((S' ++ [s]).map csA)]) := by
              rw [add_lst (at_app c7.hs) at_new (by rw [List.length_map]; simp; omega), List.map_append]
              simp
            refine w_toE ea ?_
            refine low (S' ++ [s]) (M7.length + 1) _ ⟨?_, at_app (at_app c7.hr), at_app (at_app c7.ha), at_app (at_app c7.ho), at_app (at_app c7.hw), (c7.rk.app _).app _⟩ (by simp) (so7.add hs hin) (by simp) (by rw [List.getElem?_append_left (List.getElem?_eq_some_iff.mp hsg7).1]; exact hsg7) (at_app (at_app hline)) (by have := at_lt c7.hr; omega) (by have := at_lt c7.ha; omega) (by have := at_lt hline; omega) (by simp; omega) ((f7.app _).app _)
            have := at_new (M := M7 ++ [Cell.lst [csA s]]) (c := .lst ((S' ++ [s]).map csA))
            rwa [List.length_append, List.length_singleton] at this
        repeat walk_at "wt"
        refine w_toE ne_long ⟨_, rfl, ?_⟩
        cases o with
        | none =>
          rw [if_neg (by decide)]
          refine w_sNil ?_
          exact tail (none, w2) ⟨hw2, fun _ z => by cases z⟩
        | some c =>
          obtain ⟨hcl, hc2⟩ := hpu.2 c rfl
          rw [if_pos (by simp)]
          repeat walk_at "wt"
          refine w_toE sum_nat ?_
          repeat walk_at "wt"
          refine w_toE (lt_nat (b := sh)) ⟨_, rfl, ?_⟩
          by_cases hss : c.sum < sh
          · rw [if_pos (by simpa using hss)]
            have hic : i < c.length := by omega
            refine w_seq (w_set ?_)
            repeat walk_at "wt"
            refine w_sl ?_
            repeat walk_at "wt"
            refine w_noPart (w_part ?_)
            repeat walk_at "wt"
            refine ⟨_, rfl, w_toE (sl_take (s := i) (by rw [List.length_map]; omega)) ?_⟩
            repeat walk_at "wt"
            refine w_toE (getc hic) ?_
            repeat walk_at "wt"
            refine w_toE (add_nat (a := c.getD i 0) (b := 1)) ?_
            repeat walk_at "wt"
            refine ⟨by simp [sizeLine_eq], ?_⟩
            refine w_toE (add_tup (by rw [List.length_take, List.length_map]; simp; omega)) ?_
            refine w_sl ?_
            repeat walk_at "wt"
            refine w_part ?_
            repeat walk_at "wt"
            refine w_toE (add_nat (a := i) (b := 1)) ?_
            refine ⟨_, rfl, w_noPart ?_⟩
            refine w_toE (sl_drop (s := i + 1) (by rw [List.length_map]; omega)) ?_
            refine w_toE (add_tup (by rw [List.length_append, List.length_take, List.length_drop, List.length_map]; simp; omega)) ?_
            repeat walk_at "wt"
            refine w_toE ix2_1 ?_
            walk_at "wt"
            refine ⟨by simp [sizeLine_eq], ?_⟩
            have eup : (A.tup (List.take i (List.map nI c) ++ [nI (c.getD i 0 + 1)] ++ List.drop (i + 1) (List.map nI c))) = tI (upC c i) := by
              unfold upC
              simp [tI, List.map_take, List.map_drop]
            rw [eup]
            refine w_sNil ?_
            refine tail (some (upC c i), w2) ⟨hw2, fun d z => ?_⟩
            cases z
            exact ⟨by rw [upC_len hic]; exact hcl, by rw [upC_sum hic]; omega⟩
          · rw [if_neg (by simpa using hss)]
            refine w_sNil ?_
            exact tail (none, w2) ⟨hw2, fun _ z => by cases z⟩
      · rintro τ M7 ⟨S', ls', line, y10, y14, rfl, c7, so7, hSS, hsg7, hline, hll, hlx, g1, g2, g3, hlen7, f7⟩
        have hle7 := so7.len h1 h3
        rw [rng_len] at hll
        repeat walk_at "wt"
        refine ⟨isL_of c7.hr, ?_⟩
        repeat walk_at "wt"
        refine w_toE (tuple_lst (listAt_of hline)) ?_
        repeat walk_at "wt"
        refine w_toE (append_ok c7.hr (by rw [List.length_map]; omega)) ?_
        repeat walk_at "wt"
        have hr8 : (M7.set (l0 + 1) (.lst (rows.map tI ++ [tI line])))[l0 + 1]? = some (.lst ((rows ++ [line]).map tI)) := by rw [at_set c7.hr, List.map_append]; rfl
        have hs8 : (M7.set (l0 + 1) (.lst (rows.map tI ++ [tI line])))[ls']? = some (.lst (S'.map csA)) := at_ne g1 c7.hs
        have ha8 : (M7.set (l0 + 1) (.lst (rows.map tI ++ [tI line])))[l0 + 1 + 1]? = some (.lst (ans.map nI)) := at_ne (by omega) c7.ha
        have ho8 : (M7.set (l0 + 1) (.lst (rows.map tI ++ [tI line])))[lo]? = some (.lst (odd.map nI)) := at_ne (by omega) c7.ho
        have hw8 : (M7.set (l0 + 1) (.lst (rows.map tI ++ [tI line])))[lw]? = some (.lst (ws.map nI)) := at_ne (by omega) c7.hw
        have rk8 : RowOk (M7.set (l0 + 1) (.lst (rows.map tI ++ [tI line]))) := c7.rk.set (by omega)
        have f8 : Fr (some 1) M (M7.set (l0 + 1) (.lst (rows.map tI ++ [tI line]))) := f7.set (by omega)
        have len8 : l0 + 3 ≤ (M7.set (l0 + 1) (.lst (rows.map tI ++ [tI line]))).length := by rw [List.length_set]; omega
        refine ⟨isL_of ha8, ?_⟩
        generalize (M7.set (l0 + 1) (.lst (rows.map tI ++ [tI line]))) = M8 at *
        have fin : ∀ (x : Nat) (M9 : Store), x ≤ 3 → Pre M8 M9 → RowOk M9 → ∀ y10 y14 : Option A, ((toE (oAppend (.lst (l0 + 1 + 1)) [nI x] M9)).W fun _ M1 => (sSeq (sAsg (.nm 3) (eOp oAdd (eVar 3) (eC (.int 1)))) sNil [some (.lst 1), some (nI L), some (.lst lo), some (nI at_), some (nI md), some (nI sh), some (.lst lw), some (.lst ls'), some (.lst (l0 + 1)), some (.lst (l0 + 1 + 1)), y10, y11, some (cA o), some (.lst M6.length), y14] M1).W (fun τ2 M2 => ∃ m', m' < m ∧ ∃ (S : List Cs) (ls at_ : Nat) (rows : List (List Nat)) (ans : List Nat) (y10 y11 y12 y13 y14 : Option A), τ2 = [some (.lst 1), some (nI L), some (.lst lo), some (nI at_), some (nI md), some (nI sh), some (.lst lw), some (.lst ls), some (.lst (l0 + 1)), some (.lst (l0 + 1 + 1)), y10, y11, y12, y13, y14] ∧ CI odd ws lo lw (l0 + 1) (l0 + 1 + 1) M2 S ls rows ans ∧ SOk L S ∧ at_ ≤ S.length ∧ 1 ≤ S.length ∧ rows.length = at_ ∧ ans.length = at_ ∧ (∀ r ∈ rows, r.length = L ∧ ∀ x ∈ r, x < S.length) ∧ (∀ x ∈ ans, x ≤ 3) ∧ ls ≠ l0 + 1 ∧ ls ≠ l0 + 1 + 1 ∧ m' = 40 - at_ ∧ l0 + 3 ≤ M2.length ∧ Fr (some 1) M M2) (fun a M' => ∃ q : Qn, q.Ok ∧ q.L = L ∧ a = q.A ∧ Fr (some 1) M M' ∧ RowOk M')) := by
          intro x M9 hx p9 rk9 y10 y14
          have ha9 := p9.at ha8
          refine w_toE (append_ok ha9 (by rw [List.length_map]; omega)) ?_
          repeat walk_at "wt"
          refine w_toE (add_nat (a := at_) (b := 1)) ?_
          repeat walk_at "wt"
          refine ⟨40 - (at_ + 1), by omega, S', ls', at_ + 1, rows ++ [line], ans ++ [x], y10, _, _, _, y14, rfl, ⟨at_ne g2 (p9.at hs8), at_ne (by omega) (p9.at hr8), by rw [at_set ha9, List.map_append]; rfl, at_ne (by omega) (p9.at ho8), at_ne (by omega) (p9.at hw8), rk9.set (by omega)⟩, so7, by omega, by omega, by rw [List.length_append, hrl]; rfl, by rw [List.length_append, hal]; rfl, fun r hr => ?_, fun z hz => ?_, g1, g2, rfl, by rw [List.length_set]; have := p9.1; omega, (f8.trans (Fr.of p9)).set (by omega)⟩
          · rcases List.mem_append.mp hr with hr | hr
            · exact ⟨(hrows r hr).1, fun y hy => by have := (hrows r hr).2 y hy; omega⟩
            · rw [List.mem_singleton.mp hr]
              exact ⟨hll, hlx⟩
          · rcases List.mem_append.mp hz with hz | hz
            · exact hans z hz
            · rw [List.mem_singleton.mp hz]; exact hx
        repeat walk_at "wt"
        refine w_toE eq_long ⟨_, rfl, ?_⟩
        cases o with
        | none =>
          rw [if_pos (by decide)]
          repeat walk_at "wt"
          refine w_toE (ix_lst (i := at_) (listAt_of hs8) (by rw [List.getElem?_map, hsg7]; rfl)) ?_
          repeat walk_at "wt"
          refine w_toE (show oIx (csA (none, v)) (.int 1) M8 = some (nI v, M8) from ix2_1) ?_
          repeat walk_at "wt"
          exact fin v M8 (by omega) Fr.refl rk8 _ _
        | some c =>
          obtain ⟨hcl, hc2⟩ := hpu.2 c rfl
          rw [if_neg (by simp)]
          repeat walk_at "wt"
          refine w_lc_rng (n := L) (fun k => nI ((k + 1) * c.getD k 0)) (w_rng1 ?_)
          repeat walk_at "wt"
          refine ⟨L, rfl, by omega, rfl, by omega, fun k M9 hk p9 => ⟨_, rfl, ?_⟩, fun l M9 hl p9 h9 => ?_⟩
          · repeat walk_at "wt"
            refine w_toE (add_nat (a := k) (b := 1)) ?_
            repeat walk_at "wt"
            refine w_toE (getc (by omega)) ?_
            refine w_toE (mul_nat (by omega)) ⟨rfl, Fr.refl⟩
          · repeat walk_at "wt"
            have h9' : M9[l]? = some (.lst (((List.range L).map fun k => (k + 1) * c.getD k 0).map nI)) := by rw [h9, List.map_map]; rfl
            refine w_toE (sum_lst h9') ?_
            repeat walk_at "wt"
            generalize ((List.range L).map fun k => (k + 1) * c.getD k 0).sum = tot
            refine w_toE (show oInt1 [nI tot] M9 = some (nI tot, M9) from rfl) ?_
            repeat walk_at "wt"
            refine w_toE (modn_ok (n := 4) (by omega)) ?_
            have h4 : tot % 4 < 4 := Nat.mod_lt _ (by omega)
            have ho4 : odd[tot % 4]? = some odd[tot % 4] := List.getElem?_eq_getElem (by omega)
            refine w_toE (ix_lst (i := tot % 4) (listAt_of (p9.at ho8)) (by rw [List.getElem?_map, ho4]; rfl)) ?_
            repeat walk_at "wt"
            exact fin odd[tot % 4] M9 (by have := hodd _ (List.getElem_mem (l := odd) (n := tot % 4) (by omega)); omega) p9 (rk8.pre p9) _ _
    · rw [if_neg (by simpa using hlt)]
      have eat : at_ = S.length := by omega
      subst eat
      repeat walk_at "wt"
      refine w_toE (tuple_lst (listAt_of c.hr)) ?_
      repeat walk_at "wt"
      refine w_toE (tuple_lst (listAt_of c.ha)) ?_
      repeat walk_at "wt"
      refine ⟨by simp [sizeLine_eq], ⟨L, rows, ans⟩, ⟨h1, h3, ?_, ?_, fun r hr => ?_, ?_, hans⟩, rfl, rfl, f6, c.rk⟩
      · show 1 ≤ rows.length; omega
      · show rows.length ≤ 40; omega
      · exact ⟨(hrows r hr).1, fun x hx => by have := (hrows r hr).2 x hx; show x < rows.length; omega⟩
      · show ans.length = rows.length; omega
  · refine ⟨[(some (List.replicate L 0), 0)], l0, 0, [], [], none, none, none, none, none, rfl, c0, ⟨by simp, fun s hs => ?_⟩, by simp, by simp, rfl, rfl, by simp, by simp, by omega, by omega, rfl, by have := f5.1; omega, f5'⟩
    rw [List.mem_singleton.mp hs]
    refine ⟨Nat.zero_lt_succ _, fun c z => ?_⟩
    cases z
    exact ⟨by simp, by simp⟩
end P66
namespace P66
open PySem PySem.Spec PyProof.Rows L2 AB SM
/-! ### lists of alike values -/
theorem alike_lst {n : Nat} {M : Store} {l k : Nat} {xs : List A} (h1 : listAt M l = some xs) (h2 : listAt M k = some xs) (hz : xs.length ≤ zmax) (h : ∀ x ∈ xs, ∀ M1 : Store, (F_law_alike n [x, x] M1).W fun a M' => a = .bl true ∧ Pre M1 M') : (F_law_alike (n + 1) [.lst l, .lst k] M).W fun a M' => a = .bl true ∧ Pre M M' := by
  have hz2 := zmax_eq
  refine w_def ?_
  unfold S_law_alike
  repeat walk_at "ws"
  refine ⟨by decide, ?_⟩
  walk_at "ws"
  refine w_toE (isiA_lst h2) ⟨true, rfl, ?_⟩
  rw [if_pos rfl]
  repeat walk_at "ws"
  refine ⟨by decide, ?_⟩
  walk_at "ws"
  refine w_toE (isiA_lst h1) ⟨true, rfl, ?_⟩
  rw [if_neg (by decide)]
  repeat walk_at "ws"
  refine w_toE (isi_lst_list h1) ?_
  repeat walk_at "ws"
  refine w_toE (isi_lst_list h2) ?_
  refine w_toE ne_bl ⟨false, rfl, ?_⟩
  rw [if_neg (by decide)]
  repeat walk_at "ws"
  refine w_toE (len_lst h1) ?_
  repeat walk_at "ws"
  refine w_toE (len_lst h2) ?_
  refine w_toE ne_int ⟨false, by simp, ?_⟩
  rw [if_neg (by decide)]
  repeat walk_at "ws"
  with_reducible refine w_lc ?_
  with_reducible refine w_rng1 ?_
  repeat walk_at "ws"
  refine w_toE (len_lst h2) ?_
  walk_at "ws"
  refine ⟨xs.length, rfl, by omega, (List.range xs.length).map nI, fun i acc M2 => acc = [] ∧ Pre M M2, by simp [Src.size], by rw [sizeLine_eq]; simp; omega, ⟨rfl, Fr.refl.app _⟩, fun i acc M2 _ => rng_at, fun t x acc M2 hx hI hl _ => ?_, fun acc M2 hI hl => ?_⟩
  · obtain ⟨rfl, p⟩ := hI
    have hla : ∀ {l : Nat} {xs : List A}, listAt M l = some xs → listAt M2 l = some xs := by
      intro l xs h
      unfold AB.listAt at h ⊢
      split at h
      · rename_i c hc
        rw [Pre.at p hc]
        exact h
      · cases h
    obtain ⟨hi, rfl⟩ := rng_get hx
    have ex : xs[t]? = some xs[t] := List.getElem?_eq_getElem hi
    refine ⟨_, rfl, ?_⟩
    repeat walk_at "ws"
    refine w_toE (ix_lst (i := t) (hla h1) ex) ?_
    repeat walk_at "ws"
    refine w_toE (ix_lst (i := t) (hla h2) ex) ?_
    walk_at "ws"
    refine ⟨rfl, (h xs[t] (List.getElem_mem hi) M2).imp ?_⟩
    rintro _ M3 ⟨rfl, p3⟩
    refine ⟨true, rfl, ?_⟩
    rw [if_neg (by decide)]
    exact ⟨Pre.at p3 hl, rfl, p.trans p3⟩
  · obtain ⟨rfl, p⟩ := hI
    repeat walk_at "ws"
    refine ⟨by decide, w_toE (eq_nil (listAt_of (at_app hl)) (listAt_of at_new)) ⟨rfl, p.app _⟩⟩
/-! ### how many texts have such counts -/
def fc : Nat → Nat
  | 0 => 1
  | n + 1 => (n + 1) * fc n
def pf : List Nat → Nat
  | [] => 1
  | x :: c => fc x * pf c
theorem fc_pos : ∀ n, 0 < fc n
  | 0 => Nat.one_pos
  | n + 1 => Nat.mul_pos (by omega) (fc_pos n)
theorem pf_pos : ∀ c, 0 < pf c
  | [] => Nat.one_pos
  | x :: c => Nat.mul_pos (fc_pos x) (pf_pos c)
theorem pf_app : ∀ c d, pf (c ++ d) = pf c * pf d
  | [], d => by simp [pf]
  | x :: c, d => by
    show fc x * pf (c ++ d) = fc x * pf c * pf d
    rw [pf_app c d, Nat.mul_assoc]
theorem pf_zero : ∀ {c : List Nat}, c.sum = 0 → pf c = 1
  | [], _ => rfl
  | x :: c, h => by
    rw [List.sum_cons] at h
    obtain rfl : x = 0 := by omega
    show fc 0 * pf c = 1
    rw [pf_zero (by omega)]; rfl
theorem pf_less {c : List Nat} {l : Nat} (h : l < c.length) (hp : 0 < c.getD l 0) : pf c = c.getD l 0 * pf (lessN c l) := by
  have e := congrArg pf (split_at h)
  rw [e]
  unfold lessN
  rw [pf_app, pf_app, pf_app, pf_app]
  obtain ⟨k, hk⟩ : ∃ k, c.getD l 0 = k + 1 := ⟨c.getD l 0 - 1, by omega⟩
  rw [hk]
  show pf (c.take l) * ((k + 1) * fc k * 1) * pf (c.drop (l + 1)) = (k + 1) * (pf (c.take l) * (fc (k + 1 - 1) * 1) * pf (c.drop (l + 1)))
  rw [Nat.add_sub_cancel, Nat.mul_one, Nat.mul_one]
  simp only [Nat.mul_assoc, Nat.mul_left_comm]
theorem sum_mulR {α : Type} (f : α → Nat) (p : Nat) : ∀ L : List α, (L.map f).sum * p = (L.map fun l => f l * p).sum
  | [] => by simp
  | x :: L => by rw [List.map_cons, List.sum_cons, Nat.add_mul, sum_mulR f p L, List.map_cons, List.sum_cons]
theorem map_getD (c : List Nat) : (List.range c.length).map (fun l => c.getD l 0) = c := by
  refine List.ext_getElem (by simp) fun i h1 h2 => ?_
  rw [List.getElem_map, List.getElem_range, List.getD_eq_getElem?_getD, List.getElem?_eq_getElem h2]
  rfl
theorem count_all : ∀ (n : Nat) (c : List Nat), c.sum < n → (allT n c).length * pf c = fc c.sum
  | 0, c, h => by omega
  | n + 1, c, h => by
    unfold allT
    by_cases h0 : c.sum = 0
    · rw [if_pos h0, pf_zero h0, h0]; rfl
    · rw [if_neg h0, List.length_flatMap, sum_mulR]
      obtain ⟨s, hs⟩ : ∃ s, c.sum = s + 1 := ⟨c.sum - 1, by omega⟩
      have e : (List.range c.length).map (fun l => (if 0 < c.getD l 0 then (allT n (lessN c l)).map (· ++ [l]) else []).length * pf c) = (List.range c.length).map fun l => c.getD l 0 * fc s := by
        refine List.map_congr_left fun l hl => ?_
        have hl := List.mem_range.mp hl
        by_cases hp : 0 < c.getD l 0
        · rw [if_pos hp, List.length_map, pf_less hl hp]
          have e := lessN_sum hl hp
          have ih := count_all n (lessN c l) (by omega)
          rw [show (lessN c l).sum = s by omega] at ih
          rw [Nat.mul_left_comm, ih]
        · rw [if_neg hp, show c.getD l 0 = 0 by omega]; simp
      rw [e, ← sum_mulR (fun l => c.getD l 0) (fc s), map_getD, hs]
      rfl
def manyT (c : List Nat) : Nat := (allT (c.sum + 1) c).length
theorem many_pf (c : List Nat) : manyT c * pf c = fc c.sum := count_all _ c (by omega)
theorem many_pos (c : List Nat) : 0 < manyT c := by
  have h1 := many_pf c
  have h2 := fc_pos c.sum
  rcases Nat.eq_zero_or_pos (manyT c) with h | h
  · rw [h, Nat.zero_mul] at h1; omega
  · exact h
theorem many_nil : manyT [] = 1 := rfl
theorem many_zero (d : List Nat) : manyT (d ++ [0]) = manyT d := by
  have h1 := many_pf (d ++ [0])
  have h2 := many_pf d
  rw [pf_app, List.sum_append] at h1
  have e : manyT (d ++ [0]) * pf d = manyT d * pf d := by
    rw [h2]
    have : pf d * pf [0] = pf d := by show pf d * (1 * 1) = pf d; simp
    rw [this] at h1
    simpa using h1
  exact Nat.eq_of_mul_eq_mul_right (pf_pos d) e
theorem many_step (d : List Nat) (j : Nat) : manyT (d ++ [j + 1]) * (j + 1) = manyT (d ++ [j]) * (d.sum + j + 1) := by
  have h1 := many_pf (d ++ [j + 1])
  have h2 := many_pf (d ++ [j])
  rw [pf_app, List.sum_append] at h1 h2
  have s1 : d.sum + [j + 1].sum = (d.sum + j) + 1 := by simp; omega
  have s2 : d.sum + [j].sum = d.sum + j := by simp
  rw [s1] at h1
  rw [s2] at h2
  have p1 : pf [j + 1] = (j + 1) * fc j := by show (j + 1) * fc j * 1 = _; rw [Nat.mul_one]
  have p2 : pf [j] = fc j := by show fc j * 1 = _; rw [Nat.mul_one]
  rw [p1] at h1
  rw [p2] at h2
  refine Nat.eq_of_mul_eq_mul_right (Nat.mul_pos (pf_pos d) (fc_pos j)) ?_
  have l1 : manyT (d ++ [j + 1]) * (j + 1) * (pf d * fc j) = fc (d.sum + j + 1) := by
    rw [← h1]
    simp only [Nat.mul_assoc, Nat.mul_left_comm, Nat.mul_comm]
  have l2 : manyT (d ++ [j]) * (d.sum + j + 1) * (pf d * fc j) = fc (d.sum + j + 1) := by
    show _ = (d.sum + j + 1) * fc (d.sum + j)
    rw [← h2]
    simp only [Nat.mul_assoc, Nat.mul_left_comm, Nat.mul_comm]
  rw [l1, l2]
theorem many_div (d : List Nat) (j : Nat) : manyT (d ++ [j]) * (d.sum + j + 1) / (j + 1) = manyT (d ++ [j + 1]) := by
  rw [← many_step, Nat.mul_div_cancel _ (by omega)]
end P66
namespace P66
open PySem PySem.Spec PyProof.Rows L2 AB SM
/-! ### one answer alone -/
theorem one_len {t : Tal} {ks : List Nat} (h : Rep t ks) : t.length = 1 ↔ ∃ a, ks ≠ [] ∧ ∀ x ∈ ks, x = a := by
  have hl : (keysT t).length = t.length := by unfold keysT; rw [List.length_map]
  constructor
  · intro h1
    rw [← hl] at h1
    obtain ⟨a, ha⟩ := List.length_eq_one_iff.mp h1
    refine ⟨a, fun z => ?_, fun x hx => ?_⟩
    · have := (h.mem a).mp (by rw [ha]; exact List.mem_singleton.mpr rfl)
      rw [z] at this
      cases this
    · have := (h.mem x).mpr hx
      rw [ha] at this
      exact List.mem_singleton.mp this
  · rintro ⟨a, hne, hall⟩
    rw [← hl]
    have hk : ∀ x ∈ keysT t, x = a := fun x hx => hall x ((h.mem x).mp hx)
    have hn := h.nd
    cases e : keysT t with
    | nil =>
      cases ks with
      | nil => exact absurd rfl hne
      | cons y ks =>
        have := (h.mem y).mpr List.mem_cons_self
        rw [e] at this
        cases this
    | cons x r =>
      cases r with
      | nil => rfl
      | cons y r =>
        rw [e] at hn hk
        have h1 := hk x (by simp)
        have h2 := hk y (by simp)
        exact absurd (show x ∈ y :: r by rw [h1, h2]; exact List.mem_cons_self) (List.nodup_cons.mp hn).1
theorem ded_mem : ∀ (l : List Int), (dedup l).Nodup ∧ ∀ x, x ∈ dedup l ↔ x ∈ l := by
  have : ∀ v : List Int, (dedup v.reverse).Nodup ∧ ∀ x, x ∈ dedup v.reverse ↔ x ∈ v.reverse := by
    intro v
    induction v with
    | nil => exact ⟨.nil, fun x => Iff.rfl⟩
    | cons k v ih =>
      rw [List.reverse_cons, dnext]
      obtain ⟨h1, h2⟩ := ih
      by_cases hk : k ∈ dedup v.reverse
      · rw [if_pos hk]
        refine ⟨h1, fun x => ?_⟩
        rw [h2, List.mem_append, List.mem_singleton]
        exact ⟨.inl, fun z => z.elim id fun e => e ▸ (h2 k).mp hk⟩
      · rw [if_neg hk]
        refine ⟨?_, fun x => by rw [List.mem_append, List.mem_append, h2]⟩
        rw [List.nodup_append]
        exact ⟨h1, by simp, fun a ha b hb => by rw [List.mem_singleton.mp hb]; exact fun z => hk (z ▸ ha)⟩
  intro l
  have := this l.reverse
  rwa [List.reverse_reverse] at this
def lawOne (ks : List Nat) : Bool := decide ((dedup (ks.map fun (n : Nat) => (n : Int))).length = 1)
theorem lawOne_iff (ks : List Nat) : lawOne ks = true ↔ ∃ a, ks ≠ [] ∧ ∀ x ∈ ks, x = a := by
  unfold lawOne
  obtain ⟨h1, h2⟩ := ded_mem (ks.map fun (n : Nat) => (n : Int))
  rw [decide_eq_true_iff]
  constructor
  · intro h
    obtain ⟨a, ha⟩ := List.length_eq_one_iff.mp h
    have hm := (h2 a).mp (by rw [ha]; exact List.mem_singleton.mpr rfl)
    obtain ⟨b, hb, rfl⟩ := List.mem_map.mp hm
    refine ⟨b, fun z => (by rw [z] at hb; cases hb), fun x hx => ?_⟩
    have := (h2 (x : Int)).mpr (List.mem_map.mpr ⟨x, hx, rfl⟩)
    rw [ha] at this
    have := List.mem_singleton.mp this
    omega
  · rintro ⟨a, hne, hall⟩
    have hk : ∀ x ∈ dedup (ks.map fun (n : Nat) => (n : Int)), x = (a : Int) := fun x hx => by
      obtain ⟨b, hb, rfl⟩ := List.mem_map.mp ((h2 x).mp hx)
      rw [hall b hb]
    cases e : dedup (ks.map fun (n : Nat) => (n : Int)) with
    | nil =>
      cases ks with
      | nil => exact absurd rfl hne
      | cons y ks =>
        have := (h2 (y : Int)).mpr (List.mem_map.mpr ⟨y, List.mem_cons_self, rfl⟩)
        rw [e] at this
        cases this
    | cons x r =>
      cases r with
      | nil => rfl
      | cons y r =>
        rw [e] at h1 hk
        have e1 := hk x (by simp)
        have e2 := hk y (by simp)
        exact absurd (show x ∈ y :: r by rw [e1, e2]; exact List.mem_cons_self) (List.nodup_cons.mp h1).1
theorem one_law {q p : Qn} (h : q.Ok) (hs : IsSmall q p) {r : List Nat} (hrl : r.length = q.L) : one1 p r = lawOne (ansT q r) := by
  have rp := one_len (ans_rep h hs hrl)
  have rl := lawOne_iff (ansT q r)
  unfold one1
  rw [Bool.eq_iff_iff, decide_eq_true_iff]
  exact rp.trans rl.symm
/-! ### a question that commutes has one answer -/
theorem less_get {c : List Nat} {l : Nat} (h : l < c.length) (x : Nat) : (lessN c l).getD x 0 = if x = l then c.getD l 0 - 1 else c.getD x 0 := by
  have e : lessN c l = c.set l (c.getD l 0 - 1) := by
    unfold lessN
    rw [List.set_eq_take_append_cons_drop, if_pos h]
    simp
  rw [e, List.getD_eq_getElem?_getD, List.getElem?_set]
  by_cases hx : l = x
  · subst hx
    rw [if_pos rfl, if_pos rfl, if_pos h]; rfl
  · rw [if_neg hx, if_neg (fun z => hx z.symm), List.getD_eq_getElem?_getD]
theorem allT_count : ∀ (n : Nat) (c : List Nat), ∀ t ∈ allT n c, ∀ x, t.count x = c.getD x 0
  | 0, c, t, h => by simp [allT] at h
  | n + 1, c, t, h => by
    intro x
    unfold allT at h
    split at h
    · rename_i h0
      rw [List.mem_singleton.mp h, sum_zero h0]; rfl
    · rename_i h0
      obtain ⟨l, hl, ht⟩ := List.mem_flatMap.mp h
      have hl := List.mem_range.mp hl
      split at ht
      · rename_i hp
        obtain ⟨u, hu, rfl⟩ := List.mem_map.mp ht
        rw [List.count_append, allT_count n _ u hu x, less_get hl, List.count_singleton]
        by_cases e : x = l
        · subst e
          rw [if_pos rfl, if_pos (by simp)]; omega
        · rw [if_neg e, if_neg (by simpa using fun z => e z.symm)]; rfl
      · cases ht
theorem comm_swap {p : Qn} (h : p.Ok) (hc : comm p = true) {s a b : Nat} (hs : s < p.st.length) (ha : a < p.L) (hb : b < p.L) : p.d (p.d s a) b = p.d (p.d s b) a := by
  have key : ∀ {a b : Nat}, a < p.L → b < a → p.d (p.d s a) b = p.d (p.d s b) a := by
    intro a b ha hb
    unfold comm at hc
    have h1 := (List.all_eq_true.mp hc) p.st[s] (List.getElem_mem hs)
    unfold commR at h1
    have h2 := (List.all_eq_true.mp h1) a (List.mem_range.mpr ha)
    unfold comm1 at h2
    have h3 := (List.all_eq_true.mp h2) b (List.mem_range.mpr hb)
    have h3 := of_decide_eq_true h3
    have e : ∀ l, p.st[s].getD l 0 = p.d s l := fun l => by
      unfold Qn.d
      rw [show p.st.getD s [] = p.st[s] by rw [List.getD_eq_getElem?_getD, List.getElem?_eq_getElem hs]; rfl]
    rw [e, e] at h3
    exact h3
  rcases Nat.lt_trichotomy a b with z | z | z
  · exact (key hb z).symm
  · rw [z]
  · exact key ha z
theorem comm_perm {p : Qn} (h : p.Ok) (hc : comm p = true) {w v : List Nat} (hp : w.Perm v) : ∀ {s : Nat}, s < p.st.length → Wd p.L w → p.run s w = p.run s v := by
  induction hp with
  | nil => intro s _ _; rfl
  | cons x _ ih =>
    intro s hs hw
    exact ih (h.d_lt hs (hw x List.mem_cons_self)) fun y hy => hw y (List.mem_cons_of_mem _ hy)
  | swap x y l =>
    intro s hs hw
    show p.run (p.d (p.d s y) x) l = p.run (p.d (p.d s x) y) l
    rw [comm_swap h hc hs (hw y (by simp)) (hw x (by simp))]
  | trans h1 _ ih1 ih2 =>
    intro s hs hw
    exact (ih1 hs hw).trans (ih2 hs fun y hy => hw y (h1.mem_iff.mpr hy))
theorem comm_one {p : Qn} (h : p.Ok) (hc : comm p = true) {r : List Nat} (hrl : r.length = p.L) : one1 p r = true := by
  have rp : Rep (byAns p (ways p r)) ((endsT p (r.sum + 1) r).map fun s => p.o s) := by
    have r0 := Rep.more (fun s => p.o s) Rep.nil (ways_rep p r)
    rw [List.nil_append] at r0
    exact r0
  unfold one1
  rw [decide_eq_true_iff]
  refine (one_len rp).mpr ?_
  have hne : 0 < (allT (r.sum + 1) r).length := many_pos r
  cases e : allT (r.sum + 1) r with
  | nil => rw [e] at hne; cases hne
  | cons t ts =>
    refine ⟨p.o (p.run 0 t), ?_, fun x hx => ?_⟩
    · unfold endsT
      rw [e]
      simp
    · obtain ⟨s, hs, rfl⟩ := List.mem_map.mp hx
      unfold endsT at hs
      obtain ⟨u, hu, rfl⟩ := List.mem_map.mp hs
      have ht : t ∈ allT (r.sum + 1) r := by rw [e]; exact List.mem_cons_self
      have hp : u.Perm t := List.perm_iff_count.mpr fun x => by rw [allT_count _ _ u hu, allT_count _ _ t ht]
      rw [comm_perm h hc hp (by have := h.n1; omega) fun l hl => by have := (allT_wd _ _ u hu).1 l hl; omega]
theorem allT_fuel : ∀ (n m : Nat) (c : List Nat), c.sum < n → c.sum < m → allT n c = allT m c
  | 0, _, c, h, _ => by omega
  | _, 0, c, _, h => by omega
  | n + 1, m + 1, c, h1, h2 => by
    unfold allT
    by_cases h0 : c.sum = 0
    · rw [if_pos h0, if_pos h0]
    · rw [if_neg h0, if_neg h0]
      have : ∀ L : List Nat, (∀ l ∈ L, l < c.length) → (L.flatMap fun l => if 0 < c.getD l 0 then (allT n (lessN c l)).map (· ++ [l]) else []) = L.flatMap fun l => if 0 < c.getD l 0 then (allT m (lessN c l)).map (· ++ [l]) else [] := by
        intro L
        induction L with
        | nil => intro _; rfl
        | cons l L ih =>
          intro hL
          rw [List.flatMap_cons, List.flatMap_cons, ih fun x hx => hL x (List.mem_cons_of_mem _ hx)]
          congr 1
          by_cases hp : 0 < c.getD l 0
          · have := lessN_sum (hL l List.mem_cons_self) hp
            rw [if_pos hp, if_pos hp, allT_fuel n m (lessN c l) (by omega) (by omega)]
          · rw [if_neg hp, if_neg hp]
      exact this _ fun l hl => List.mem_range.mp hl
theorem sum_pairs {t : Tal} {ks : List Nat} (h : Rep t ks) : (t.map (·.2)).sum = ks.length := by
  have e := h.total (fun _ => 0) 0
  unfold P66.total at e
  have e1 : ((t.map fun p => ((fun _ => 0 : Nat → Nat) p.1, p.2)).filter fun p => decide (p.1 = 0)) = t.map fun p => (0, p.2) := by
    rw [List.filter_eq_self.mpr]
    intro a ha
    obtain ⟨b, _, rfl⟩ := List.mem_map.mp ha
    rfl
  rw [e1, List.map_map] at e
  have e2 : (ks.map fun _ => (0 : Nat)).count 0 = ks.length := by
    rw [List.count_eq_length.mpr, List.length_map]
    intro b hb
    obtain ⟨_, _, rfl⟩ := List.mem_map.mp hb
    rfl
  rw [e2] at e
  exact e
theorem sum_keys {t : Tal} (hn : (keysT t).Nodup) : ((keyI t).map fun i => cntOf t i.toNat).sum = (t.map (·.2)).sum := by
  unfold keyI
  rw [((sortI_perm _).map _).sum_nat]
  unfold keysT
  rw [List.map_map, List.map_map]
  congr 1
  exact List.map_congr_left fun p hp => by show cntOf t (p.1 : Int).toNat = p.2; rw [Int.toNat_natCast, cnt_of hn hp]
end P66
namespace P66
open PySem PySem.Spec PyProof.Rows L2 AB SM
/-! ### the rows of small counts -/
def rowOf (L n : Nat) : List Nat := [n / 9, n / 3 % 3, n % 3].drop (3 - L)
def leM (m : Nat) (r : List Nat) : Bool := decide (maxI (r.map fun (n : Nat) => (n : Int)) ≤ (m : Int))
def inL (L n : Nat) : Bool := decide (L = 3) || decide (n < [3, 9].getD (L - 1) 0)
def rows27 (L i : Nat) : List (List Nat) := (((List.range 27).take i).filter (inL L)).map (rowOf L)
theorem rows27_eq {L m : Nat} (h1 : 1 ≤ L) (h3 : L ≤ 3) (hm : m ≤ 2) : (rows27 L 27).filter (leM m) = rowsU (List.replicate L m) := by
  obtain rfl | rfl | rfl : L = 1 ∨ L = 2 ∨ L = 3 := by omega
  all_goals
    obtain rfl | rfl | rfl : m = 0 ∨ m = 1 ∨ m = 2 := by omega
    all_goals decide +kernel
theorem rows27_new {L n : Nat} (h1 : 1 ≤ L) (h3 : L ≤ 3) (hn : n < 27) (hl : inL L n = true) : rowOf L n ∉ rows27 L n := by
  have : ∀ L, L < 4 → 1 ≤ L → ∀ n, n < 27 → (!(inL L n) || !(rows27 L n).contains (rowOf L n)) = true := by decide +kernel
  have h := this L (by omega) h1 n hn
  rw [hl] at h
  intro z
  rw [List.contains_iff_mem.mpr z] at h
  cases h
theorem rows27_up {L m : Nat} (h1 : 1 ≤ L) (h3 : L ≤ 3) (hm : m ≤ 2) : SX.Up ((rowsU (List.replicate L m)).map fun r => r.map fun (n : Nat) => (n : Int)) := by
  have : ∀ L, L < 4 → 1 ≤ L → ∀ m, m < 3 → ((rowsU (List.replicate L m)).map fun r => r.map fun (n : Nat) => (n : Int)).Pairwise (fun a b => SX.ltL b a = false) := by decide +kernel
  exact this L (by omega) h1 m (by omega)
theorem rowOf_ok {L n : Nat} (h1 : 1 ≤ L) (h3 : L ≤ 3) (hn : n < 27) : (rowOf L n).length = L ∧ (rowOf L n).sum ≤ 6 := by
  have : ∀ L, L < 4 → 1 ≤ L → ∀ n, n < 27 → (rowOf L n).length = L ∧ (rowOf L n).sum ≤ 6 := by decide +kernel
  exact this L (by omega) h1 n hn
theorem rowsU_two {L : Nat} (h1 : 1 ≤ L) (h3 : L ≤ 3) : (rowsU (List.replicate L 2)).length = [3, 9, 27].getD (L - 1) 0 := by
  obtain rfl | rfl | rfl : L = 1 ∨ L = 2 ∨ L = 3 := by omega
  all_goals decide +kernel
def sureN (q : Qn) (m i : Nat) : List (List Nat) := ((rows27 q.L i).filter (leM m)).filter fun r => lawOne (ansT q r)
theorem sure_step (q : Qn) (m : Nat) {i : Nat} (hi : i < 27) : sureN q m (i + 1) = sureN q m i ++ (if inL q.L i = true ∧ leM m (rowOf q.L i) = true ∧ lawOne (ansT q (rowOf q.L i)) = true then [rowOf q.L i] else []) := by
  unfold sureN rows27
  have e : (List.range 27).take (i + 1) = (List.range 27).take i ++ [i] := by rw [List.take_add_one, List.getElem?_range hi]; rfl
  rw [e, List.filter_append, List.map_append, List.filter_append, List.filter_append]
  congr 1
  cases h1 : inL q.L i with
  | false =>
    rw [List.filter_cons_of_neg (by rw [h1]; decide), if_neg (by simp)]; rfl
  | true =>
    rw [List.filter_cons_of_pos h1]
    show List.filter _ (List.filter (leM m) [rowOf q.L i]) = _
    cases h2 : leM m (rowOf q.L i) with
    | false => rw [List.filter_cons_of_neg (by rw [h2]; decide), if_neg (by simp)]; rfl
    | true =>
      rw [List.filter_cons_of_pos h2]
      show List.filter _ [rowOf q.L i] = _
      cases h3 : lawOne (ansT q (rowOf q.L i)) with
      | false => rw [List.filter_cons_of_neg (p := fun r => lawOne (ansT q r)) (by show ¬ lawOne (ansT q (rowOf q.L i)) = true; rw [h3]; decide), if_neg (by simp)]; rfl
      | true => rw [List.filter_cons_of_pos (p := fun r => lawOne (ansT q r)) h3, if_pos (by simp)]; rfl
theorem sure_eq {q p : Qn} (h : q.Ok) (hs : IsSmall q p) {m : Nat} (hm : m ≤ 2) : sureN q m 27 = sureR p m := by
  unfold sureN sureR
  have hL := (hs.ok h).2.2
  rw [rows27_eq h.l1 h.l3 hm, hL]
  refine List.filter_congr fun r hr => ?_
  have hrl := rows_len _ r hr
  rw [List.length_replicate] at hrl
  exact (one_law h hs hrl).symm
theorem sure_sorted {q : Qn} (h : q.Ok) {m : Nat} (hm : m ≤ 2) : SX.sortL ((sureN q m 27).map fun r => r.map fun (n : Nat) => (n : Int)) = (sureN q m 27).map fun r => r.map fun (n : Nat) => (n : Int) := by
  refine SX.up_unique (SX.sortL_up _) ?_ (SX.sortL_perm _)
  unfold sureN
  rw [rows27_eq h.l1 h.l3 hm]
  unfold SX.Up
  have u := rows27_up h.l1 h.l3 hm
  unfold SX.Up at u
  rw [List.pairwise_map] at u ⊢
  exact u.filter _
theorem sure_nonempty {q : Qn} (h : q.Ok) {m : Nat} (hm : m ≤ 2) : ∀ r ∈ sureN q m 27, r ≠ [] := by
  intro r hr
  unfold sureN at hr
  rw [rows27_eq h.l1 h.l3 hm] at hr
  have hl := rows_len _ r (List.mem_filter.mp hr).1
  rw [List.length_replicate] at hl
  have := h.l1
  intro z
  rw [z] at hl
  simp at hl
  omega
theorem tups_rows : ∀ {F : List (List Nat)}, (∀ x ∈ F, x ≠ []) → tups? (F.map tI) = some (F.map fun r => r.map fun (n : Nat) => (n : Int))
  | [], _ => rfl
  | x :: F, h => by
    have ih := tups_rows (F := F) fun y hy => h y (by simp [hy])
    have hx := h x (by simp)
    cases x with
    | nil => exact absurd rfl hx
    | cons a x =>
      show (match ints? ((a :: x).map nI), tups? (F.map tI) with
        | some (i :: is), some q => some ((i :: is) :: q)
        | _, _ => none) = _
      rw [ints_nat, ih]
      rfl
theorem sort_sure {q : Qn} (h : q.Ok) {m : Nat} (hm : m ≤ 2) {M : Store} {l : Nat} (hl : M[l]? = some (.lst ((sureN q m 27).map tI))) : oSortM [.lst l] M = some (.lst M.length, M ++ [.lst ((sureN q m 27).map tI)]) := by
  unfold oSortM
  dsimp only
  rw [listAt_of hl]
  dsimp only
  rw [tups_rows (sure_nonempty h hm)]
  dsimp only
  rw [sure_sorted h hm, List.map_map]
  have e : (sureN q m 27).map (tupI ∘ fun (r : List Nat) => r.map fun (n : Nat) => (n : Int)) = (sureN q m 27).map tI := List.map_congr_left fun (r : List Nat) _ => by
    show A.tup ((r.map fun (n : Nat) => (n : Int)).map A.int) = A.tup (r.map nI)
    rw [List.map_map]; rfl
  rw [e]
/-! ### ops -/
theorem datS_row {M : Store} {r : List Nat} : datS M (tI r) = some (.tuple (r.map dI)) := by
  have := datS_c (M := M) (o := some r)
  exact this
theorem datS_rows {M : Store} {l : Nat} {F : List (List Nat)} (h : listAt M l = some (F.map tI)) : datS M (.lst l) = some (.list (F.map fun r => .tuple (r.map dI))) := by
  have e : dat M 8 (.lst l) = some (.list (F.map fun r => .tuple (r.map dI))) := by
    show ((listAt M l).bind fun xs => (xs.mapM (dat M 7)).map PyData.list) = _
    rw [h]
    show ((F.map tI).mapM (dat M 7)).map PyData.list = _
    rw [mapM_rows M 6]
    rfl
  unfold datS
  rw [e]
  dsimp only
  rw [if_pos]
  unfold SeqAt.shaped
  have := depth_rows F
  simp [PyData.canLay0, lay_rows, PyData.depth]
  omega
theorem notin_rows {M : Store} {l : Nat} {F : List (List Nat)} {r : List Nat} (h : M[l]? = some (.lst (F.map tI))) : oNotIn (tI r) (.lst l) M = some (.bl (!decide (r ∈ F)), M) := by
  have e : oIn (tI r) (.lst l) M = some (.bl (decide (r ∈ F)), M) := by
    unfold oIn
    dsimp only
    rw [listAt_of h]
    dsimp only
    rw [show flat? (tI r) = none from rfl]
    dsimp only
    rw [datS_row, datS_rows (listAt_of h)]
    dsimp only
    have : ∀ F : List (List Nat), ((F.map fun r => PyData.tuple (r.map dI)).any fun z => PyData.eqv z (.tuple (r.map dI))) = decide (r ∈ F) := by
      intro F
      induction F with
      | nil => rfl
      | cons t F ih =>
        rw [List.map_cons, List.any_cons, ih]
        have e1 : PyData.eqv (.tuple (t.map dI)) (.tuple (r.map dI)) = decide (t = r) := by
          have := eqv_c (some t) (some r)
          rw [show cD (some t) = .tuple (t.map dI) from rfl, show cD (some r) = .tuple (r.map dI) from rfl] at this
          rw [this]
          simp
        rw [e1]
        by_cases z : t = r
        · simp [z]
        · have z2 : ¬ r = t := fun q => z q.symm
          simp [z, z2]
    rw [this]
  unfold oNotIn notO
  rw [e]
theorem fdiv_nat {M : Store} {a n : Nat} (h1 : 1 ≤ n) (h2 : n ≤ 1000) : oFdiv (nI a) (nI n) M = some (nI (a / n), M) := fdiv_ok h1 h2
theorem sl_lst {M : Store} {l s : Nat} {xs : List A} (hl : M[l]? = some (.lst xs)) (h : s ≤ xs.length) : oSl (.lst l) (some (s : Int)) none M = some (.lst M.length, M ++ [.lst (xs.drop s)]) := by
  unfold oSl
  dsimp only
  rw [listAt_of hl]
  show some (A.lst M.length, M ++ [Cell.lst (cutA xs (some (s : Int)) none)]) = _
  rw [cutA_drop h]
theorem max_row {M : Store} {r : List Nat} (h : r ≠ []) : oMaxI [tI r] M = some (.int (maxI (r.map fun (n : Nat) => (n : Int))), M) := by
  unfold oMaxI seqI
  dsimp only
  rw [ints_nat]
  cases r with
  | nil => exact absurd rfl h
  | cons x r => rfl
theorem mul_natB {M : Store} {a b : Nat} (h : b < 1000000) : oMul (nI a) (nI b) M = some (nI (a * b), M) := by
  unfold oMul
  dsimp only
  rw [if_pos (.inr (by omega))]
  simp
/-! ### the law's own tally -/
def tT (q : Qn) (ts : List (List Nat)) : Tal := tally [] (ts.map fun t => (q.o (q.run 0 t), 1))
theorem tT_rep (q : Qn) (ts : List (List Nat)) : Rep (tT q ts) (ts.map fun t => q.o (q.run 0 t)) := by
  have : ∀ (ts : List (List Nat)) (kv : Tal) (ks : List Nat), Rep kv ks → Rep (tally kv (ts.map fun t => (q.o (q.run 0 t), 1))) (ks ++ ts.map fun t => q.o (q.run 0 t)) := by
    intro ts
    induction ts with
    | nil => intro kv ks h; simpa [tally] using h
    | cons t ts ih =>
      intro kv ks h
      have h2 : Rep (addT kv (q.o (q.run 0 t)) 1) (ks ++ [q.o (q.run 0 t)]) := by
        refine ⟨add_nd h.nd _ _, fun k => ?_, fun k => ?_⟩
        · rw [add_cnt, h.cnt, h.cnt, List.count_append, List.count_singleton]
          by_cases e : k = q.o (q.run 0 t)
          · rw [if_pos e, if_pos (by simp [e]), e]
          · rw [if_neg e, if_neg (by simpa using fun z => e z.symm)]; rfl
        · rw [add_mem, h.mem, List.mem_append, List.mem_singleton]
      have := ih _ _ h2
      rw [List.append_assoc] at this
      exact this
  have h := this ts [] [] Rep.nil
  rw [List.nil_append] at h
  exact h
theorem tT_snoc (q : Qn) (ts : List (List Nat)) (t : List Nat) : tT q (ts ++ [t]) = addT (tT q ts) (q.o (q.run 0 t)) 1 := by
  unfold tT tally
  rw [List.map_append, List.foldl_append]
  rfl
end P66
namespace P66
open PySem PySem.Spec PyProof.Rows L2 AB SM
def scr (ns : List Int) : Store := [.frz (ns.map .int)]
theorem small_ex {q : Qn} (hq : q.Ok) : ∃ p, IsSmall q p := by
  obtain ⟨a, M, _, p, hp, _⟩ := (least_of_ok hq (M := [])).out
  exact ⟨p, hp⟩
theorem ans_wd {q : Qn} (h : q.Ok) {c : List Nat} (hcl : c.length = q.L) : ∀ w ∈ allT (c.sum + 1) c, Wd q.L w ∧ q.run 0 w < q.st.length ∧ q.o (q.run 0 w) < 4 := by
  intro w hw
  have hwd : Wd q.L w := fun l hl => by have := (allT_wd _ _ w hw).1 l hl; omega
  have hs := h.run_lt w (s := 0) (by have := h.n1; omega) hwd
  refine ⟨hwd, hs, ?_⟩
  have := h.an
  unfold Qn.o
  rw [List.getD_eq_getElem?_getD, List.getElem?_eq_getElem (by omega)]
  have := h.a3 _ (List.getElem_mem (l := q.an) (n := q.run 0 w) (by omega))
  show q.an[q.run 0 w] < 4
  omega
theorem len_KC {M : Store} {d : Nat} {kv : Tal} (h : M[d]? = some (KC kv)) : oLenN [.dct d] M = some (nI kv.length, M) := by
  have h : M[d]? = some (.dK (kv.map fun p => (kN p.1, nI p.2))) := h
  unfold oLenN
  dsimp only
  rw [h]
  dsimp only
  unfold oLen
  dsimp only
  rw [h]
  show some (A.int ((kv.map fun p => (kN p.1, nI p.2)).length : Nat), M) = _
  rw [List.length_map]
theorem lensetX {M : Store} {l : Nat} {ks : List Nat} (h : M[l]? = some (.lst (ks.map nI))) (hz : ks.length ≤ 4000) : oLenSetX (.lst l) M = some (nI (dedup (ks.map fun (n : Nat) => (n : Int))).length, M) := by
  unfold oLenSetX
  dsimp only
  rw [listAt_of h]
  dsimp only
  rw [ints_nat]
  dsimp only
  rw [if_pos (by rw [List.length_map]; exact hz)]
theorem law_ok (ns : List Int) : (F_law [.lst 0] (scr ns)).W fun a _ => a = .bl true := by
  refine w_def ?_
  unfold S_law
  repeat walk_at "wt"
  refine ⟨by simp [sizeLine_eq], ?_⟩
  have hr0 : RowOk (scr ns ++ [.lst [.lst 0, .int 0, .int 11206, .int 0]]) := ⟨ns, 0, 11206, 0, ⟨rfl, rfl⟩, by omega, by omega, by omega⟩
  rw [show (A.lst (scr ns).length) = .lst 1 from rfl]
  revert hr0
  generalize scr ns ++ [Cell.lst [.lst 0, .int 0, .int 11206, .int 0]] = M0
  intro hr0
  repeat walk_at "wt"
  refine ⟨rfl, (taken_ok (n := 3) hr0 (by omega) (by omega)).imp ?_⟩
  rintro _ M1 ⟨k, hk, rfl, _, r1⟩
  refine w_toE (add_nat (a := 1)) ?_
  have hL1 : 1 ≤ 1 + k := by omega
  have hL3 : 1 + k ≤ 3 := by omega
  generalize 1 + k = L at hL1 hL3
  clear hr0 hk
  repeat walk_at "wt"
  refine ⟨rfl, (law_question_ok r1 hL1 hL3 (m := 4) (by omega) (by omega)).imp ?_⟩
  rintro _ M2 ⟨q1, hq1, hqL1, rfl, f2, r2⟩
  repeat walk_at "wt"
  refine ⟨rfl, (law_counting_ok r2 hL1 hL3).imp ?_⟩
  rintro _ M3 ⟨q2, hq2, hqL2, rfl, f3, r3⟩
  repeat walk_at "wt"
  refine ⟨by simp [sizeLine_eq], ?_⟩
  repeat walk_at "wt"
  refine ⟨rfl, (pick_ok (r3.app _) (at_new (M := M3)) r3.lt (by simp) (by simp)).imp ?_⟩
  rintro qa M4 ⟨hqa, f4, r4⟩
  obtain ⟨q, hq, hqL, rfl⟩ : ∃ q : Qn, q.Ok ∧ q.L = L ∧ qa = q.A := by
    rcases List.mem_cons.mp hqa with rfl | hqa
    · exact ⟨q1, hq1, hqL1, rfl⟩
    · rw [List.mem_singleton.mp hqa]
      exact ⟨q2, hq2, hqL2, rfl⟩
  clear hq1 hqL1 hq2 hqL2 hqa r1 r2 r3 f2 f3 f4
  repeat walk_at "wt"
  refine ⟨by simp [sizeLine_eq], _, rfl, ?_⟩
  have hlf : 1 < M4.length := r4.lt
  have hf5 : (M4 ++ [Cell.dK []])[M4.length]? = some (KC []) := at_new
  have r5 : RowOk (M4 ++ [Cell.dK []]) := r4.app _
  revert hf5 r5
  generalize (M4 ++ [Cell.dK []]) = M5
  generalize M4.length = lf at hlf
  intro hf5 r5
  clear r4
  repeat walk_at "wt"
  refine lc_draw (fun y => ∃ x : Nat, x < 4 ∧ y = nI x) (w_rng1 ?_)
  repeat walk_at "wt"
  refine ⟨L, rfl, by omega, (List.range L).map nI, by simp [Src.size], by rw [rng_len, sizeLine_eq]; omega, fun _ _ _ => rng_at, r5, fun x M6 hx f6 r6 => ⟨_, rfl, ?_⟩, fun l M6 ys hl f6 r6 h6 hys hP => ?_⟩
  · repeat walk_at "wt"
    exact ⟨rfl, (taken_ok (n := 4) r6 (by omega) (by omega)).imp fun a M7 ⟨x, hx, e, f, r⟩ => ⟨⟨x, hx, e⟩, f, r⟩⟩
  obtain ⟨c, rfl, hc⟩ := all_of (f := nI) ys hP
  rw [List.length_map, rng_len] at hys
  have hf6 : M6[lf]? = some (KC []) := f6.at hf5 (by simp; omega)
  repeat walk_at "wt"
  refine w_toE (tuple_lst (listAt_of h6)) ?_
  have hc3 : ∀ x ∈ c, x ≤ 3 := fun x hx => by have := hc x hx; omega
  have hc20 : ∀ x ∈ c, x ≤ 20 := fun x hx => by have := hc x hx; omega
  have hsum9 : c.sum ≤ 9 := by
    have : ∀ c : List Nat, (∀ x ∈ c, x ≤ 3) → c.sum ≤ 3 * c.length := by
      intro c
      induction c with
      | nil => intro _; simp
      | cons x c ih =>
        intro h
        have := ih fun y hy => h y (List.mem_cons_of_mem _ hy)
        have := h x List.mem_cons_self
        rw [List.sum_cons, List.length_cons]
        omega
    have := this c hc3
    omega
  have hcl : c.length = q.L := by omega
  clear f6 h6 hP hf5 r5
  repeat walk_at "wt"
  refine w_for (w_iSeqL ?_)
  repeat walk_at "wt"
  refine ⟨rfl, (law_all_ok 12 c M6 (by omega) (by omega) (by omega) hsum9).imp ?_⟩
  rintro _ M7 ⟨lt, rfl, hlt, h7, p7⟩
  rw [allT_fuel 12 (c.sum + 1) c (by omega) (by omega)] at h7
  have hwd := ans_wd hq hcl
  have htl := allT_len (c.sum + 1) c (by omega)
  have hpow : c.length ^ c.sum ≤ 19683 := Nat.le_trans (Nat.pow_le_pow_left (show c.length ≤ 3 by omega) _) (Nat.le_trans (Nat.pow_le_pow_right (n := 3) (by decide) hsum9) (by decide))
  have hans : ansT q c = (allT (c.sum + 1) c).map fun w => q.o (q.run 0 w) := rfl
  have hlf6 := at_lt hf6
  have r7 : RowOk M7 := r6.pre p7
  have hf7 : M7[lf]? = some (KC []) := p7.at hf6
  revert hans
  generalize allT (c.sum + 1) c = ts at *
  intro hans
  refine ⟨lt, _, rfl, listAt_of h7, ts.map tI, fun i τ M' => (∃ y4 y11 : Option A, τ = [some (.lst 0), some (.lst 1), some (nI L), some (tI c), y4, none, none, none, none, some q.A, some (.dct lf), y11, none, none, none, none, none, none, none, none, none]) ∧ M'[lf]? = some (KC (tT q (ts.take i))) ∧ M'[lt]? = some (.lst (ts.map tI)) ∧ RowOk M', ?_, ⟨⟨_, _, rfl⟩, hf7, h7, r7⟩, fun i τ M' h => dyn_at h.2.2.1 Fr.refl i, ?_, ?_⟩
  · rw [dyn_size h7]
  · rintro i x τ M8 hx ⟨⟨y4, y11, rfl⟩, g1, g2, g3⟩
    rw [List.getElem?_map] at hx
    obtain ⟨t, ht, rfl⟩ := Option.map_eq_some_iff.mp hx
    obtain ⟨w1, w2, w3⟩ := hwd t (List.mem_of_getElem? ht)
    have hi := (List.getElem?_eq_some_iff.mp ht).1
    refine ⟨_, rfl, ?_⟩
    repeat walk_at "wt"
    refine w_toE ixQ2 ?_
    repeat walk_at "wt"
    refine ⟨rfl, (law_state_ok hq w1).imp ?_⟩
    rintro _ _ ⟨rfl, rfl⟩
    refine w_toE (ixO hq w2) ?_
    repeat walk_at "wt"
    obtain ⟨o, o1, o2⟩ := get_KC g1 (q.o (q.run 0 t))
    refine ⟨lf, rfl, by unfold isDk; rw [g1]; rfl, ?_⟩
    repeat walk_at "wt"
    refine ⟨o, o1, ?_⟩
    rw [o2]
    repeat walk_at "wt"
    refine w_toE (add_nat (b := 1)) ?_
    repeat walk_at "wt"
    have hlen := tally_len ((ts.take i).map fun t => (q.o (q.run 0 t), 1)) []
    rw [List.length_map, List.length_take, List.length_nil] at hlen
    refine ⟨lf, _, rfl, put_KC g1 (q.o (q.run 0 t)) 1 (by unfold tT; omega), ?_⟩
    repeat walk_at "wt"
    have et : ts.take (i + 1) = ts.take i ++ [t] := by rw [List.take_add_one, ht]; rfl
    refine ⟨⟨_, _, rfl⟩, by rw [et, tT_snoc]; exact at_set g1, at_ne (by omega) g2, g3.set (by omega)⟩
  rintro τ M8 ⟨⟨y4, y11, rfl⟩, g1, g2, r8⟩
  rw [List.length_map, List.take_length] at g1
  have hfd := tT_rep q ts
  rw [← hans] at hfd
  generalize tT q ts = fd at g1 hfd
  clear g2 h7 hf7 r7 p7 hlt
  have hfd4 : fd.length ≤ 4 := by
    have h1 := nodup_lt 4 (keysT fd) hfd.nd fun k hk => by
      have hk := (hfd.mem k).mp hk
      rw [hans] at hk
      obtain ⟨w, hw, rfl⟩ := List.mem_map.mp hk
      exact (hwd w hw).2.2
    unfold keysT at h1
    rw [List.length_map] at h1
    exact h1
  have g1' : M8[lf]? = some (.dK (fd.map fun p => (kN p.1, nI p.2))) := g1
  have hks : (fd.map fun p => (kN p.1, nI p.2)).map (·.1) = ((keysT fd).map fun (n : Nat) => (n : Int)).map Sum.inl := by
    unfold keysT
    rw [List.map_map, List.map_map, List.map_map]; rfl
  have hk64 : ((keysT fd).map fun (n : Nat) => (n : Int)).length < 64 := by
    unfold keysT
    rw [List.length_map, List.length_map]; omega
  repeat walk_at "wt"
  refine w_lc_map (fun a => match a with
    | .int i => .tup [.int i, nI (cntOf fd i.toNat)]
    | _ => .non) (w_iSeqL (w_sortKeys (w_var (a := .dct lf) rfl ⟨lf, _, _, rfl, g1', hks, hk64, ?_⟩)))
  have hk9 : (M8 ++ [Cell.lst ((keyI fd).map A.int)])[M8.length]? = some (.lst ((keyI fd).map A.int)) := at_new
  refine ⟨_, _, rfl, listAt_of hk9, (keyI fd).map A.int, by show (Src.dyn M8.length).size (M8 ++ [Cell.lst ((keyI fd).map A.int)]) = _; rw [dyn_size hk9], by rw [List.length_map, key_len, sizeLine_eq]; omega, fun M2 p2 i => dyn_at hk9 p2 i, fun x M2 hx p2 => ?_, fun l2 M2 hl2 p2 h2 => ?_⟩
  · obtain ⟨i, hi, rfl⟩ := List.mem_map.mp hx
    refine ⟨_, rfl, ?_⟩
    have hik : i.toNat ∈ keysT fd ∧ i = (i.toNat : Int) := by
      unfold keyI at hi
      obtain ⟨n, hn, rfl⟩ := List.mem_map.mp ((sortI_perm _).mem_iff.mp hi)
      exact ⟨by simpa using hn, by simp⟩
    have hg2 : M2[lf]? = some (KC fd) := p2.at (at_app g1)
    repeat walk_at "wt"
    have hd := dget_KC hg2 hik.1
    rw [show nI i.toNat = A.int i by rw [hik.2]; simp] at hd
    refine w_toE hd ?_
    repeat walk_at "wt"
    exact ⟨by simp [sizeLine_eq], rfl, Fr.refl⟩
  have p9 : Pre M8 M2 := (Fr.refl.app _).trans p2
  have hdue : ((keyI fd).map A.int).map (fun a => match a with
    | .int i => A.tup [.int i, nI (cntOf fd i.toNat)]
    | _ => .non) = dueT fd := by rw [List.map_map]; rfl
  rw [hdue] at h2
  have r9 := r8.pre p9
  have g9 := p9.at g1
  clear hl2 p2 hk9
  repeat walk_at "wt"
  refine w_toE (tuple_lst (listAt_of h2)) ?_
  repeat walk_at "wt"
  refine ⟨rfl, (arrangements_ok hq hcl hc20).imp ?_⟩
  rintro _ M10 ⟨t1, rfl, ht1, p10⟩
  repeat walk_at "wt"
  refine ⟨rfl, (possible_ok hq hcl hc20).imp ?_⟩
  rintro _ M11 ⟨t2, rfl, ht2, p11⟩
  repeat walk_at "wt"
  refine ⟨rfl, (is_sure_ok hq hcl hc20).imp ?_⟩
  rintro _ M12 ⟨t3, rfl, ht3, p12⟩
  have e1 : canonT t1 = dueT fd := (ht1.canon hfd).trans (due_eq hfd.nd)
  have e2 : keyI t2 = keyI fd := by
    unfold keyI keysT
    refine sortI_uniq ?_ (sortI_up _)
    exact (sortI_perm _).trans (((ht2.perm hfd).map _).map _)
  have e3 : t3.length = fd.length := (ht3.perm hfd).length_eq
  rw [e1, e2, e3]
  have g12 : M12[lf]? = some (KC fd) := Pre.at ((p10.trans p11).trans p12) g9
  have r12 := r9.pre ((p10.trans p11).trans p12)
  repeat walk_at "wt"
  refine ⟨by simp [sizeLine_eq], ?_⟩
  repeat walk_at "wt"
  refine w_sortKeys (w_var (a := .dct lf) rfl ⟨lf, _, _, rfl, at_app (show M12[lf]? = some (.dK (fd.map fun p => (kN p.1, nI p.2))) from g12), hks, hk64, ?_⟩)
  repeat walk_at "wt"
  refine w_toE (tuple_lst (listAt_of (at_new (c := .lst ((keyI fd).map A.int))))) ?_
  repeat walk_at "wt"
  have glf : (M12 ++ [Cell.lst [.tup (dueT fd), .tup ((keyI fd).map A.int), .bl (decide (fd.length = 1))]] ++ [Cell.lst ((keyI fd).map A.int)])[lf]? = some (KC fd) := at_app (at_app g12)
  refine w_toE (len_KC glf) ?_
  repeat walk_at "wt"
  refine w_toE (eq_nat (b := 1)) ?_
  repeat walk_at "wt"
  refine ⟨by simp [sizeLine_eq], ?_⟩
  repeat walk_at "wt"
  have hd4 : (dueT fd).length ≤ zmax := by unfold dueT; rw [List.length_map, key_len, zmax_eq]; omega
  have hk4 : ((keyI fd).map A.int).length ≤ zmax := by rw [List.length_map, key_len, zmax_eq]; omega
  refine ⟨rfl, (alike_lst (n := 5) (listAt_of (at_app (at_app at_new))) (listAt_of at_new) (by rw [zmax_eq]; simp) fun x hx Mx => ?_).imp ?_⟩
  · simp only [List.mem_cons, List.not_mem_nil, or_false] at hx
    rcases hx with rfl | rfl | rfl
    · refine alike_tup hd4 fun y hy My => ?_
      unfold dueT at hy
      obtain ⟨i, _, rfl⟩ := List.mem_map.mp hy
      refine alike_tup (by rw [zmax_eq]; simp) fun z hz Mz => ?_
      simp only [List.mem_cons, List.not_mem_nil, or_false] at hz
      rcases hz with rfl | rfl
      · exact alike_int
      · exact alike_int
    · refine alike_tup hk4 fun y hy My => ?_
      obtain ⟨i, _, rfl⟩ := List.mem_map.mp hy
      exact alike_int
    · exact alike_bl
  rintro _ M13 ⟨rfl, p13⟩
  refine ⟨true, rfl, ?_⟩
  rw [if_neg (by decide)]
  have r13 : RowOk M13 := RowOk.pre (((r12.app _).app _).app _) p13
  clear p13 glf
  repeat walk_at "wt"
  refine ⟨rfl, (taken_ok (n := 3) r13 (by omega) (by omega)).imp ?_⟩
  rintro _ M14 ⟨m, hm, rfl, _, r14⟩
  repeat walk_at "wt"
  refine ⟨by simp [sizeLine_eq], ?_⟩
  repeat walk_at "wt"
  refine ⟨_, _, rfl, ?_⟩
  refine w_seq (w_for (w_rng1 ?_))
  repeat walk_at "wt"
  refine ⟨27, rfl, by omega, (List.range 27).map nI, fun i τ M' => (∃ (ls : Nat) (y4 y7 y14 y19 : Option A), τ = [some (.lst 0), some (.lst 1), some (nI L), some (tI c), y4, some (.tup (dueT fd)), some (.lst M12.length), y7, none, some q.A, some (.dct lf), y11, some (nI m), some (.lst ls), y14, none, none, none, none, y19, none] ∧ 1 < ls ∧ M'[ls]? = some (.lst ((sureN q m i).map tI))) ∧ RowOk M', by simp [Src.size], ⟨⟨_, _, _, _, _, rfl, r14.lt, at_new⟩, r14.app _⟩, fun i τ M' h => rng_at, ?_, ?_⟩
  · rintro i x τ M15 hx ⟨⟨ls, z4, z7, z14, z19, rfl, hls, hs⟩, r15⟩
    obtain ⟨hi, rfl⟩ := rng_get hx
    refine ⟨_, rfl, ?_⟩
    obtain ⟨hrl, hrs⟩ := rowOf_ok hL1 hL3 hi
    repeat walk_at "wt"
    refine w_sl ?_
    repeat walk_at "wt"
    refine w_toE (fdiv_nat (a := i) (n := 9) (by omega) (by omega)) ?_
    repeat walk_at "wt"
    refine w_toE (fdiv_nat (a := i) (n := 3) (by omega) (by omega)) ?_
    repeat walk_at "wt"
    refine w_toE (show oInt1 [nI (i / 3)] M15 = some (nI (i / 3), M15) from rfl) ?_
    repeat walk_at "wt"
    refine w_toE (modn_ok (n := 3) (by omega)) ?_
    repeat walk_at "wt"
    refine w_toE (show oInt1 [nI i] M15 = some (nI i, M15) from rfl) ?_
    repeat walk_at "wt"
    refine w_toE (modn_ok (n := 3) (by omega)) ?_
    repeat walk_at "wt"
    refine ⟨by simp [sizeLine_eq], ?_⟩
    refine w_part ?_
    repeat walk_at "wt"
    refine w_toE (a := nI (3 - L)) (M' := M15 ++ [.lst [nI (i / 9), nI (i / 3 % 3), nI (i % 3)]]) (by
      show some (A.int ((3 : Int) - (L : Int)), _) = some (A.int ((3 - L : Nat) : Int), _)
      rw [show ((3 : Int) - (L : Int)) = ((3 - L : Nat) : Int) by omega]) ?_
    refine ⟨_, rfl, w_noPart ?_⟩
    refine w_toE (sl_lst (s := 3 - L) at_new (by simp)) ?_
    repeat walk_at "wt"
    refine w_toE (tuple_lst (listAt_of at_new)) ?_
    have erow : A.tup (([nI (i / 9), nI (i / 3 % 3), nI (i % 3)]).drop (3 - L)) = tI (rowOf L i) := by
      unfold rowOf tI
      rw [List.map_drop]; rfl
    rw [erow]
    have hs16 : (M15 ++ [Cell.lst [nI (i / 9), nI (i / 3 % 3), nI (i % 3)]] ++ [Cell.lst ([nI (i / 9), nI (i / 3 % 3), nI (i % 3)].drop (3 - L))])[ls]? = some (.lst ((sureN q m i).map tI)) := at_app (at_app hs)
    have r16 : RowOk (M15 ++ [Cell.lst [nI (i / 9), nI (i / 3 % 3), nI (i % 3)]] ++ [Cell.lst ([nI (i / 9), nI (i / 3 % 3), nI (i % 3)].drop (3 - L))]) := (r15.app _).app _
    generalize (M15 ++ [Cell.lst [nI (i / 9), nI (i / 3 % 3), nI (i % 3)]] ++ [Cell.lst ([nI (i / 9), nI (i / 3 % 3), nI (i % 3)].drop (3 - L))]) = M16 at hs16 r16
    clear r15 hs erow
    have hst := sure_step q m hi
    rw [hqL] at hst
    have hstay : ¬ (inL L i = true ∧ leM m (rowOf L i) = true ∧ lawOne (ansT q (rowOf L i)) = true) → sureN q m (i + 1) = sureN q m i := fun h => by rw [hst, if_neg h, List.append_nil]
    have hrne : rowOf L i ≠ [] := fun z => by rw [z] at hrl; simp at hrl; omega
    repeat walk_at "wt"
    refine w_toE (max_row hrne) ?_
    repeat walk_at "wt"
    refine w_toE (a := .bl (leM m (rowOf L i))) (M' := M16) rfl ⟨_, rfl, ?_⟩
    cases hle : leM m (rowOf L i) with
    | false =>
      rw [if_neg (by decide), if_neg (by decide)]
      repeat walk_at "wt"
      exact ⟨⟨ls, _, _, _, _, rfl, hls, by rw [hstay (by rw [hle]; simp)]; exact hs16⟩, r16⟩
    | true =>
      rw [if_pos rfl]
      repeat walk_at "wt"
      refine w_toE (notin_rows hs16) ⟨_, rfl, ?_⟩
      have body : inL L i = true → ∀ Mx, Pre M16 Mx → RowOk Mx → (sSeq (sAsg (.nm 19) (eLc (iSeq (eCall 1 (F_law_all 12) (eCons (eVar 14) eNil))) (.nm 4) bYes (eOp oIx (eOp oIx (eVar 9) (eC (.int 2))) (eCall 2 F_law_state (eCons (eVar 9) (eCons (eVar 4) eNil)))) [4])) (sSeq (sAsg (.nm 13) (eIf (eB (eOp oEq (eUn oLenSetX (eVar 19)) (eC (.int 1)))) (eOp oAdd (eVar 13) (eLst (eCons (eVar 14) eNil))) (eVar 13))) sNil) [some (.lst 0), some (.lst 1), some (nI L), some (tI c), z4, some (.tup (dueT fd)), some (.lst M12.length), some (nI i), none, some q.A, some (.dct lf), y11, some (nI m), some (.lst ls), some (tI (rowOf L i)), none, none, none, none, z19, none] Mx).W (fun τ M' => (∃ (ls : Nat) (y4 y7 y14 y19 : Option A), τ = [some (.lst 0), some (.lst 1), some (nI L), some (tI c), y4, some (.tup (dueT fd)), some (.lst M12.length), y7, none, some q.A, some (.dct lf), y11, some (nI m), some (.lst ls), y14, none, none, none, none, y19, none] ∧ 1 < ls ∧ M'[ls]? = some (.lst ((sureN q m (i + 1)).map tI))) ∧ RowOk M') (fun a _ => a = .bl true) := by
        intro hin Mx px rx
        have hrq : (rowOf L i).length = q.L := by omega
        have hwd2 := ans_wd hq hrq
        repeat walk_at "wt"
        refine w_lc_map (fun a => nI (q.o (q.run 0 (unI a)))) (w_iSeqL ?_)
        repeat walk_at "wt"
        refine ⟨rfl, (law_all_ok 12 (rowOf L i) Mx (by omega) (by omega) (by omega) (by omega)).imp ?_⟩
        rintro _ My ⟨la, rfl, hla, hall, py⟩
        rw [allT_fuel 12 ((rowOf L i).sum + 1) (rowOf L i) (by omega) (by omega)] at hall
        have htl2 := allT_len ((rowOf L i).sum + 1) (rowOf L i) (by omega)
        have hpow2 : (rowOf L i).length ^ (rowOf L i).sum ≤ 729 := Nat.le_trans (Nat.pow_le_pow_left (show (rowOf L i).length ≤ 3 by omega) _) (Nat.le_trans (Nat.pow_le_pow_right (n := 3) (by decide) hrs) (by decide))
        refine ⟨la, _, rfl, listAt_of hall, (allT ((rowOf L i).sum + 1) (rowOf L i)).map tI, by rw [dyn_size hall], by rw [List.length_map, sizeLine_eq]; omega, fun M2 p2 j => dyn_at hall p2 j, fun x M2 hx p2 => ?_, fun l2 M2 hl2 p2 h2 => ?_⟩
        · obtain ⟨t, ht, rfl⟩ := List.mem_map.mp hx
          obtain ⟨w1, w2, w3⟩ := hwd2 t ht
          rw [un_tI]
          refine ⟨_, rfl, ?_⟩
          repeat walk_at "wt"
          refine w_toE ixQ2 ?_
          repeat walk_at "wt"
          refine ⟨rfl, (law_state_ok hq w1).imp ?_⟩
          rintro _ _ ⟨rfl, rfl⟩
          exact w_toE (ixO hq w2) ⟨rfl, Fr.refl⟩
        · have h2' : M2[l2]? = some (.lst ((ansT q (rowOf L i)).map nI)) := by
            rw [h2]
            unfold ansT
            rw [List.map_map, List.map_map]
            congr 2
            exact List.map_congr_left fun t _ => by show nI (q.o (q.run 0 (unI (tI t)))) = _; rw [un_tI]; rfl
          have hal : (ansT q (rowOf L i)).length ≤ 4000 := by unfold ansT; rw [List.length_map]; omega
          have hs2 := Pre.at ((px.trans py).trans p2) hs16
          have rk2 := rx.pre (py.trans p2)
          repeat walk_at "wt"
          refine w_toE (lensetX h2' hal) ?_
          repeat walk_at "wt"
          refine w_toE (eq_nat (b := 1)) ⟨_, rfl, ?_⟩
          cases hone : lawOne (ansT q (rowOf L i)) with
          | false =>
            rw [if_neg (by unfold lawOne at hone; rw [hone]; decide)]
            repeat walk_at "wt"
            exact ⟨⟨ls, _, _, _, _, rfl, hls, by rw [hstay (by rw [hone]; simp)]; exact hs2⟩, rk2⟩
          | true =>
            rw [if_pos (by unfold lawOne at hone; exact hone)]
            repeat walk_at "wt"
            refine ⟨by simp [sizeLine_eq], ?_⟩
            have hlen : (sureN q m i).length ≤ 27 := by
              unfold sureN rows27
              refine Nat.le_trans (List.length_filter_le _ _) (Nat.le_trans (List.length_filter_le _ _) ?_)
              rw [List.length_map]
              refine Nat.le_trans (List.length_filter_le _ _) ?_
              rw [List.length_take, List.length_range]
              omega
            have ea : oAdd (.lst ls) (.lst M2.length) (M2 ++ [.lst [tI (rowOf L i)]]) = some (.lst (M2.length + 1), M2 ++ [.lst [tI (rowOf L i)]] ++ [.lst ((sureN q m i ++ [rowOf L i]).map tI)]) := by
              rw [add_lst (at_app hs2) at_new (by rw [List.length_map]; simp; omega), List.map_append]
              simp
            refine w_toE ea ?_
            repeat walk_at "wt"
            have hnew := at_new (M := M2 ++ [Cell.lst [tI (rowOf L i)]]) (c := .lst ((sureN q m i ++ [rowOf L i]).map tI))
            rw [List.length_append, List.length_singleton] at hnew
            refine ⟨⟨M2.length + 1, _, _, _, _, rfl, by have := rk2.lt; omega, ?_⟩, (rk2.app _).app _⟩
            rw [hst, if_pos ⟨hin, hle, hone⟩]
            exact hnew
      by_cases hmem : rowOf L i ∈ sureN q m i
      · rw [if_neg (by simp [hmem]), if_neg (by decide)]
        repeat walk_at "wt"
        refine ⟨⟨ls, _, _, _, _, rfl, hls, ?_⟩, r16⟩
        rw [hstay]
        · exact hs16
        · rintro ⟨h1, _, _⟩
          refine rows27_new hL1 hL3 hi h1 ?_
          unfold sureN at hmem
          rw [hqL] at hmem
          exact (List.mem_filter.mp (List.mem_filter.mp hmem).1).1
      · rw [if_pos (by simp [hmem])]
        repeat walk_at "wt"
        refine w_toE (eq_nat (b := 3)) ⟨_, rfl, ?_⟩
        by_cases h3 : L = 3
        · rw [if_pos (by simpa using h3), if_pos rfl]
          exact (body (by unfold inL; simp [h3]) M16 Fr.refl r16).imp (fun _ _ h => w_sNil h) fun _ _ h => h
        · rw [if_neg (by simpa using h3)]
          repeat walk_at "wt"
          refine ⟨by simp [sizeLine_eq], ?_⟩
          repeat walk_at "wt"
          refine w_toE (sub_nat (a := L) (by omega)) ?_
          have e2 : ([A.int 3, .int 9] : List A)[L - 1]? = some (nI ([3, 9].getD (L - 1) 0)) := by
            rcases (show L = 1 ∨ L = 2 by omega) with h | h <;> rw [h] <;> rfl
          refine w_toE (ix_lst (i := L - 1) (listAt_of at_new) e2) ?_
          refine w_toE (lt_nat (a := i)) ⟨_, rfl, ?_⟩
          have hil : inL L i = decide (i < [3, 9].getD (L - 1) 0) := by unfold inL; simp [h3]
          by_cases h4 : i < [3, 9].getD (L - 1) 0
          · rw [if_pos (by simpa using h4)]
            exact (body (by rw [hil]; simpa using h4) _ (Fr.refl.app _) (r16.app _)).imp (fun _ _ h => w_sNil h) fun _ _ h => h
          · rw [if_neg (by simpa using h4)]
            repeat walk_at "wt"
            refine ⟨⟨ls, _, _, _, _, rfl, hls, ?_⟩, r16.app _⟩
            rw [hstay (fun z => h4 (by have z := z.1; rw [hil] at z; simpa using z))]
            exact at_app hs16
  · rintro τ M15 ⟨⟨ls, z4, z7, z14, z19, rfl, hls, hs⟩, r15⟩
    rw [rng_len] at hs
    obtain ⟨p, hp⟩ := small_ex hq
    have hm2 : m ≤ 2 := by omega
    repeat walk_at "wt"
    refine ⟨rfl, (sure_counts_ok hq hp (m := m) (by omega)).imp ?_⟩
    rintro _ M16 ⟨rfl, p16⟩
    repeat walk_at "wt"
    refine w_toE (sort_sure hq hm2 (p16.at hs)) ?_
    repeat walk_at "wt"
    refine w_toE (tuple_lst (listAt_of at_new)) ?_
    repeat walk_at "wt"
    have r17 := (r15.pre p16).app [Cell.lst ((sureN q m 27).map tI)]
    rw [sure_eq hq hp hm2] at r17 ⊢
    generalize (M16 ++ [Cell.lst ((sureR p m).map tI)]) = M17 at *
    obtain ⟨hpo, hpl, hpL⟩ := hp.ok hq
    have hfew : ∀ m, m ≤ 2 → (sureR p m).length ≤ 9261 ∧ ∀ r ∈ sureR p m, r.length ≤ 3 := fun m hm => by
      unfold sureR
      refine ⟨Nat.le_trans (List.length_filter_le _ _) (rows_few (by rw [List.length_replicate]; omega) fun x hx => by have := List.eq_of_mem_replicate hx; omega), fun r hr => ?_⟩
      have := rows_len _ r (List.mem_filter.mp hr).1
      rw [List.length_replicate] at this
      omega
    refine ⟨rfl, (alike_rows (n := 3) (by rw [zmax_eq]; have := (hfew m hm2).1; omega) (fun x hx => by rw [zmax_eq]; have := (hfew m hm2).2 x hx; omega)).imp ?_⟩
    rintro _ M18 ⟨rfl, p18⟩
    refine ⟨true, rfl, ?_⟩
    rw [if_neg (by decide)]
    have r18 := r17.pre p18
    repeat walk_at "wt"
    refine ⟨rfl, (can_keep_in hq hp).imp ?_⟩
    rintro _ M19 ⟨kk, rfl, hkk, p19⟩
    refine ⟨kk, rfl, ?_⟩
    have r19 := r18.pre p19
    have rest : ∀ M20, RowOk M20 → (sSeq (sPar3 15 16 17 (eCons (eFn oTuple (eCons (eLc (iRng1 (eCons (eVar 2) eNil)) (.nm 8) bYes (eCall 2 F_law_taken (eCons (eVar 1) (eCons (eC (.int 21)) eNil))) [8]) eNil)) (eCons (eC (.int 0)) (eCons (eC (.int 1)) eNil))))
    (sSeq (sFor (iRng1 (eCons (eVar 2) eNil)) (.nm 8) (sSeq (sFor (iRng1 (eCons (eOp oIx (eVar 15) (eVar 8)) eNil)) (.nm 18) (sSeq (sAsg (.nm 16) (eOp oAdd (eVar 16) (eC (.int 1))))
    (sSeq (sAsg (.nm 17) (eOp oFdiv (eOp oMul (eVar 17) (eVar 16)) (eOp oAdd (eVar 18) (eC (.int 1)))))
    sNil)))
    sNil))
    (sSeq (sRet (eOp oEq (eFn oSumI (eCons (eLc (iSeq (eCall 2 F_arrangements (eCons (eVar 9) (eCons (eVar 15) eNil)))) (.tp [(.nm 11), (.nm 20)]) bYes (eVar 20) [11, 20]) eNil)) (eVar 17)))
    sNil)) [some (.lst 0), some (.lst 1), some (nI L), some (tI c), z4, some (.tup (dueT fd)), some (.lst M12.length), z7, none, some q.A, some (.dct lf), y11, some (nI m), some (.lst ls), z14, none, none, none, none, z19, none] M20).W (fun _ _ => A.non = .bl true) (fun a _ => a = .bl true) := by
      intro M20 r20
      repeat walk_at "wt"
      refine lc_draw (fun y => ∃ x : Nat, x < 21 ∧ y = nI x) (w_rng1 ?_)
      repeat walk_at "wt"
      refine ⟨L, rfl, by omega, (List.range L).map nI, by simp [Src.size], by rw [rng_len, sizeLine_eq]; omega, fun _ _ _ => rng_at, r20, fun x M6 hx f6 r6 => ⟨_, rfl, ?_⟩, fun l M21 ys hl f6 r21 h6 hys hP => ?_⟩
      · repeat walk_at "wt"
        exact ⟨rfl, (taken_ok (n := 21) r6 (by omega) (by omega)).imp fun a M7 ⟨x, hx, e, f, r⟩ => ⟨⟨x, hx, e⟩, f, r⟩⟩
      obtain ⟨g, rfl, hg⟩ := all_of (f := nI) ys hP
      rw [List.length_map, rng_len] at hys
      have hg20 : ∀ x ∈ g, x ≤ 20 := fun x hx => by have := hg x hx; omega
      have hgl : g.length = q.L := by omega
      repeat walk_at "wt"
      refine w_toE (tuple_lst (listAt_of h6)) ?_
      repeat walk_at "wt"
      refine ⟨_, _, _, rfl, ?_⟩
      refine w_seq (w_for (w_rng1 ?_))
      repeat walk_at "wt"
      have hsumg : ∀ d : List Nat, (∀ x ∈ d, x ≤ 20) → d.sum ≤ 20 * d.length := by
        intro d
        induction d with
        | nil => intro _; simp
        | cons x d ih =>
          intro h
          have := ih fun y hy => h y (List.mem_cons_of_mem _ hy)
          have := h x List.mem_cons_self
          rw [List.sum_cons, List.length_cons]
          omega
      refine ⟨L, rfl, by omega, (List.range L).map nI, fun k τ M' => (∃ y8 y18 : Option A, τ = [some (.lst 0), some (.lst 1), some (nI L), some (tI c), z4, some (.tup (dueT fd)), some (.lst M12.length), z7, y8, some q.A, some (.dct lf), y11, some (nI m), some (.lst ls), z14, some (tI g), some (nI (g.take k).sum), some (nI (manyT (g.take k))), y18, z19, none]), by simp [Src.size], ⟨_, _, rfl⟩, fun _ _ _ _ => rng_at, ?_, ?_⟩
      · rintro k x τ M22 hx ⟨y8, y18, rfl⟩
        obtain ⟨hk, rfl⟩ := rng_get hx
        have hkg : g[k]? = some g[k] := List.getElem?_eq_getElem (by omega)
        refine ⟨_, rfl, ?_⟩
        refine w_seq (w_for (w_rng1 ?_))
        repeat walk_at "wt"
        refine w_toE (ix_tup (i := k) (by rw [List.getElem?_map, hkg]; rfl)) ?_
        repeat walk_at "wt"
        have hgk20 := hg20 _ (List.getElem_mem (l := g) (n := k) (by omega))
        have htk : g.take (k + 1) = g.take k ++ [g[k]] := by rw [List.take_add_one, hkg]; rfl
        have hts := hsumg (g.take k) fun x hx => hg20 x (List.mem_of_mem_take hx)
        rw [List.length_take] at hts
        refine ⟨g[k], rfl, by omega, (List.range g[k]).map nI, fun j τ M' => (∃ y18 : Option A, τ = [some (.lst 0), some (.lst 1), some (nI L), some (tI c), z4, some (.tup (dueT fd)), some (.lst M12.length), z7, some (nI k), some q.A, some (.dct lf), y11, some (nI m), some (.lst ls), z14, some (tI g), some (nI ((g.take k).sum + j)), some (nI (manyT (g.take k ++ [j]))), y18, z19, none]), by simp [Src.size], ⟨_, by rw [many_zero]; rfl⟩, fun _ _ _ _ => rng_at, ?_, ?_⟩
        · rintro j x τ M23 hx ⟨y18, rfl⟩
          obtain ⟨hj, rfl⟩ := rng_get hx
          refine ⟨_, rfl, ?_⟩
          repeat walk_at "wt"
          refine w_toE (add_nat (a := (g.take k).sum + j) (b := 1)) ?_
          repeat walk_at "wt"
          refine w_toE (mul_natB (a := manyT (g.take k ++ [j])) (b := (g.take k).sum + j + 1) (by omega)) ?_
          repeat walk_at "wt"
          refine w_toE (add_nat (a := j) (b := 1)) ?_
          refine w_toE (fdiv_nat (a := manyT (g.take k ++ [j]) * ((g.take k).sum + j + 1)) (n := j + 1) (by omega) (by omega)) ?_
          rw [many_div]
          repeat walk_at "wt"
          exact ⟨_, rfl⟩
        · rintro τ M23 ⟨y18, rfl⟩
          rw [rng_len]
          repeat walk_at "wt"
          refine ⟨some (nI k), y18, ?_⟩
          rw [htk, List.sum_append]
          simp only [List.sum_cons, List.sum_nil, Nat.add_zero]
      · rintro τ M22 ⟨y8, y18, rfl⟩
        rw [rng_len, List.take_of_length_le (by omega)]
        repeat walk_at "wt"
        refine w_lc_map (fun a => match a with
          | .tup [_, y] => y
          | _ => .non) (w_iSeqT ?_)
        repeat walk_at "wt"
        refine ⟨rfl, (arrangements_ok hq hgl hg20).imp ?_⟩
        rintro _ M23 ⟨t, rfl, ht, p23⟩
        rw [due_eq ht.nd]
        have htb : t.length ≤ 4 := by
          have h1 := nodup_lt 4 (keysT t) ht.nd fun k hk => by
            have hk := (ht.mem k).mp hk
            unfold ansT at hk
            obtain ⟨w, hw, rfl⟩ := List.mem_map.mp hk
            exact (ans_wd hq hgl w hw).2.2
          unfold keysT at h1
          rw [List.length_map] at h1
          exact h1
        refine ⟨_, rfl, dueT t, by simp [Src.size], by unfold dueT; rw [List.length_map, key_len, sizeLine_eq]; omega, fun M2 _ i => rfl, fun x M2 hx p2 => ?_, fun l M2 hl p2 h2 => ?_⟩
        · obtain ⟨i, hi, rfl⟩ := List.mem_map.mp hx
          refine ⟨_, rfl, ?_⟩
          repeat walk_at "wt"
          exact ⟨rfl, Fr.refl⟩
        · have h2' : M2[l]? = some (.lst (((keyI t).map fun i => cntOf t i.toNat).map nI)) := by
            rw [h2]
            unfold dueT
            rw [List.map_map, List.map_map]; rfl
          repeat walk_at "wt"
          refine w_toE (sum_lst h2') ?_
          repeat walk_at "wt"
          rw [sum_keys ht.nd, sum_pairs ht]
          refine w_toE eq_nat ?_
          have : (ansT q g).length = manyT g := by unfold ansT manyT; rw [List.length_map]
          rw [this]
          simp
    cases kk with
    | false =>
      rw [if_neg (by decide), if_neg (by decide)]
      refine w_sNil ?_
      exact rest M19 r19
    | true =>
      have hcm := hkk rfl
      rw [if_pos rfl]
      repeat walk_at "wt"
      refine ⟨rfl, (sure_counts_ok hq hp (m := 2) (by omega)).imp ?_⟩
      rintro _ M20 ⟨rfl, p20⟩
      have hall : sureR p 2 = rowsU (List.replicate p.L 2) := by
        unfold sureR
        refine List.filter_eq_self.mpr fun r hr => comm_one hpo hcm ?_
        have := rows_len _ r hr
        rw [List.length_replicate] at this
        exact this
      rw [hall]
      repeat walk_at "wt"
      refine w_toE (len_tup (k := [3, 9, 27].getD (L - 1) 0) (by rw [List.length_map, rowsU_two hpo.l1 hpo.l3, hpL, hqL])) ?_
      repeat walk_at "wt"
      refine ⟨by simp [sizeLine_eq], ?_⟩
      repeat walk_at "wt"
      refine w_toE (sub_nat (a := L) (by omega)) ?_
      have e2 : ([A.int 3, .int 9, .int 27] : List A)[L - 1]? = some (nI ([3, 9, 27].getD (L - 1) 0)) := by
        rcases (show L = 1 ∨ L = 2 ∨ L = 3 by omega) with h | h | h <;> rw [h] <;> rfl
      refine w_toE (ix_lst (i := L - 1) (listAt_of at_new) e2) ?_
      refine w_toE ne_int ⟨false, by simp, ?_⟩
      rw [if_neg (by decide)]
      refine w_sNil ?_
      exact rest _ ((r19.pre p20).app _)
theorem maths : ∀ ns : List Int, ns.length ≤ 63 → ∃ M, F_law [.lst 0] (scr ns) = .ok (.bl true) M := fun ns _ => by
  obtain ⟨a, M, e, h⟩ := (law_ok ns).out
  subst h
  exact ⟨M, e⟩
end P66
namespace P66
open PySem PySem.Spec PyProof.Rows L2 AB
theorem ktab_of {K : PySem.W.Frag} {d : Addr} : ∀ {tbl : List (Str × List Str)}, (∀ p ∈ tbl, ∃ a, PySem.W.nsIn K d p.1 = some (some (.ref a)) ∧ KTup K a p.2) → ∀ z ts, tbl.lookup z = some ts → ∃ p, PySem.W.nsIn K d z = some (some (.ref p)) ∧ KTup K p ts
  | [], _, z, ts, e => by cases e
  | (k, v) :: tbl, h, z, ts, e => by
    rw [List.lookup_cons] at e
    cases hz : z == k with
    | true =>
      rw [hz] at e
      cases e
      rw [eq_of_beq hz]
      exact h (k, v) (by simp)
    | false =>
      rw [hz] at e
      exact ktab_of (fun p hp => h p (by simp [hp])) z ts e
def spL (K : PySem.W.Frag) : Sp := fun vs H Q _ => ∃ (a : Addr) (ns : List Int), vs = [.ref a] ∧ SqL K H a (ns.map V.int) ∧ ns.length ≤ 63 ∧ Only H ∧ ∀ H', Q (.bl true) H'
theorem all_mk {l : PySem.W.OpenLaw} {w : World} {K : PySem.W.Frag} {h : Heap} {mg : Str → Option Value} {fa : Addr} (X : K.In h) (G : h.Ns mainGlobals mg) (hfa : mg "law" = some (.ref fa))
    (hF : ∀ ns : List Int, ns.length ≤ 63 → ∃ M, F_law [.lst 0] (scr ns) = .ok (.bl true) M)
    {f_law_all : Addr} {od_law_all an_law_all : Option Addr} {sl_law_all : Array (Option Value)} {oc_law_all kV_law_all dc_law_all pm_law_all cd_law_all ct_law_all : Value}
    (a_law_all : PySem.W.nsIn K mainGlobals "_law_all" = some (some (.ref f_law_all))) (l_law_all : K.lookup f_law_all = some ⟨oc_law_all, od_law_all, .func (PySem.W.fnOf "_law_all" "_law_all" (defArgs s_law_all) (defBody s_law_all) (defScope s_law_all) .none kV_law_all dc_law_all pm_law_all an_law_all cd_law_all ct_law_all), sl_law_all⟩) (c_law_all : PySem.W.codeIn K cd_law_all "_law_all" = true) (k_law_all : PySem.W.keepIn K (.ref f_law_all) = true)
    {f_law_taken : Addr} {od_law_taken an_law_taken : Option Addr} {sl_law_taken : Array (Option Value)} {oc_law_taken kV_law_taken dc_law_taken pm_law_taken cd_law_taken ct_law_taken : Value}
    (a_law_taken : PySem.W.nsIn K mainGlobals "_law_taken" = some (some (.ref f_law_taken))) (l_law_taken : K.lookup f_law_taken = some ⟨oc_law_taken, od_law_taken, .func (PySem.W.fnOf "_law_taken" "_law_taken" (defArgs s_law_taken) (defBody s_law_taken) (defScope s_law_taken) .none kV_law_taken dc_law_taken pm_law_taken an_law_taken cd_law_taken ct_law_taken), sl_law_taken⟩) (c_law_taken : PySem.W.codeIn K cd_law_taken "_law_taken" = true) (k_law_taken : PySem.W.keepIn K (.ref f_law_taken) = true)
    {f_law_pick : Addr} {od_law_pick an_law_pick : Option Addr} {sl_law_pick : Array (Option Value)} {oc_law_pick kV_law_pick dc_law_pick pm_law_pick cd_law_pick ct_law_pick : Value}
    (a_law_pick : PySem.W.nsIn K mainGlobals "_law_pick" = some (some (.ref f_law_pick))) (l_law_pick : K.lookup f_law_pick = some ⟨oc_law_pick, od_law_pick, .func (PySem.W.fnOf "_law_pick" "_law_pick" (defArgs s_law_pick) (defBody s_law_pick) (defScope s_law_pick) .none kV_law_pick dc_law_pick pm_law_pick an_law_pick cd_law_pick ct_law_pick), sl_law_pick⟩) (c_law_pick : PySem.W.codeIn K cd_law_pick "_law_pick" = true) (k_law_pick : PySem.W.keepIn K (.ref f_law_pick) = true)
    {f_is_number : Addr} {od_is_number an_is_number : Option Addr} {sl_is_number : Array (Option Value)} {oc_is_number kV_is_number dc_is_number pm_is_number cd_is_number ct_is_number : Value}
    (a_is_number : PySem.W.nsIn K mainGlobals "is_number" = some (some (.ref f_is_number))) (l_is_number : K.lookup f_is_number = some ⟨oc_is_number, od_is_number, .func (PySem.W.fnOf "is_number" "is_number" (defArgs s_is_number) (defBody s_is_number) (defScope s_is_number) .none kV_is_number dc_is_number pm_is_number an_is_number cd_is_number ct_is_number), sl_is_number⟩) (c_is_number : PySem.W.codeIn K cd_is_number "is_number" = true) (k_is_number : PySem.W.keepIn K (.ref f_is_number) = true)
    {f_are_numbers : Addr} {od_are_numbers an_are_numbers : Option Addr} {sl_are_numbers : Array (Option Value)} {oc_are_numbers kV_are_numbers dc_are_numbers pm_are_numbers cd_are_numbers ct_are_numbers : Value}
    (a_are_numbers : PySem.W.nsIn K mainGlobals "are_numbers" = some (some (.ref f_are_numbers))) (l_are_numbers : K.lookup f_are_numbers = some ⟨oc_are_numbers, od_are_numbers, .func (PySem.W.fnOf "are_numbers" "are_numbers" (defArgs s_are_numbers) (defBody s_are_numbers) (defScope s_are_numbers) .none kV_are_numbers dc_are_numbers pm_are_numbers an_are_numbers cd_are_numbers ct_are_numbers), sl_are_numbers⟩) (c_are_numbers : PySem.W.codeIn K cd_are_numbers "are_numbers" = true) (k_are_numbers : PySem.W.keepIn K (.ref f_are_numbers) = true)
    {f_are_steps : Addr} {od_are_steps an_are_steps : Option Addr} {sl_are_steps : Array (Option Value)} {oc_are_steps kV_are_steps dc_are_steps pm_are_steps cd_are_steps ct_are_steps : Value}
    (a_are_steps : PySem.W.nsIn K mainGlobals "are_steps" = some (some (.ref f_are_steps))) (l_are_steps : K.lookup f_are_steps = some ⟨oc_are_steps, od_are_steps, .func (PySem.W.fnOf "are_steps" "are_steps" (defArgs s_are_steps) (defBody s_are_steps) (defScope s_are_steps) .none kV_are_steps dc_are_steps pm_are_steps an_are_steps cd_are_steps ct_are_steps), sl_are_steps⟩) (c_are_steps : PySem.W.codeIn K cd_are_steps "are_steps" = true) (k_are_steps : PySem.W.keepIn K (.ref f_are_steps) = true)
    {f_check_question : Addr} {od_check_question an_check_question : Option Addr} {sl_check_question : Array (Option Value)} {oc_check_question kV_check_question dc_check_question pm_check_question cd_check_question ct_check_question : Value}
    (a_check_question : PySem.W.nsIn K mainGlobals "check_question" = some (some (.ref f_check_question))) (l_check_question : K.lookup f_check_question = some ⟨oc_check_question, od_check_question, .func (PySem.W.fnOf "check_question" "check_question" (defArgs s_check_question) (defBody s_check_question) (defScope s_check_question) .none kV_check_question dc_check_question pm_check_question an_check_question cd_check_question ct_check_question), sl_check_question⟩) (c_check_question : PySem.W.codeIn K cd_check_question "check_question" = true) (k_check_question : PySem.W.keepIn K (.ref f_check_question) = true)
    {f_parted_groups : Addr} {od_parted_groups an_parted_groups : Option Addr} {sl_parted_groups : Array (Option Value)} {oc_parted_groups kV_parted_groups dc_parted_groups pm_parted_groups cd_parted_groups ct_parted_groups : Value}
    (a_parted_groups : PySem.W.nsIn K mainGlobals "parted_groups" = some (some (.ref f_parted_groups))) (l_parted_groups : K.lookup f_parted_groups = some ⟨oc_parted_groups, od_parted_groups, .func (PySem.W.fnOf "parted_groups" "parted_groups" (defArgs s_parted_groups) (defBody s_parted_groups) (defScope s_parted_groups) .none kV_parted_groups dc_parted_groups pm_parted_groups an_parted_groups cd_parted_groups ct_parted_groups), sl_parted_groups⟩) (c_parted_groups : PySem.W.codeIn K cd_parted_groups "parted_groups" = true) (k_parted_groups : PySem.W.keepIn K (.ref f_parted_groups) = true)
    {f_groups_of : Addr} {od_groups_of an_groups_of : Option Addr} {sl_groups_of : Array (Option Value)} {oc_groups_of kV_groups_of dc_groups_of pm_groups_of cd_groups_of ct_groups_of : Value}
    {T_groups_of : Addr} {oT_groups_of : Value} {dT_groups_of : Option Addr} {sT_groups_of : Array (Option Value)} {yT_groups_of : Array Value} {nT_groups_of : Nat}
    (a_groups_of : PySem.W.nsIn K mainGlobals "groups_of" = some (some (.ref f_groups_of))) (l_groups_of : K.lookup f_groups_of = some ⟨oc_groups_of, od_groups_of, .func (PySem.W.fnOf "groups_of" "groups_of" (defArgs s_groups_of) (defBody s_groups_of) (defScope s_groups_of) (.ref T_groups_of) kV_groups_of dc_groups_of pm_groups_of an_groups_of cd_groups_of ct_groups_of), sl_groups_of⟩) (c_groups_of : PySem.W.codeIn K cd_groups_of "groups_of" = true) (k_groups_of : PySem.W.keepIn K (.ref f_groups_of) = true)
    (t_groups_of : K.lookup T_groups_of = some ⟨oT_groups_of, dT_groups_of, .seq yT_groups_of nT_groups_of, sT_groups_of⟩) (u_groups_of : Vals [.non] yT_groups_of.toList)
    {f_least_of : Addr} {od_least_of an_least_of : Option Addr} {sl_least_of : Array (Option Value)} {oc_least_of kV_least_of dc_least_of pm_least_of cd_least_of ct_least_of : Value}
    {T_least_of : Addr} {oT_least_of : Value} {dT_least_of : Option Addr} {sT_least_of : Array (Option Value)} {yT_least_of : Array Value} {nT_least_of : Nat}
    (a_least_of : PySem.W.nsIn K mainGlobals "least_of" = some (some (.ref f_least_of))) (l_least_of : K.lookup f_least_of = some ⟨oc_least_of, od_least_of, .func (PySem.W.fnOf "least_of" "least_of" (defArgs s_least_of) (defBody s_least_of) (defScope s_least_of) (.ref T_least_of) kV_least_of dc_least_of pm_least_of an_least_of cd_least_of ct_least_of), sl_least_of⟩) (c_least_of : PySem.W.codeIn K cd_least_of "least_of" = true) (k_least_of : PySem.W.keepIn K (.ref f_least_of) = true)
    (t_least_of : K.lookup T_least_of = some ⟨oT_least_of, dT_least_of, .seq yT_least_of nT_least_of, sT_least_of⟩) (u_least_of : Vals [.non] yT_least_of.toList)
    {f_answers_of : Addr} {od_answers_of an_answers_of : Option Addr} {sl_answers_of : Array (Option Value)} {oc_answers_of kV_answers_of dc_answers_of pm_answers_of cd_answers_of ct_answers_of : Value}
    (a_answers_of : PySem.W.nsIn K mainGlobals "answers_of" = some (some (.ref f_answers_of))) (l_answers_of : K.lookup f_answers_of = some ⟨oc_answers_of, od_answers_of, .func (PySem.W.fnOf "answers_of" "answers_of" (defArgs s_answers_of) (defBody s_answers_of) (defScope s_answers_of) .none kV_answers_of dc_answers_of pm_answers_of an_answers_of cd_answers_of ct_answers_of), sl_answers_of⟩) (c_answers_of : PySem.W.codeIn K cd_answers_of "answers_of" = true) (k_answers_of : PySem.W.keepIn K (.ref f_answers_of) = true)
    {f_counts_up_to : Addr} {od_counts_up_to an_counts_up_to : Option Addr} {sl_counts_up_to : Array (Option Value)} {oc_counts_up_to kV_counts_up_to dc_counts_up_to pm_counts_up_to cd_counts_up_to ct_counts_up_to : Value}
    (a_counts_up_to : PySem.W.nsIn K mainGlobals "counts_up_to" = some (some (.ref f_counts_up_to))) (l_counts_up_to : K.lookup f_counts_up_to = some ⟨oc_counts_up_to, od_counts_up_to, .func (PySem.W.fnOf "counts_up_to" "counts_up_to" (defArgs s_counts_up_to) (defBody s_counts_up_to) (defScope s_counts_up_to) .none kV_counts_up_to dc_counts_up_to pm_counts_up_to an_counts_up_to cd_counts_up_to ct_counts_up_to), sl_counts_up_to⟩) (c_counts_up_to : PySem.W.codeIn K cd_counts_up_to "counts_up_to" = true) (k_counts_up_to : PySem.W.keepIn K (.ref f_counts_up_to) = true)
    {f_add_ways : Addr} {od_add_ways an_add_ways : Option Addr} {sl_add_ways : Array (Option Value)} {oc_add_ways kV_add_ways dc_add_ways pm_add_ways cd_add_ways ct_add_ways : Value}
    (a_add_ways : PySem.W.nsIn K mainGlobals "add_ways" = some (some (.ref f_add_ways))) (l_add_ways : K.lookup f_add_ways = some ⟨oc_add_ways, od_add_ways, .func (PySem.W.fnOf "add_ways" "add_ways" (defArgs s_add_ways) (defBody s_add_ways) (defScope s_add_ways) .none kV_add_ways dc_add_ways pm_add_ways an_add_ways cd_add_ways ct_add_ways), sl_add_ways⟩) (c_add_ways : PySem.W.codeIn K cd_add_ways "add_ways" = true) (k_add_ways : PySem.W.keepIn K (.ref f_add_ways) = true)
    {f_ways_up_to : Addr} {od_ways_up_to an_ways_up_to : Option Addr} {sl_ways_up_to : Array (Option Value)} {oc_ways_up_to kV_ways_up_to dc_ways_up_to pm_ways_up_to cd_ways_up_to ct_ways_up_to : Value}
    (a_ways_up_to : PySem.W.nsIn K mainGlobals "ways_up_to" = some (some (.ref f_ways_up_to))) (l_ways_up_to : K.lookup f_ways_up_to = some ⟨oc_ways_up_to, od_ways_up_to, .func (PySem.W.fnOf "ways_up_to" "ways_up_to" (defArgs s_ways_up_to) (defBody s_ways_up_to) (defScope s_ways_up_to) .none kV_ways_up_to dc_ways_up_to pm_ways_up_to an_ways_up_to cd_ways_up_to ct_ways_up_to), sl_ways_up_to⟩) (c_ways_up_to : PySem.W.codeIn K cd_ways_up_to "ways_up_to" = true) (k_ways_up_to : PySem.W.keepIn K (.ref f_ways_up_to) = true)
    {f_arrangements : Addr} {od_arrangements an_arrangements : Option Addr} {sl_arrangements : Array (Option Value)} {oc_arrangements kV_arrangements dc_arrangements pm_arrangements cd_arrangements ct_arrangements : Value}
    (a_arrangements : PySem.W.nsIn K mainGlobals "arrangements" = some (some (.ref f_arrangements))) (l_arrangements : K.lookup f_arrangements = some ⟨oc_arrangements, od_arrangements, .func (PySem.W.fnOf "arrangements" "arrangements" (defArgs s_arrangements) (defBody s_arrangements) (defScope s_arrangements) .none kV_arrangements dc_arrangements pm_arrangements an_arrangements cd_arrangements ct_arrangements), sl_arrangements⟩) (c_arrangements : PySem.W.codeIn K cd_arrangements "arrangements" = true) (k_arrangements : PySem.W.keepIn K (.ref f_arrangements) = true)
    {f_possible : Addr} {od_possible an_possible : Option Addr} {sl_possible : Array (Option Value)} {oc_possible kV_possible dc_possible pm_possible cd_possible ct_possible : Value}
    (a_possible : PySem.W.nsIn K mainGlobals "possible" = some (some (.ref f_possible))) (l_possible : K.lookup f_possible = some ⟨oc_possible, od_possible, .func (PySem.W.fnOf "possible" "possible" (defArgs s_possible) (defBody s_possible) (defScope s_possible) .none kV_possible dc_possible pm_possible an_possible cd_possible ct_possible), sl_possible⟩) (c_possible : PySem.W.codeIn K cd_possible "possible" = true) (k_possible : PySem.W.keepIn K (.ref f_possible) = true)
    {f_is_sure : Addr} {od_is_sure an_is_sure : Option Addr} {sl_is_sure : Array (Option Value)} {oc_is_sure kV_is_sure dc_is_sure pm_is_sure cd_is_sure ct_is_sure : Value}
    (a_is_sure : PySem.W.nsIn K mainGlobals "is_sure" = some (some (.ref f_is_sure))) (l_is_sure : K.lookup f_is_sure = some ⟨oc_is_sure, od_is_sure, .func (PySem.W.fnOf "is_sure" "is_sure" (defArgs s_is_sure) (defBody s_is_sure) (defScope s_is_sure) .none kV_is_sure dc_is_sure pm_is_sure an_is_sure cd_is_sure ct_is_sure), sl_is_sure⟩) (c_is_sure : PySem.W.codeIn K cd_is_sure "is_sure" = true) (k_is_sure : PySem.W.keepIn K (.ref f_is_sure) = true)
    {f_law_alike : Addr} {od_law_alike an_law_alike : Option Addr} {sl_law_alike : Array (Option Value)} {oc_law_alike kV_law_alike dc_law_alike pm_law_alike cd_law_alike ct_law_alike : Value}
    (a_law_alike : PySem.W.nsIn K mainGlobals "_law_alike" = some (some (.ref f_law_alike))) (l_law_alike : K.lookup f_law_alike = some ⟨oc_law_alike, od_law_alike, .func (PySem.W.fnOf "_law_alike" "_law_alike" (defArgs s_law_alike) (defBody s_law_alike) (defScope s_law_alike) .none kV_law_alike dc_law_alike pm_law_alike an_law_alike cd_law_alike ct_law_alike), sl_law_alike⟩) (c_law_alike : PySem.W.codeIn K cd_law_alike "_law_alike" = true) (k_law_alike : PySem.W.keepIn K (.ref f_law_alike) = true)
    {f_check_world : Addr} {od_check_world an_check_world : Option Addr} {sl_check_world : Array (Option Value)} {oc_check_world kV_check_world dc_check_world pm_check_world cd_check_world ct_check_world : Value}
    (a_check_world : PySem.W.nsIn K mainGlobals "check_world" = some (some (.ref f_check_world))) (l_check_world : K.lookup f_check_world = some ⟨oc_check_world, od_check_world, .func (PySem.W.fnOf "check_world" "check_world" (defArgs s_check_world) (defBody s_check_world) (defScope s_check_world) .none kV_check_world dc_check_world pm_check_world an_check_world cd_check_world ct_check_world), sl_check_world⟩) (c_check_world : PySem.W.codeIn K cd_check_world "check_world" = true) (k_check_world : PySem.W.keepIn K (.ref f_check_world) = true)
    {f_is_parting : Addr} {od_is_parting an_is_parting : Option Addr} {sl_is_parting : Array (Option Value)} {oc_is_parting kV_is_parting dc_is_parting pm_is_parting cd_is_parting ct_is_parting : Value}
    (a_is_parting : PySem.W.nsIn K mainGlobals "is_parting" = some (some (.ref f_is_parting))) (l_is_parting : K.lookup f_is_parting = some ⟨oc_is_parting, od_is_parting, .func (PySem.W.fnOf "is_parting" "is_parting" (defArgs s_is_parting) (defBody s_is_parting) (defScope s_is_parting) .none kV_is_parting dc_is_parting pm_is_parting an_is_parting cd_is_parting ct_is_parting), sl_is_parting⟩) (c_is_parting : PySem.W.codeIn K cd_is_parting "is_parting" = true) (k_is_parting : PySem.W.keepIn K (.ref f_is_parting) = true)
    {f_is_commuting : Addr} {od_is_commuting an_is_commuting : Option Addr} {sl_is_commuting : Array (Option Value)} {oc_is_commuting kV_is_commuting dc_is_commuting pm_is_commuting cd_is_commuting ct_is_commuting : Value}
    (a_is_commuting : PySem.W.nsIn K mainGlobals "is_commuting" = some (some (.ref f_is_commuting))) (l_is_commuting : K.lookup f_is_commuting = some ⟨oc_is_commuting, od_is_commuting, .func (PySem.W.fnOf "is_commuting" "is_commuting" (defArgs s_is_commuting) (defBody s_is_commuting) (defScope s_is_commuting) .none kV_is_commuting dc_is_commuting pm_is_commuting an_is_commuting cd_is_commuting ct_is_commuting), sl_is_commuting⟩) (c_is_commuting : PySem.W.codeIn K cd_is_commuting "is_commuting" = true) (k_is_commuting : PySem.W.keepIn K (.ref f_is_commuting) = true)
    {f_is_kept : Addr} {od_is_kept an_is_kept : Option Addr} {sl_is_kept : Array (Option Value)} {oc_is_kept kV_is_kept dc_is_kept pm_is_kept cd_is_kept ct_is_kept : Value}
    (a_is_kept : PySem.W.nsIn K mainGlobals "is_kept" = some (some (.ref f_is_kept))) (l_is_kept : K.lookup f_is_kept = some ⟨oc_is_kept, od_is_kept, .func (PySem.W.fnOf "is_kept" "is_kept" (defArgs s_is_kept) (defBody s_is_kept) (defScope s_is_kept) .none kV_is_kept dc_is_kept pm_is_kept an_is_kept cd_is_kept ct_is_kept), sl_is_kept⟩) (c_is_kept : PySem.W.codeIn K cd_is_kept "is_kept" = true) (k_is_kept : PySem.W.keepIn K (.ref f_is_kept) = true)
    {f_can_keep : Addr} {od_can_keep an_can_keep : Option Addr} {sl_can_keep : Array (Option Value)} {oc_can_keep kV_can_keep dc_can_keep pm_can_keep cd_can_keep ct_can_keep : Value}
    (a_can_keep : PySem.W.nsIn K mainGlobals "can_keep" = some (some (.ref f_can_keep))) (l_can_keep : K.lookup f_can_keep = some ⟨oc_can_keep, od_can_keep, .func (PySem.W.fnOf "can_keep" "can_keep" (defArgs s_can_keep) (defBody s_can_keep) (defScope s_can_keep) .none kV_can_keep dc_can_keep pm_can_keep an_can_keep cd_can_keep ct_can_keep), sl_can_keep⟩) (c_can_keep : PySem.W.codeIn K cd_can_keep "can_keep" = true) (k_can_keep : PySem.W.keepIn K (.ref f_can_keep) = true)
    {f_law_state : Addr} {od_law_state an_law_state : Option Addr} {sl_law_state : Array (Option Value)} {oc_law_state kV_law_state dc_law_state pm_law_state cd_law_state ct_law_state : Value}
    (a_law_state : PySem.W.nsIn K mainGlobals "_law_state" = some (some (.ref f_law_state))) (l_law_state : K.lookup f_law_state = some ⟨oc_law_state, od_law_state, .func (PySem.W.fnOf "_law_state" "_law_state" (defArgs s_law_state) (defBody s_law_state) (defScope s_law_state) .none kV_law_state dc_law_state pm_law_state an_law_state cd_law_state ct_law_state), sl_law_state⟩) (c_law_state : PySem.W.codeIn K cd_law_state "_law_state" = true) (k_law_state : PySem.W.keepIn K (.ref f_law_state) = true)
    {f_sure_counts : Addr} {od_sure_counts an_sure_counts : Option Addr} {sl_sure_counts : Array (Option Value)} {oc_sure_counts kV_sure_counts dc_sure_counts pm_sure_counts cd_sure_counts ct_sure_counts : Value}
    (a_sure_counts : PySem.W.nsIn K mainGlobals "sure_counts" = some (some (.ref f_sure_counts))) (l_sure_counts : K.lookup f_sure_counts = some ⟨oc_sure_counts, od_sure_counts, .func (PySem.W.fnOf "sure_counts" "sure_counts" (defArgs s_sure_counts) (defBody s_sure_counts) (defScope s_sure_counts) .none kV_sure_counts dc_sure_counts pm_sure_counts an_sure_counts cd_sure_counts ct_sure_counts), sl_sure_counts⟩) (c_sure_counts : PySem.W.codeIn K cd_sure_counts "sure_counts" = true) (k_sure_counts : PySem.W.keepIn K (.ref f_sure_counts) = true)
    {f_law_question : Addr} {od_law_question an_law_question : Option Addr} {sl_law_question : Array (Option Value)} {oc_law_question kV_law_question dc_law_question pm_law_question cd_law_question ct_law_question : Value}
    (a_law_question : PySem.W.nsIn K mainGlobals "_law_question" = some (some (.ref f_law_question))) (l_law_question : K.lookup f_law_question = some ⟨oc_law_question, od_law_question, .func (PySem.W.fnOf "_law_question" "_law_question" (defArgs s_law_question) (defBody s_law_question) (defScope s_law_question) .none kV_law_question dc_law_question pm_law_question an_law_question cd_law_question ct_law_question), sl_law_question⟩) (c_law_question : PySem.W.codeIn K cd_law_question "_law_question" = true) (k_law_question : PySem.W.keepIn K (.ref f_law_question) = true)
    {f_law_counting : Addr} {od_law_counting an_law_counting : Option Addr} {sl_law_counting : Array (Option Value)} {oc_law_counting kV_law_counting dc_law_counting pm_law_counting cd_law_counting ct_law_counting : Value}
    (a_law_counting : PySem.W.nsIn K mainGlobals "_law_counting" = some (some (.ref f_law_counting))) (l_law_counting : K.lookup f_law_counting = some ⟨oc_law_counting, od_law_counting, .func (PySem.W.fnOf "_law_counting" "_law_counting" (defArgs s_law_counting) (defBody s_law_counting) (defScope s_law_counting) .none kV_law_counting dc_law_counting pm_law_counting an_law_counting cd_law_counting ct_law_counting), sl_law_counting⟩) (c_law_counting : PySem.W.codeIn K cd_law_counting "_law_counting" = true) (k_law_counting : PySem.W.keepIn K (.ref f_law_counting) = true)
    {f_law : Addr} {od_law an_law : Option Addr} {sl_law : Array (Option Value)} {oc_law kV_law dc_law pm_law cd_law ct_law : Value}
    (a_law : PySem.W.nsIn K mainGlobals "law" = some (some (.ref f_law))) (l_law : K.lookup f_law = some ⟨oc_law, od_law, .func (PySem.W.fnOf "law" "law" (defArgs s_law) (defBody s_law) (defScope s_law) .none kV_law dc_law pm_law an_law cd_law ct_law), sl_law⟩) (c_law : PySem.W.codeIn K cd_law "law" = true) (k_law : PySem.W.keepIn K (.ref f_law) = true)
    {t_MOST_ANSWER : Tok} (v_MOST_ANSWER : PySem.W.nsIn K mainGlobals "MOST_ANSWER" = some (some (.int 3 t_MOST_ANSWER)))
    {t_MOST_COUNT : Tok} (v_MOST_COUNT : PySem.W.nsIn K mainGlobals "MOST_COUNT" = some (some (.int 20 t_MOST_COUNT)))
    {t_MOST_LETTERS : Tok} (v_MOST_LETTERS : PySem.W.nsIn K mainGlobals "MOST_LETTERS" = some (some (.int 3 t_MOST_LETTERS)))
    {t_MOST_STATES : Tok} (v_MOST_STATES : PySem.W.nsIn K mainGlobals "MOST_STATES" = some (some (.int 40 t_MOST_STATES)))
    {t_MOST_SURE : Tok} (v_MOST_SURE : PySem.W.nsIn K mainGlobals "MOST_SURE" = some (some (.int 5 t_MOST_SURE)))
    (z_all : PySem.W.nsIn K mainGlobals "all" = some none)
    (z_any : PySem.W.nsIn K mainGlobals "any" = some none)
    (z_bool : PySem.W.nsIn K mainGlobals "bool" = some none)
    (z_enumerate : PySem.W.nsIn K mainGlobals "enumerate" = some none)
    (z_int : PySem.W.nsIn K mainGlobals "int" = some none)
    (z_isinstance : PySem.W.nsIn K mainGlobals "isinstance" = some none)
    (z_len : PySem.W.nsIn K mainGlobals "len" = some none)
    (z_list : PySem.W.nsIn K mainGlobals "list" = some none)
    (z_max : PySem.W.nsIn K mainGlobals "max" = some none)
    (z_range : PySem.W.nsIn K mainGlobals "range" = some none)
    (z_set : PySem.W.nsIn K mainGlobals "set" = some none)
    (z_sorted : PySem.W.nsIn K mainGlobals "sorted" = some none)
    (z_str : PySem.W.nsIn K mainGlobals "str" = some none)
    (z_sum : PySem.W.nsIn K mainGlobals "sum" = some none)
    (z_tuple : PySem.W.nsIn K mainGlobals "tuple" = some none)
    {d_WORDS : Addr} {es_WORDS : Array DictEntry} {n_WORDS : Nat} (g_WORDS : PySem.W.nsIn K mainGlobals "WORDS" = some (some (.ref d_WORDS))) (h_WORDS : K.lookup d_WORDS = some ⟨.type "dict", none, .dict es_WORDS n_WORDS, #[]⟩) (i_WORDS : PySem.W.KeysLit w.params es_WORDS.toList) (j_WORDS : (d_WORDS == sysModules) = false)
    {p_WORDS_0 : Addr} {o_WORDS_0 : Option Addr} {s_WORDS_0 : Array (Option Value)} {y_WORDS_0 : Array Value} {m_WORDS_0 : Nat} (x_WORDS_0 : PySem.W.nsIn K d_WORDS "end" = some (some (.ref p_WORDS_0))) (e_WORDS_0 : K.lookup p_WORDS_0 = some ⟨.type "tuple", o_WORDS_0, .seq y_WORDS_0 m_WORDS_0, s_WORDS_0⟩) (w_WORDS_0 : y_WORDS_0.size ≤ sizeLine) (q_WORDS_0 : Vals ((["put"] : List Str).map V.str) y_WORDS_0.toList)
    {p_WORDS_1 : Addr} {o_WORDS_1 : Option Addr} {s_WORDS_1 : Array (Option Value)} {y_WORDS_1 : Array Value} {m_WORDS_1 : Nat} (x_WORDS_1 : PySem.W.nsIn K d_WORDS "ends" = some (some (.ref p_WORDS_1))) (e_WORDS_1 : K.lookup p_WORDS_1 = some ⟨.type "tuple", o_WORDS_1, .seq y_WORDS_1 m_WORDS_1, s_WORDS_1⟩) (w_WORDS_1 : y_WORDS_1.size ≤ sizeLine) (q_WORDS_1 : Vals ((["front", "put"] : List Str).map V.str) y_WORDS_1.toList)
    {p_WORDS_2 : Addr} {o_WORDS_2 : Option Addr} {s_WORDS_2 : Array (Option Value)} {y_WORDS_2 : Array Value} {m_WORDS_2 : Nat} (x_WORDS_2 : PySem.W.nsIn K d_WORDS "stack" = some (some (.ref p_WORDS_2))) (e_WORDS_2 : K.lookup p_WORDS_2 = some ⟨.type "tuple", o_WORDS_2, .seq y_WORDS_2 m_WORDS_2, s_WORDS_2⟩) (w_WORDS_2 : y_WORDS_2.size ≤ sizeLine) (q_WORDS_2 : Vals ((["chop", "put"] : List Str).map V.str) y_WORDS_2.toList)
    {p_WORDS_3 : Addr} {o_WORDS_3 : Option Addr} {s_WORDS_3 : Array (Option Value)} {y_WORDS_3 : Array Value} {m_WORDS_3 : Nat} (x_WORDS_3 : PySem.W.nsIn K d_WORDS "deque" = some (some (.ref p_WORDS_3))) (e_WORDS_3 : K.lookup p_WORDS_3 = some ⟨.type "tuple", o_WORDS_3, .seq y_WORDS_3 m_WORDS_3, s_WORDS_3⟩) (w_WORDS_3 : y_WORDS_3.size ≤ sizeLine) (q_WORDS_3 : Vals ((["behead", "chop", "front", "put"] : List Str).map V.str) y_WORDS_3.toList)
    {p_WORDS_4 : Addr} {o_WORDS_4 : Option Addr} {s_WORDS_4 : Array (Option Value)} {y_WORDS_4 : Array Value} {m_WORDS_4 : Nat} (x_WORDS_4 : PySem.W.nsIn K d_WORDS "in" = some (some (.ref p_WORDS_4))) (e_WORDS_4 : K.lookup p_WORDS_4 = some ⟨.type "tuple", o_WORDS_4, .seq y_WORDS_4 m_WORDS_4, s_WORDS_4⟩) (w_WORDS_4 : y_WORDS_4.size ≤ sizeLine) (q_WORDS_4 : Vals ((["put"] : List Str).map V.str) y_WORDS_4.toList)
    {p_WORDS_5 : Addr} {o_WORDS_5 : Option Addr} {s_WORDS_5 : Array (Option Value)} {y_WORDS_5 : Array Value} {m_WORDS_5 : Nat} (x_WORDS_5 : PySem.W.nsIn K d_WORDS "inout" = some (some (.ref p_WORDS_5))) (e_WORDS_5 : K.lookup p_WORDS_5 = some ⟨.type "tuple", o_WORDS_5, .seq y_WORDS_5 m_WORDS_5, s_WORDS_5⟩) (w_WORDS_5 : y_WORDS_5.size ≤ sizeLine) (q_WORDS_5 : Vals ((["put", "take"] : List Str).map V.str) y_WORDS_5.toList)
    {p_WORDS_6 : Addr} {o_WORDS_6 : Option Addr} {s_WORDS_6 : Array (Option Value)} {y_WORDS_6 : Array Value} {m_WORDS_6 : Nat} (x_WORDS_6 : PySem.W.nsIn K d_WORDS "relabel" = some (some (.ref p_WORDS_6))) (e_WORDS_6 : K.lookup p_WORDS_6 = some ⟨.type "tuple", o_WORDS_6, .seq y_WORDS_6 m_WORDS_6, s_WORDS_6⟩) (w_WORDS_6 : y_WORDS_6.size ≤ sizeLine) (q_WORDS_6 : Vals ((["put", "turn"] : List Str).map V.str) y_WORDS_6.toList)
    {p_WORDS_7 : Addr} {o_WORDS_7 : Option Addr} {s_WORDS_7 : Array (Option Value)} {y_WORDS_7 : Array Value} {m_WORDS_7 : Nat} (x_WORDS_7 : PySem.W.nsIn K d_WORDS "reverse" = some (some (.ref p_WORDS_7))) (e_WORDS_7 : K.lookup p_WORDS_7 = some ⟨.type "tuple", o_WORDS_7, .seq y_WORDS_7 m_WORDS_7, s_WORDS_7⟩) (w_WORDS_7 : y_WORDS_7.size ≤ sizeLine) (q_WORDS_7 : Vals ((["put", "turn"] : List Str).map V.str) y_WORDS_7.toList)
    {p_PLACELESS : Addr} {o_PLACELESS : Option Addr} {s_PLACELESS : Array (Option Value)} {y_PLACELESS : Array Value} {m_PLACELESS : Nat} (x_PLACELESS : PySem.W.nsIn K mainGlobals "PLACELESS" = some (some (.ref p_PLACELESS))) (e_PLACELESS : K.lookup p_PLACELESS = some ⟨.type "tuple", o_PLACELESS, .seq y_PLACELESS m_PLACELESS, s_PLACELESS⟩) (w_PLACELESS : y_PLACELESS.size ≤ sizeLine) (q_PLACELESS : Vals ((["in", "inout"] : List Str).map V.str) y_PLACELESS.toList)
    {p_TAKING : Addr} {o_TAKING : Option Addr} {s_TAKING : Array (Option Value)} {y_TAKING : Array Value} {m_TAKING : Nat} (x_TAKING : PySem.W.nsIn K mainGlobals "TAKING" = some (some (.ref p_TAKING))) (e_TAKING : K.lookup p_TAKING = some ⟨.type "tuple", o_TAKING, .seq y_TAKING m_TAKING, s_TAKING⟩) (w_TAKING : y_TAKING.size ≤ sizeLine) (q_TAKING : Vals ((["stack", "deque", "inout"] : List Str).map V.str) y_TAKING.toList)
    : ∃ fd : FuncData, (∀ (s : Shared) (v : Value), BindsTo s fd ⟨[v], []⟩ [("script", v)]) ∧ ∀ base : Heap, K.In base → base.Ns mainGlobals mg → FnOk l.prog w K mg base (L2.CX l.prog w) 13 fa fd ["script"] (spL K) := by
  have e := hfa.symm.trans (PySem.W.mg_of X G a_law)
  cases e
  have kt_WORDS : KTab K w d_WORDS tb_WORDS := by
    refine ⟨⟨_, _, ⟨h_WORDS, i_WORDS, j_WORDS⟩⟩, ktab_of fun p hp => ?_⟩
    unfold tb_WORDS at hp
    simp only [List.mem_cons, List.not_mem_nil, or_false] at hp
    rcases hp with rfl | rfl | rfl | rfl | rfl | rfl | rfl | rfl
    · exact ⟨_, x_WORDS_0, _, _, _, e_WORDS_0, rfl, rfl, w_WORDS_0, q_WORDS_0⟩
    · exact ⟨_, x_WORDS_1, _, _, _, e_WORDS_1, rfl, rfl, w_WORDS_1, q_WORDS_1⟩
    · exact ⟨_, x_WORDS_2, _, _, _, e_WORDS_2, rfl, rfl, w_WORDS_2, q_WORDS_2⟩
    · exact ⟨_, x_WORDS_3, _, _, _, e_WORDS_3, rfl, rfl, w_WORDS_3, q_WORDS_3⟩
    · exact ⟨_, x_WORDS_4, _, _, _, e_WORDS_4, rfl, rfl, w_WORDS_4, q_WORDS_4⟩
    · exact ⟨_, x_WORDS_5, _, _, _, e_WORDS_5, rfl, rfl, w_WORDS_5, q_WORDS_5⟩
    · exact ⟨_, x_WORDS_6, _, _, _, e_WORDS_6, rfl, rfl, w_WORDS_6, q_WORDS_6⟩
    · exact ⟨_, x_WORDS_7, _, _, _, e_WORDS_7, rfl, rfl, w_WORDS_7, q_WORDS_7⟩
  have T : Txt w K mg := ⟨PySem.W.mg_none_of X G z_all, PySem.W.mg_none_of X G z_any, PySem.W.mg_none_of X G z_bool, PySem.W.mg_none_of X G z_enumerate, PySem.W.mg_none_of X G z_int, PySem.W.mg_none_of X G z_isinstance, PySem.W.mg_none_of X G z_len, PySem.W.mg_none_of X G z_list, PySem.W.mg_none_of X G z_max, PySem.W.mg_none_of X G z_range, PySem.W.mg_none_of X G z_set, PySem.W.mg_none_of X G z_sorted, PySem.W.mg_none_of X G z_str, PySem.W.mg_none_of X G z_sum, PySem.W.mg_none_of X G z_tuple, ⟨_, PySem.W.mg_of X G v_MOST_ANSWER⟩, ⟨_, PySem.W.mg_of X G v_MOST_COUNT⟩, ⟨_, PySem.W.mg_of X G v_MOST_LETTERS⟩, ⟨_, PySem.W.mg_of X G v_MOST_STATES⟩, ⟨_, PySem.W.mg_of X G v_MOST_SURE⟩, ⟨_, PySem.W.mg_of X G x_PLACELESS, _, _, _, e_PLACELESS, rfl, rfl, w_PLACELESS, q_PLACELESS⟩, ⟨_, PySem.W.mg_of X G x_TAKING, _, _, _, e_TAKING, rfl, rfl, w_TAKING, q_TAKING⟩, ⟨_, PySem.W.mg_of X G g_WORDS, kt_WORDS⟩⟩
  have Fl := fun_mk (st := s_law) l_law c_law k_law
  refine ⟨(PySem.W.fnOf "law" "law" (defArgs s_law) (defBody s_law) (defScope s_law) .none kV_law dc_law pm_law an_law cd_law ct_law), fun s v => .of_eq rfl, fun base _ _ => ?_⟩
  have g_law_all := ok_law_all (P := l.prog) (w := w) (Tb := []) (base := base) T  (fun_mk (st := s_law_all) l_law_all c_law_all k_law_all) (PySem.W.mg_of X G a_law_all) 12
  have g_law_taken := ok_law_taken (P := l.prog) (w := w) (Tb := []) (base := base) T  (fun_mk (st := s_law_taken) l_law_taken c_law_taken k_law_taken) (PySem.W.mg_of X G a_law_taken) 
  have g_law_pick := ok_law_pick (P := l.prog) (w := w) (Tb := []) (base := base) T g_law_taken (fun_mk (st := s_law_pick) l_law_pick c_law_pick k_law_pick) (PySem.W.mg_of X G a_law_pick) 
  have g_is_number := ok_is_number (P := l.prog) (w := w) (Tb := []) (base := base) T  (fun_mk (st := s_is_number) l_is_number c_is_number k_is_number) (PySem.W.mg_of X G a_is_number) 
  have g_are_numbers := ok_are_numbers (P := l.prog) (w := w) (Tb := []) (base := base) T g_is_number (fun_mk (st := s_are_numbers) l_are_numbers c_are_numbers k_are_numbers) (PySem.W.mg_of X G a_are_numbers) 
  have g_are_steps := ok_are_steps (P := l.prog) (w := w) (Tb := []) (base := base) T g_are_numbers (fun_mk (st := s_are_steps) l_are_steps c_are_steps k_are_steps) (PySem.W.mg_of X G a_are_steps) 
  have g_check_question := ok_check_question (P := l.prog) (w := w) (Tb := []) (base := base) T g_is_number g_are_steps g_are_numbers (fun_mk (st := s_check_question) l_check_question c_check_question k_check_question) (PySem.W.mg_of X G a_check_question) 
  have g_parted_groups := ok_parted_groups (P := l.prog) (w := w) (Tb := []) (base := base) T  (fun_mk (st := s_parted_groups) l_parted_groups c_parted_groups k_parted_groups) (PySem.W.mg_of X G a_parted_groups) 
  have g_groups_of := ok_groups_of (P := l.prog) (w := w) (Tb := []) (base := base) T g_parted_groups ⟨⟨_, _, _, _, _, _, _, _, _, _, rfl, l_groups_of, c_groups_of, .inr ⟨by simp, T_groups_of, _, yT_groups_of.toList, _, rfl, t_groups_of, rfl, u_groups_of⟩, .inl rfl⟩, k_groups_of⟩ (PySem.W.mg_of X G a_groups_of) 
  have g_least_of := ok_least_of (P := l.prog) (w := w) (Tb := []) (base := base) T g_groups_of ⟨⟨_, _, _, _, _, _, _, _, _, _, rfl, l_least_of, c_least_of, .inr ⟨by simp, T_least_of, _, yT_least_of.toList, _, rfl, t_least_of, rfl, u_least_of⟩, .inl rfl⟩, k_least_of⟩ (PySem.W.mg_of X G a_least_of) 
  have g_answers_of := ok_answers_of (P := l.prog) (w := w) (Tb := []) (base := base) T  (fun_mk (st := s_answers_of) l_answers_of c_answers_of k_answers_of) (PySem.W.mg_of X G a_answers_of) 
  have g_counts_up_to := ok_counts_up_to (P := l.prog) (w := w) (Tb := []) (base := base) T  (fun_mk (st := s_counts_up_to) l_counts_up_to c_counts_up_to k_counts_up_to) (PySem.W.mg_of X G a_counts_up_to) 
  have g_add_ways := ok_add_ways (P := l.prog) (w := w) (Tb := []) (base := base) T  (fun_mk (st := s_add_ways) l_add_ways c_add_ways k_add_ways) (PySem.W.mg_of X G a_add_ways) 
  have g_ways_up_to := ok_ways_up_to (P := l.prog) (w := w) (Tb := []) (base := base) T g_counts_up_to g_add_ways (fun_mk (st := s_ways_up_to) l_ways_up_to c_ways_up_to k_ways_up_to) (PySem.W.mg_of X G a_ways_up_to) 
  have g_arrangements := ok_arrangements (P := l.prog) (w := w) (Tb := []) (base := base) T g_check_question g_are_numbers g_least_of g_answers_of g_ways_up_to (fun_mk (st := s_arrangements) l_arrangements c_arrangements k_arrangements) (PySem.W.mg_of X G a_arrangements) 
  have g_possible := ok_possible (P := l.prog) (w := w) (Tb := []) (base := base) T g_arrangements (fun_mk (st := s_possible) l_possible c_possible k_possible) (PySem.W.mg_of X G a_possible) 
  have g_is_sure := ok_is_sure (P := l.prog) (w := w) (Tb := []) (base := base) T g_arrangements (fun_mk (st := s_is_sure) l_is_sure c_is_sure k_is_sure) (PySem.W.mg_of X G a_is_sure) 
  have g_law_alike := ok_law_alike (P := l.prog) (w := w) (Tb := []) (base := base) T  (fun_mk (st := s_law_alike) l_law_alike c_law_alike k_law_alike) (PySem.W.mg_of X G a_law_alike) 6
  have g_check_world := ok_check_world (P := l.prog) (w := w) (Tb := []) (base := base) T  (fun_mk (st := s_check_world) l_check_world c_check_world k_check_world) (PySem.W.mg_of X G a_check_world) 
  have g_is_parting := ok_is_parting (P := l.prog) (w := w) (Tb := []) (base := base) T  (fun_mk (st := s_is_parting) l_is_parting c_is_parting k_is_parting) (PySem.W.mg_of X G a_is_parting) 
  have g_is_commuting := ok_is_commuting (P := l.prog) (w := w) (Tb := []) (base := base) T  (fun_mk (st := s_is_commuting) l_is_commuting c_is_commuting k_is_commuting) (PySem.W.mg_of X G a_is_commuting) 
  have g_is_kept := ok_is_kept (P := l.prog) (w := w) (Tb := []) (base := base) T g_is_commuting g_is_parting (fun_mk (st := s_is_kept) l_is_kept c_is_kept k_is_kept) (PySem.W.mg_of X G a_is_kept) 
  have g_can_keep := ok_can_keep (P := l.prog) (w := w) (Tb := []) (base := base) T g_check_world g_check_question g_is_kept g_least_of (fun_mk (st := s_can_keep) l_can_keep c_can_keep k_can_keep) (PySem.W.mg_of X G a_can_keep) 
  have g_law_state := ok_law_state (P := l.prog) (w := w) (Tb := []) (base := base) T  (fun_mk (st := s_law_state) l_law_state c_law_state k_law_state) (PySem.W.mg_of X G a_law_state) 
  have g_sure_counts := ok_sure_counts (P := l.prog) (w := w) (Tb := []) (base := base) T g_check_question g_is_number g_least_of g_ways_up_to g_answers_of (fun_mk (st := s_sure_counts) l_sure_counts c_sure_counts k_sure_counts) (PySem.W.mg_of X G a_sure_counts) 
  have g_law_question := ok_law_question (P := l.prog) (w := w) (Tb := []) (base := base) T g_law_taken (fun_mk (st := s_law_question) l_law_question c_law_question k_law_question) (PySem.W.mg_of X G a_law_question) 
  have g_law_counting := ok_law_counting (P := l.prog) (w := w) (Tb := []) (base := base) T g_law_taken (fun_mk (st := s_law_counting) l_law_counting c_law_counting k_law_counting) (PySem.W.mg_of X G a_law_counting) 
  have gl := ok_law (P := l.prog) (w := w) (Tb := []) (base := base) T g_law_taken g_law_pick g_law_question g_law_counting g_law_all g_law_state g_arrangements g_possible g_is_sure g_law_alike g_sure_counts g_can_keep Fl 
  refine gl.imp fun vs H Q E q => ?_
  obtain ⟨a, ns, rfl, hS, hl, hO, q⟩ := q
  exact law_endT hF H a ns hl hS (fun p hp => nomatch hp) q
end P66
open PySem PySem.W PyProof.Rows
set_option maxHeartbeats 0 in
theorem PySem.Challenge.cw_toldwhat_k66_whole_counts_alone_holds : PySem.Challenge.rw_toldwhat_k66_whole_counts_alone.Holds := by
  w_on; o_law; k_head; (case hw => w_witness2)
  k_fill
  refine L2.walk_of (l := PySem.Challenge.rw_toldwhat_k66_whole_counts_alone) (n := 63) (k := 13) (x := "script") (CX := fun w => L2.CX PySem.Challenge.rw_toldwhat_k66_whole_counts_alone.prog w) (sp := fun w => P66.spL _) rfl (by decide) rfl ⟨rfl, by decide, by decide⟩ (fun w h Y => PySem.W.kIn_of Y) ?F (fun _ _ a ns hl hO hS => ⟨a, ns, rfl, hS, hl, hO, fun _ => rfl⟩) AB.cx_false
  case F =>
    intro w mg fa h KX G hmg
    refine' P66.all_mk KX G hmg P66.maths ?a_law_all ?l_law_all ?c_law_all ?k_law_all ?a_law_taken ?l_law_taken ?c_law_taken ?k_law_taken ?a_law_pick ?l_law_pick ?c_law_pick ?k_law_pick ?a_is_number ?l_is_number ?c_is_number ?k_is_number ?a_are_numbers ?l_are_numbers ?c_are_numbers ?k_are_numbers ?a_are_steps ?l_are_steps ?c_are_steps ?k_are_steps ?a_check_question ?l_check_question ?c_check_question ?k_check_question ?a_parted_groups ?l_parted_groups ?c_parted_groups ?k_parted_groups ?a_groups_of ?l_groups_of ?c_groups_of ?k_groups_of ?t_groups_of ?u_groups_of ?a_least_of ?l_least_of ?c_least_of ?k_least_of ?t_least_of ?u_least_of ?a_answers_of ?l_answers_of ?c_answers_of ?k_answers_of ?a_counts_up_to ?l_counts_up_to ?c_counts_up_to ?k_counts_up_to ?a_add_ways ?l_add_ways ?c_add_ways ?k_add_ways ?a_ways_up_to ?l_ways_up_to ?c_ways_up_to ?k_ways_up_to ?a_arrangements ?l_arrangements ?c_arrangements ?k_arrangements ?a_possible ?l_possible ?c_possible ?k_possible ?a_is_sure ?l_is_sure ?c_is_sure ?k_is_sure ?a_law_alike ?l_law_alike ?c_law_alike ?k_law_alike ?a_check_world ?l_check_world ?c_check_world ?k_check_world ?a_is_parting ?l_is_parting ?c_is_parting ?k_is_parting ?a_is_commuting ?l_is_commuting ?c_is_commuting ?k_is_commuting ?a_is_kept ?l_is_kept ?c_is_kept ?k_is_kept ?a_can_keep ?l_can_keep ?c_can_keep ?k_can_keep ?a_law_state ?l_law_state ?c_law_state ?k_law_state ?a_sure_counts ?l_sure_counts ?c_sure_counts ?k_sure_counts ?a_law_question ?l_law_question ?c_law_question ?k_law_question ?a_law_counting ?l_law_counting ?c_law_counting ?k_law_counting ?a_law ?l_law ?c_law ?k_law ?v_MOST_ANSWER ?v_MOST_COUNT ?v_MOST_LETTERS ?v_MOST_STATES ?v_MOST_SURE ?z_all ?z_any ?z_bool ?z_enumerate ?z_int ?z_isinstance ?z_len ?z_list ?z_max ?z_range ?z_set ?z_sorted ?z_str ?z_sum ?z_tuple ?g_WORDS ?h_WORDS ?i_WORDS ?j_WORDS ?x_WORDS_0 ?e_WORDS_0 ?w_WORDS_0 ?q_WORDS_0 ?x_WORDS_1 ?e_WORDS_1 ?w_WORDS_1 ?q_WORDS_1 ?x_WORDS_2 ?e_WORDS_2 ?w_WORDS_2 ?q_WORDS_2 ?x_WORDS_3 ?e_WORDS_3 ?w_WORDS_3 ?q_WORDS_3 ?x_WORDS_4 ?e_WORDS_4 ?w_WORDS_4 ?q_WORDS_4 ?x_WORDS_5 ?e_WORDS_5 ?w_WORDS_5 ?q_WORDS_5 ?x_WORDS_6 ?e_WORDS_6 ?w_WORDS_6 ?q_WORDS_6 ?x_WORDS_7 ?e_WORDS_7 ?w_WORDS_7 ?q_WORDS_7 ?x_PLACELESS ?e_PLACELESS ?w_PLACELESS ?q_PLACELESS ?x_TAKING ?e_TAKING ?w_TAKING ?q_TAKING
    (case a_law_all => k_is)
    (case l_law_all => k_is)
    (case c_law_all => k_is)
    (case k_law_all => k_is)
    (case a_law_taken => k_is)
    (case l_law_taken => k_is)
    (case c_law_taken => k_is)
    (case k_law_taken => k_is)
    (case a_law_pick => k_is)
    (case l_law_pick => k_is)
    (case c_law_pick => k_is)
    (case k_law_pick => k_is)
    (case a_is_number => k_is)
    (case l_is_number => k_is)
    (case c_is_number => k_is)
    (case k_is_number => k_is)
    (case a_are_numbers => k_is)
    (case l_are_numbers => k_is)
    (case c_are_numbers => k_is)
    (case k_are_numbers => k_is)
    (case a_are_steps => k_is)
    (case l_are_steps => k_is)
    (case c_are_steps => k_is)
    (case k_are_steps => k_is)
    (case a_check_question => k_is)
    (case l_check_question => k_is)
    (case c_check_question => k_is)
    (case k_check_question => k_is)
    (case a_parted_groups => k_is)
    (case l_parted_groups => k_is)
    (case c_parted_groups => k_is)
    (case k_parted_groups => k_is)
    (case a_groups_of => k_is)
    (case l_groups_of => k_is)
    (case c_groups_of => k_is)
    (case k_groups_of => k_is)
    (case t_groups_of => k_is)
    (case u_groups_of => exact .cons rfl .nil)
    (case a_least_of => k_is)
    (case l_least_of => k_is)
    (case c_least_of => k_is)
    (case k_least_of => k_is)
    (case t_least_of => k_is)
    (case u_least_of => exact .cons rfl .nil)
    (case a_answers_of => k_is)
    (case l_answers_of => k_is)
    (case c_answers_of => k_is)
    (case k_answers_of => k_is)
    (case a_counts_up_to => k_is)
    (case l_counts_up_to => k_is)
    (case c_counts_up_to => k_is)
    (case k_counts_up_to => k_is)
    (case a_add_ways => k_is)
    (case l_add_ways => k_is)
    (case c_add_ways => k_is)
    (case k_add_ways => k_is)
    (case a_ways_up_to => k_is)
    (case l_ways_up_to => k_is)
    (case c_ways_up_to => k_is)
    (case k_ways_up_to => k_is)
    (case a_arrangements => k_is)
    (case l_arrangements => k_is)
    (case c_arrangements => k_is)
    (case k_arrangements => k_is)
    (case a_possible => k_is)
    (case l_possible => k_is)
    (case c_possible => k_is)
    (case k_possible => k_is)
    (case a_is_sure => k_is)
    (case l_is_sure => k_is)
    (case c_is_sure => k_is)
    (case k_is_sure => k_is)
    (case a_law_alike => k_is)
    (case l_law_alike => k_is)
    (case c_law_alike => k_is)
    (case k_law_alike => k_is)
    (case a_check_world => k_is)
    (case l_check_world => k_is)
    (case c_check_world => k_is)
    (case k_check_world => k_is)
    (case a_is_parting => k_is)
    (case l_is_parting => k_is)
    (case c_is_parting => k_is)
    (case k_is_parting => k_is)
    (case a_is_commuting => k_is)
    (case l_is_commuting => k_is)
    (case c_is_commuting => k_is)
    (case k_is_commuting => k_is)
    (case a_is_kept => k_is)
    (case l_is_kept => k_is)
    (case c_is_kept => k_is)
    (case k_is_kept => k_is)
    (case a_can_keep => k_is)
    (case l_can_keep => k_is)
    (case c_can_keep => k_is)
    (case k_can_keep => k_is)
    (case a_law_state => k_is)
    (case l_law_state => k_is)
    (case c_law_state => k_is)
    (case k_law_state => k_is)
    (case a_sure_counts => k_is)
    (case l_sure_counts => k_is)
    (case c_sure_counts => k_is)
    (case k_sure_counts => k_is)
    (case a_law_question => k_is)
    (case l_law_question => k_is)
    (case c_law_question => k_is)
    (case k_law_question => k_is)
    (case a_law_counting => k_is)
    (case l_law_counting => k_is)
    (case c_law_counting => k_is)
    (case k_law_counting => k_is)
    (case a_law => k_is)
    (case l_law => k_is)
    (case c_law => k_is)
    (case k_law => k_is)
    (case v_MOST_ANSWER => k_is)
    (case v_MOST_COUNT => k_is)
    (case v_MOST_LETTERS => k_is)
    (case v_MOST_STATES => k_is)
    (case v_MOST_SURE => k_is)
    (case z_all => k_is)
    (case z_any => k_is)
    (case z_bool => k_is)
    (case z_enumerate => k_is)
    (case z_int => k_is)
    (case z_isinstance => k_is)
    (case z_len => k_is)
    (case z_list => k_is)
    (case z_max => k_is)
    (case z_range => k_is)
    (case z_set => k_is)
    (case z_sorted => k_is)
    (case z_str => k_is)
    (case z_sum => k_is)
    (case z_tuple => k_is)
    (case g_WORDS => k_is)
    (case h_WORDS => k_is)
    (case i_WORDS => k_keys)
    (case j_WORDS => decide)
    (case x_WORDS_0 => k_is)
    (case e_WORDS_0 => k_is)
    (case w_WORDS_0 => decide)
    (case q_WORDS_0 => exact (.cons ⟨_, rfl⟩ .nil))
    (case x_WORDS_1 => k_is)
    (case e_WORDS_1 => k_is)
    (case w_WORDS_1 => decide)
    (case q_WORDS_1 => exact (.cons ⟨_, rfl⟩ (.cons ⟨_, rfl⟩ .nil)))
    (case x_WORDS_2 => k_is)
    (case e_WORDS_2 => k_is)
    (case w_WORDS_2 => decide)
    (case q_WORDS_2 => exact (.cons ⟨_, rfl⟩ (.cons ⟨_, rfl⟩ .nil)))
    (case x_WORDS_3 => k_is)
    (case e_WORDS_3 => k_is)
    (case w_WORDS_3 => decide)
    (case q_WORDS_3 => exact (.cons ⟨_, rfl⟩ (.cons ⟨_, rfl⟩ (.cons ⟨_, rfl⟩ (.cons ⟨_, rfl⟩ .nil)))))
    (case x_WORDS_4 => k_is)
    (case e_WORDS_4 => k_is)
    (case w_WORDS_4 => decide)
    (case q_WORDS_4 => exact (.cons ⟨_, rfl⟩ .nil))
    (case x_WORDS_5 => k_is)
    (case e_WORDS_5 => k_is)
    (case w_WORDS_5 => decide)
    (case q_WORDS_5 => exact (.cons ⟨_, rfl⟩ (.cons ⟨_, rfl⟩ .nil)))
    (case x_WORDS_6 => k_is)
    (case e_WORDS_6 => k_is)
    (case w_WORDS_6 => decide)
    (case q_WORDS_6 => exact (.cons ⟨_, rfl⟩ (.cons ⟨_, rfl⟩ .nil)))
    (case x_WORDS_7 => k_is)
    (case e_WORDS_7 => k_is)
    (case w_WORDS_7 => decide)
    (case q_WORDS_7 => exact (.cons ⟨_, rfl⟩ (.cons ⟨_, rfl⟩ .nil)))
    (case x_PLACELESS => k_is)
    (case e_PLACELESS => k_is)
    (case w_PLACELESS => decide)
    (case q_PLACELESS => exact (.cons ⟨_, rfl⟩ (.cons ⟨_, rfl⟩ .nil)))
    (case x_TAKING => k_is)
    (case e_TAKING => k_is)
    (case w_TAKING => decide)
    (case q_TAKING => exact (.cons ⟨_, rfl⟩ (.cons ⟨_, rfl⟩ (.cons ⟨_, rfl⟩ .nil))))
