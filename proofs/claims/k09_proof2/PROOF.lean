import PyProof.Rows.All
import Wide.All
import OpenK.AllK
import Wide.FinOn
import HandS.ForMost
import HandS.ForExc
import KE.KeyNested
import HandS.Strs
import HandS.Lambda
import HandS.IsInst
import HandS.TupAny
import HandS.Deep
import HandS.Zip
import HandS.SortInts
import HandS.Conv
import HandS.TupLen
import HandS.Wide
import KE.GoesMore
import PyProof.Draws
import HandS.Style
import PyProof.Rows.TupDisplay
import HandS.Defaults
import HandS.CallSlots
import KE.KFromBytes
import HandS.Base
import HandS.Call
import HandS.List
import HandS.More
import KE.LtData
import HandS.DictComp
import KE.GoesEnumKw
import HandS.SetFor
import HandS.SetBool
import HandS.EndTab
import KE.KNestM
import PySem.Challenge.RW_toldwhat_k09_whole_slips
set_option Elab.async false
set_option linter.all false
set_option maxRecDepth 100000
set_option maxHeartbeats 8000000
/-! AB: an abstract machine over the hand layer: values are trees, lists and dicts stand in a store by number. -/
namespace AB
open PySem PySem.Spec PyProof.Rows L2
inductive A where
  | non | bl (b : Bool) | int (i : Int) | str (x : Str) | tup (xs : List A) | lst (l : Nat) | dct (l : Nat) | ty (n : String) | obj (l : Nat) | rng (lo hi : Int)
inductive Cell where
  | lst (xs : List A) | frz (xs : List A) | dK (kvs : List (Key × A)) | dT (kvs : List (List Key × A)) | dN (kvs : List (NestedKey × A)) | st (xs : List Int) | obj | xd (fs : List (Str × A)) | ins (C : Str) (fs : List (Str × A))
abbrev Store := List Cell
structure Exn where
  name : Str
  dct : Option Nat
inductive EO (α : Type) where
  | ok (a : α) (M : Store) | ex (e : Exn) (M : Store) | bad
def EO.bind {α β : Type} (x : EO α) (g : α → Store → EO β) : EO β := match x with
  | .ok a M => g a M
  | .ex e M => .ex e M
  | .bad => .bad
abbrev Sl := List (Option A)
abbrev EF := Sl → Store → EO A
abbrev EFs := Sl → Store → EO (List A)
abbrev EFb := Sl → Store → EO Bool
/-! ### the relation -/
mutual
inductive Is (ρ : List Addr) (H : Hp) : A → V → Prop
  | non : Is ρ H .non .non
  | bl (b : Bool) : Is ρ H (.bl b) (.bl b)
  | int (i : Int) : Is ρ H (.int i) (.int i)
  | str (x : Str) : Is ρ H (.str x) (.str x)
  | tup {a : Addr} {ts : List A} {vs : List V} : H a = some (.tup vs) → IsAll ρ H ts vs → Is ρ H (.tup ts) (.ref a)
  | lst {i : Nat} {a : Addr} : ρ[i]? = some a → Is ρ H (.lst i) (.ref a)
  | dct {i : Nat} {a : Addr} : ρ[i]? = some a → Is ρ H (.dct i) (.ref a)
  | ty (n : String) : Is ρ H (.ty n) (.ty n)
  | obj {i : Nat} {a : Addr} : ρ[i]? = some a → Is ρ H (.obj i) (.ref a)
  | rng {lo hi : Int} {a : Addr} : H a = some (.rng lo hi) → Is ρ H (.rng lo hi) (.ref a)
inductive IsAll (ρ : List Addr) (H : Hp) : List A → List V → Prop
  | nil : IsAll ρ H [] []
  | cons {t : A} {v : V} {ts : List A} {vs : List V} : Is ρ H t v → IsAll ρ H ts vs → IsAll ρ H (t :: ts) (v :: vs)
end
def Ext (ρ ρ' : List Addr) : Prop := ∃ t, ρ' = ρ ++ t
/-- what never changes -/
inductive Imm : HO → Prop where
  | tup (xs) : Imm (.tup xs)
  | rng (a b) : Imm (.rng a b)
  | own (x) : Imm (.own x)
  | code (c : Addr) (q : Str) : Imm (LamX.CodeO c q)
def Grow (H H' : Hp) : Prop := ∀ a u, Imm u → H a = some u → H' a = some u
theorem Ext.refl (ρ : List Addr) : Ext ρ ρ := ⟨[], by simp⟩
theorem Ext.trans {a b c : List Addr} (x : Ext a b) (y : Ext b c) : Ext a c := by
  obtain ⟨t, rfl⟩ := x
  obtain ⟨u, rfl⟩ := y
  exact ⟨t ++ u, by simp⟩
theorem Ext.get {ρ ρ' : List Addr} (x : Ext ρ ρ') {i : Nat} {a : Addr} (h : ρ[i]? = some a) : ρ'[i]? = some a := by
  obtain ⟨t, rfl⟩ := x
  have hi : i < ρ.length := (List.getElem?_eq_some_iff.mp h).1
  rw [List.getElem?_append_left hi]; exact h
theorem Ext.snoc (ρ : List Addr) (p : Addr) : Ext ρ (ρ ++ [p]) := ⟨[p], rfl⟩
theorem Grow.refl (H : Hp) : Grow H H := fun _ _ _ h => h
theorem Grow.trans {a b c : Hp} (x : Grow a b) (y : Grow b c) : Grow a c := fun p xs i h => y p xs i (x p xs i h)
theorem Grow.upd {H : Hp} {p : Addr} {o : HO} (h : ∀ u, Imm u → H p ≠ some u) : Grow H (upd H p o) := fun a xs i e => by
  have : a ≠ p := fun z => by subst z; exact h _ i e
  rw [upd_ne this]; exact e
theorem Grow.new {H : Hp} {p : Addr} {o : HO} (h : H p = none) : Grow H (L2.upd H p o) := Grow.upd (fun xs _ e => by rw [h] at e; cases e)
mutual
theorem Is.mono {ρ ρ' : List Addr} {H H' : Hp} (x : Ext ρ ρ') (g : Grow H H') : ∀ {t : A} {v : V}, Is ρ H t v → Is ρ' H' t v
  | _, _, .non => .non
  | _, _, .bl b => .bl b
  | _, _, .int i => .int i
  | _, _, .str s => .str s
  | _, _, .tup h r => .tup (g _ _ (.tup _) h) (IsAll.mono x g r)
  | _, _, .lst h => .lst (x.get h)
  | _, _, .dct h => .dct (x.get h)
  | _, _, .ty n => .ty n
  | _, _, .obj h => .obj (x.get h)
  | _, _, .rng h => .rng (g _ _ (.rng _ _) h)
theorem IsAll.mono {ρ ρ' : List Addr} {H H' : Hp} (x : Ext ρ ρ') (g : Grow H H') : ∀ {ts : List A} {vs : List V}, IsAll ρ H ts vs → IsAll ρ' H' ts vs
  | _, _, .nil => .nil
  | _, _, .cons r rs => .cons (Is.mono x g r) (IsAll.mono x g rs)
end
section
variable {ρ : List Addr} {H : Hp}
theorem IsAll.length : ∀ {ts : List A} {vs : List V}, IsAll ρ H ts vs → ts.length = vs.length
  | _, _, .nil => rfl
  | _, _, .cons _ r => by simp [IsAll.length r]
theorem IsAll.append : ∀ {ts us : List A} {vs ws : List V}, IsAll ρ H ts vs → IsAll ρ H us ws → IsAll ρ H (ts ++ us) (vs ++ ws)
  | _, _, _, _, .nil, s => s
  | _, _, _, _, .cons r t, s => .cons r (IsAll.append t s)
theorem IsAll.get : ∀ {ts : List A} {vs : List V} {i : Nat} {t : A}, IsAll ρ H ts vs → ts[i]? = some t → ∃ v, vs[i]? = some v ∧ Is ρ H t v
  | _, _, _, _, .nil, e => by simp at e
  | _, _, 0, _, .cons r _, e => by simp at e; subst e; exact ⟨_, rfl, r⟩
  | _, _, i + 1, _, .cons _ r, e => by
    obtain ⟨v, h1, h2⟩ := IsAll.get (i := i) r (by simpa using e)
    exact ⟨v, by simpa using h1, h2⟩
theorem IsAll.getV : ∀ {ts : List A} {vs : List V} {i : Nat} {v : V}, IsAll ρ H ts vs → vs[i]? = some v → ∃ t, ts[i]? = some t ∧ Is ρ H t v
  | _, _, _, _, .nil, e => by simp at e
  | _, _, 0, _, .cons r _, e => by simp at e; subst e; exact ⟨_, rfl, r⟩
  | _, _, i + 1, _, .cons _ r, e => by
    obtain ⟨v, h1, h2⟩ := IsAll.getV (i := i) r (by simpa using e)
    exact ⟨v, by simpa using h1, h2⟩
theorem IsAll.take : ∀ {ts : List A} {vs : List V} (n : Nat), IsAll ρ H ts vs → IsAll ρ H (ts.take n) (vs.take n)
  | _, _, 0, _ => by simpa using IsAll.nil
  | _, _, _ + 1, .nil => by simpa using IsAll.nil
  | _, _, n + 1, .cons r t => by simpa using IsAll.cons r (IsAll.take n t)
theorem IsAll.drop : ∀ {ts : List A} {vs : List V} (n : Nat), IsAll ρ H ts vs → IsAll ρ H (ts.drop n) (vs.drop n)
  | _, _, 0, r => by simpa using r
  | _, _, _ + 1, .nil => by simpa using IsAll.nil
  | _, _, n + 1, .cons _ t => by simpa using IsAll.drop n t
theorem IsAll.reverse : ∀ {ts : List A} {vs : List V}, IsAll ρ H ts vs → IsAll ρ H ts.reverse vs.reverse
  | _, _, .nil => .nil
  | _, _, .cons r t => by
    rw [List.reverse_cons, List.reverse_cons]
    exact IsAll.append (IsAll.reverse t) (.cons r .nil)
theorem IsAll.set {t : A} {v : V} (r : Is ρ H t v) : ∀ {ts : List A} {vs : List V} (i : Nat), IsAll ρ H ts vs → IsAll ρ H (ts.set i t) (vs.set i v)
  | _, _, _, .nil => by simpa using IsAll.nil
  | _, _, 0, .cons _ s => .cons r s
  | _, _, i + 1, .cons q s => .cons q (IsAll.set r i s)
theorem IsAll.eraseIdx : ∀ {ts : List A} {vs : List V} (i : Nat), IsAll ρ H ts vs → IsAll ρ H (ts.eraseIdx i) (vs.eraseIdx i)
  | _, _, _, .nil => by simpa using IsAll.nil
  | _, _, 0, .cons _ s => by simpa using s
  | _, _, i + 1, .cons q s => by simpa using IsAll.cons q (IsAll.eraseIdx i s)
theorem IsAll.ints : ∀ {vs : List V} {is : List Int}, IsAll ρ H (is.map A.int) vs → vs = is.map V.int
  | _, [], .nil => rfl
  | _, i :: is, .cons r t => by
    cases r
    rw [IsAll.ints t]; rfl
end
/-- the world and what the top has written -/
abbrev Tbl := List (Addr × Str)
structure Amb where
  wd : World
  K : PySem.W.Frag
  mg : Str → Option Value
  Tb : Tbl
/-- what a text's top and world are -/
structure Gx where
  mg : Str → Option Value
  w : Amb
abbrev _root_.L2.Cx.am (X : Cx) (Tb : Tbl) : Amb := ⟨X.w, X.K, X.mg, Tb⟩
abbrev _root_.L2.Cx.gx (X : Cx) (Tb : Tbl) : Gx := ⟨X.mg, X.am Tb⟩
/-- a wish; where the tables are; what stood at the frame's beginning -/
structure WR where
  w : WX
  Tb : Tbl
  r : List Addr
  h : Hp
instance : CoeFun WR (fun _ => Value → Option Addr → L2.St → Hp → Prop) := ⟨WR.w⟩
/-- .. nothing may be raised -/
abbrev WR.nx (W : WR) : WR := ⟨fun _ _ _ _ => False, W.Tb, W.r, W.h⟩
def Cell.isM : Cell → Bool
  | .frz _ => false
  | .obj => false
  | _ => true
/-- a key, as a value -/
def ofN : NestedKey → A
  | .none => .non
  | .num i => .int i
  | .text x => .str x
  | .tup ks => .tup (ofNs ks)
where ofNs : List NestedKey → List A
  | [] => []
  | k :: ks => ofN k :: ofNs ks
/-- a dict whose keys are tuples of anything: its keys with their places -/
def nestO (w : World) (a : Addr) (ks : List (NestedKey × Addr)) (vs : List V) : HO := .ext fun h => ks.length ≤ sizeLine ∧ (a == sysModules) = false ∧ ks.length = vs.length ∧ (ks.map (·.1)).Nodup ∧
  ∃ us : List Value, Vals vs us ∧ ∃ o es ep, h.get? a = some o ∧ o.ExactDict ∧ o.data = .dict es ep ∧ es.toList = (ks.zip us).map fun p => { hash := p.1.1.hash w, key := .ref p.1.2, val := p.2 }
/-- a list of the written part -/
def FrK (w : Amb) (a : Addr) (vs : List V) : Prop := ∃ (o : Obj) (its : Array Value) (n : Nat), w.K.lookup a = some o ∧ o.cls = .type "list" ∧ o.dict = none ∧ o.data = .seq its n ∧ its.size ≤ sizeLine ∧ Vals vs its.toList
/-- a cell as it lies at its address -/
def RC (w : Amb) (ρ : List Addr) (H : Hp) (a : Addr) : Cell → Prop
  | .lst xs => ∃ vs, H a = some (.lst vs) ∧ IsAll ρ H xs vs
  | .frz xs => ∃ vs, (((∃ o, H a = some (.frz o (.lst vs))) ∨ H a = some (.lst vs)) ∨ FrK w a vs) ∧ IsAll ρ H xs vs
  | .dK kvs => ∃ vs, H a = some (.dK ((kvs.map (·.1)).zip vs)) ∧ IsAll ρ H (kvs.map (·.2)) vs
  | .dT kvs => ∃ vs, H a = some (.dT ((kvs.map (·.1)).zip vs)) ∧ IsAll ρ H (kvs.map (·.2)) vs
  | .dN kvs => ∃ bs vs, H a = some (nestO w.wd a ((kvs.map (·.1)).zip bs) vs) ∧ IsAll ρ H (kvs.map fun kv => ofN kv.1) (bs.map V.ref) ∧ IsAll ρ H (kvs.map (·.2)) vs ∧ ∀ kv ∈ kvs, kv.1.depth ≤ 8
  | .st xs => ∃ S : Int → Bool, H a = some (SetO w.wd a S xs.length) ∧ (∀ k, S k = decide (k ∈ xs))
  | .obj => True
  | .xd fs => ∃ vs, H a = some (.xd ((fs.map (·.1)).zip vs)) ∧ IsAll ρ H (fs.map (·.2)) vs
  | .ins C fs => ∃ (Ca dx : Addr) (vs : List V), w.mg C = some (.ref Ca) ∧ H a = some (.ins Ca dx ((fs.map (·.1)).zip vs)) ∧ H dx = some (.own a) ∧ IsAll ρ H (fs.map (·.2)) vs
/-! ### code objects stand apart -/
/-- whatever is not a record is none of the code objects -/
theorem ext_ne_code {φ : Heap → Prop} {a c : Addr} {q : Str} (hφ : ∀ h, φ h → ∃ o, h.get? a = some o ∧ ∀ vs, o.data ≠ .fields vs) : HO.ext φ ≠ LamX.CodeO c q := fun z => by
  unfold LamX.CodeO at z
  have z := HO.ext.inj z
  let ob : Obj := { cls := .none, data := .fields #[.none, .str q 0] }
  let h : Heap := { objs := Array.replicate (c + 1) ob }
  have all : ∀ (b : Addr) (o : Obj), h.get? b = some o → o = ob := fun b o e => by
    have e := (Heap.get?_some_iff.mp e).1
    rw [show h.objs = Array.replicate (c + 1) ob from rfl, Array.getElem?_replicate] at e
    split at e
    · exact (Option.some.inj e).symm
    · cases e
  have at_c : h.get? c = some ob := Heap.get?_some_iff.mpr ⟨by rw [show h.objs = Array.replicate (c + 1) ob from rfl, Array.getElem?_replicate, if_pos (Nat.lt_succ_self c)], rfl⟩
  have hc : (fun h : Heap => ∃ (oc : Obj) (vs : Array Value) (t : Tok), h.get? c = some oc ∧ oc.data = .fields vs ∧ vs[1]? = some (.str q t)) h :=
    ⟨ob, _, 0, at_c, rfl, rfl⟩
  rw [← z] at hc
  obtain ⟨o, ho, hn⟩ := hφ _ hc
  have := all _ _ ho
  subst this
  exact hn _ rfl
structure RM (w : Amb) (ρ : List Addr) (H : Hp) (M : Store) : Prop where
  len : ρ.length = M.length
  nd : ∀ (i j : Nat) (a : Addr) (c d : Cell), ρ[i]? = some a → ρ[j]? = some a → M[i]? = some c → M[j]? = some d → c.isM = true → d.isM = true → i = j
  at_ : ∀ (i : Nat) (a : Addr) (c : Cell), ρ[i]? = some a → M[i]? = some c → RC w ρ H a c
  tabs : LamX.Tabs w.Tb H
  fz : ∀ (i j : Nat) (a : Addr) (c : Cell) (xs : List A), ρ[i]? = some a → ρ[j]? = some a → M[i]? = some c → M[j]? = some (.frz xs) → c.isM = true → ∃ vs, FrK w a vs ∧ IsAll ρ H xs vs
inductive RS0 (ρ : List Addr) (H : Hp) : Sl → L2.St → Prop
  | nil : RS0 ρ H [] []
  | no {t : Sl} {s : L2.St} {v : Option V} : RS0 ρ H t s → RS0 ρ H (none :: t) (v :: s)
  | yes {t : Sl} {s : L2.St} {a : A} {v : V} : Is ρ H a v → RS0 ρ H t s → RS0 ρ H (some a :: t) (some v :: s)
/-- the slots, behind what stood at the frame's beginning -/
structure RS (W : WR) (ρ : List Addr) (H : Hp) (τ : Sl) (σ : L2.St) : Prop where
  ext : Ext W.r ρ
  grow : Grow W.h H
  s : RS0 ρ H τ σ
section
variable {ρ ρ' : List Addr} {H H' : Hp}
theorem RS0.mono (x : Ext ρ ρ') (g : Grow H H') : ∀ {t : Sl} {s : L2.St}, RS0 ρ H t s → RS0 ρ' H' t s
  | _, _, .nil => .nil
  | _, _, .no r => .no (RS0.mono x g r)
  | _, _, .yes i r => .yes (i.mono x g) (RS0.mono x g r)
theorem RS0.length : ∀ {t : Sl} {s : L2.St}, RS0 ρ H t s → t.length = s.length
  | _, _, .nil => rfl
  | _, _, .no r => by simp [RS0.length r]
  | _, _, .yes _ r => by simp [RS0.length r]
theorem RS0.get : ∀ {t : Sl} {s : L2.St} {i : Nat} {a : A}, RS0 ρ H t s → t[i]? = some (some a) → ∃ v, s[i]? = some (some v) ∧ Is ρ H a v
  | _, _, _, _, .nil, e => by simp at e
  | _, _, 0, _, .no _, e => by simp at e
  | _, _, i + 1, _, .no r, e => by
    obtain ⟨v, h1, h2⟩ := RS0.get (i := i) r (by simpa using e)
    exact ⟨v, by simpa using h1, h2⟩
  | _, _, 0, _, .yes h _, e => by simp at e; subst e; exact ⟨_, rfl, h⟩
  | _, _, i + 1, _, .yes _ r, e => by
    obtain ⟨v, h1, h2⟩ := RS0.get (i := i) r (by simpa using e)
    exact ⟨v, by simpa using h1, h2⟩
theorem RS0.set {a : A} {v : V} (h : Is ρ H a v) : ∀ {t : Sl} {s : L2.St} (i : Nat), RS0 ρ H t s → RS0 ρ H (t.set i (some a)) (s.set i (some v))
  | _, _, _, .nil => .nil
  | _, _, 0, .no r => .yes h r
  | _, _, i + 1, .no r => .no (RS0.set h i r)
  | _, _, 0, .yes _ r => .yes h r
  | _, _, i + 1, .yes q r => .yes q (RS0.set h i r)
theorem RS0.unset : ∀ {t : Sl} {s : L2.St} (i : Nat) (v : Option V), RS0 ρ H t s → RS0 ρ H (t.set i none) (s.set i v)
  | _, _, _, _, .nil => .nil
  | _, _, 0, _, .no r => .no r
  | _, _, i + 1, v, .no r => .no (RS0.unset i v r)
  | _, _, 0, _, .yes _ r => .no r
  | _, _, i + 1, v, .yes q r => .yes q (RS0.unset i v r)
theorem RS.mono {W : WR} (x : Ext ρ ρ') (g : Grow H H') {τ : Sl} {σ : L2.St} (r : RS W ρ H τ σ) : RS W ρ' H' τ σ := ⟨r.ext.trans x, r.grow.trans g, r.s.mono x g⟩
theorem RS.length {W : WR} {τ : Sl} {σ : L2.St} (r : RS W ρ H τ σ) : τ.length = σ.length := r.s.length
theorem RS.get {W : WR} {τ : Sl} {σ : L2.St} {i : Nat} {a : A} (r : RS W ρ H τ σ) (e : τ[i]? = some (some a)) : ∃ v, σ[i]? = some (some v) ∧ Is ρ H a v := r.s.get e
theorem RS.set {W : WR} {a : A} {v : V} (h : Is ρ H a v) {τ : Sl} {σ : L2.St} (i : Nat) (r : RS W ρ H τ σ) : RS W ρ H (τ.set i (some a)) (σ.set i (some v)) := ⟨r.ext, r.grow, r.s.set h i⟩
theorem RS.unset {W : WR} {τ : Sl} {σ : L2.St} (i : Nat) (v : Option V) (r : RS W ρ H τ σ) : RS W ρ H (τ.set i none) (σ.set i v) := ⟨r.ext, r.grow, r.s.unset i v⟩
theorem RS.of {W : WR} {τ τ' : Sl} {σ σ' : L2.St} (r : RS W ρ H τ σ) (s : RS0 ρ H τ' σ') : RS W ρ H τ' σ' := ⟨r.ext, r.grow, s⟩
theorem RC.mono {a : Addr} {c : Cell} (x : Ext ρ ρ') (g : Grow H H') (e : H' a = H a) (r : RC w ρ H a c) : RC w ρ' H' a c := by
  cases c with
  | lst xs => obtain ⟨vs, h, i⟩ := r; exact ⟨vs, e.trans h, i.mono x g⟩
  | frz xs =>
    obtain ⟨vs, h, i⟩ := r
    refine ⟨vs, ?_, i.mono x g⟩
    rcases h with (⟨o, h⟩ | h) | h
    · exact .inl (.inl ⟨o, e.trans h⟩)
    · exact .inl (.inr (e.trans h))
    · exact .inr h
  | dK xs => obtain ⟨vs, h, i⟩ := r; exact ⟨vs, e.trans h, i.mono x g⟩
  | dT xs => obtain ⟨vs, h, i⟩ := r; exact ⟨vs, e.trans h, i.mono x g⟩
  | dN xs => obtain ⟨bs, vs, h, i, j, d⟩ := r; exact ⟨bs, vs, e.trans h, i.mono x g, j.mono x g, d⟩
  | st xs => obtain ⟨S, h, i⟩ := r; exact ⟨S, e.trans h, i⟩
  | obj => trivial
  | xd xs => obtain ⟨vs, h, i⟩ := r; exact ⟨vs, e.trans h, i.mono x g⟩
  | ins C fs => obtain ⟨Ca, dx, vs, h0, h, h2, i⟩ := r; exact ⟨Ca, dx, vs, h0, e.trans h, g _ _ (.own _) h2, i.mono x g⟩
theorem set_ne_code {w : World} {a c : Addr} {S : Int → Bool} {n : Nat} {q : Str} : SetO w a S n ≠ LamX.CodeO c q := by
  unfold SetO
  refine ext_ne_code (a := a) fun h e => ?_
  obtain ⟨o, es, ep, t, ho, _, hd, _⟩ := e
  exact ⟨o, ho, fun vs z => by rw [hd] at z; cases z⟩
theorem nest_ne_code {w : World} {a c : Addr} {ks : List (NestedKey × Addr)} {vs : List V} {q : Str} : nestO w a ks vs ≠ LamX.CodeO c q := by
  unfold nestO
  refine ext_ne_code (a := a) fun h e => ?_
  obtain ⟨_, _, _, _, us, _, o, es, ep, ho, _, hd, _⟩ := e
  exact ⟨o, ho, fun vs z => by rw [hd] at z; cases z⟩
theorem codeO_ext {c : Addr} {q : Str} {o : HO} (h : ∀ φ, o ≠ .ext φ) : o ≠ LamX.CodeO c q := fun z => h _ z
/-- what a cell that may change is not -/
structure Loose (o : HO) : Prop where
  im : ¬ Imm o
  fz : ∀ ob u, o ≠ .frz ob u
  tb : ∀ ps, o ≠ .tbl ps
  cd : ∀ c q, o ≠ LamX.CodeO c q
theorem Loose.of {o : HO} (h1 : ∀ xs, o ≠ .tup xs) (h2 : ∀ a b, o ≠ .rng a b) (h3 : ∀ x, o ≠ .own x) (h4 : ∀ ob u, o ≠ .frz ob u) (h5 : ∀ ps, o ≠ .tbl ps) (h6 : ∀ c q, o ≠ LamX.CodeO c q) : Loose o :=
  ⟨fun i => by cases i with
    | tup xs => exact h1 _ rfl
    | rng a b => exact h2 _ _ rfl
    | own x => exact h3 _ rfl
    | code c q => exact h6 _ _ rfl, h4, h5, h6⟩
theorem RC.there {a : Addr} {c : Cell} (r : RC w ρ H a c) (hm : c.isM = true) : ∃ o, H a = Option.some o ∧ Loose o := by
  cases c with
  | lst xs => obtain ⟨vs, h, i⟩ := r; exact ⟨_, h, .of (fun _ z => (by cases z)) (fun _ _ z => (by cases z)) (fun _ z => (by cases z)) (fun _ _ z => (by cases z)) (fun _ z => (by cases z)) (fun _ _ => codeO_ext fun _ z => (by cases z))⟩
  | frz xs => cases hm
  | dK xs => obtain ⟨vs, h, i⟩ := r; exact ⟨_, h, .of (fun _ z => (by cases z)) (fun _ _ z => (by cases z)) (fun _ z => (by cases z)) (fun _ _ z => (by cases z)) (fun _ z => (by cases z)) (fun _ _ => codeO_ext fun _ z => (by cases z))⟩
  | dT xs => obtain ⟨vs, h, i⟩ := r; exact ⟨_, h, .of (fun _ z => (by cases z)) (fun _ _ z => (by cases z)) (fun _ z => (by cases z)) (fun _ _ z => (by cases z)) (fun _ z => (by cases z)) (fun _ _ => codeO_ext fun _ z => (by cases z))⟩
  | dN xs => obtain ⟨bs, vs, h, i⟩ := r; exact ⟨_, h, .of (fun _ z => (by cases z)) (fun _ _ z => (by cases z)) (fun _ z => (by cases z)) (fun _ _ z => (by cases z)) (fun _ z => (by cases z)) (fun _ _ => nest_ne_code)⟩
  | st xs => obtain ⟨S, h, i⟩ := r; exact ⟨_, h, .of (fun _ z => (by cases z)) (fun _ _ z => (by cases z)) (fun _ z => (by cases z)) (fun _ _ z => (by cases z)) (fun _ z => (by cases z)) (fun _ _ => set_ne_code)⟩
  | obj => cases hm
  | xd xs => obtain ⟨vs, h, i⟩ := r; exact ⟨_, h, .of (fun _ z => (by cases z)) (fun _ _ z => (by cases z)) (fun _ z => (by cases z)) (fun _ _ z => (by cases z)) (fun _ z => (by cases z)) (fun _ _ => codeO_ext fun _ z => (by cases z))⟩
  | ins C fs => obtain ⟨Ca, dx, vs, h0, h, h2, i⟩ := r; exact ⟨_, h, .of (fun _ z => (by cases z)) (fun _ _ z => (by cases z)) (fun _ z => (by cases z)) (fun _ _ z => (by cases z)) (fun _ z => (by cases z)) (fun _ _ => codeO_ext fun _ z => (by cases z))⟩
/-- the heap changed where nothing locked stood -/
theorem RC.kept {a : Addr} {c : Cell} (x : Ext ρ ρ') (g : Grow H H') (e : c.isM = true → H' a = H a) (f : ∀ xs, c = .frz xs → (∀ o, (∀ ps, o ≠ .tbl ps) → H a = Option.some o → H' a = Option.some o) ∨ ∃ vs, FrK w a vs ∧ IsAll ρ H xs vs) (r : RC w ρ H a c) : RC w ρ' H' a c := by
  cases hc : c.isM with
  | true => exact r.mono x g (e hc)
  | false =>
    cases c with
    | frz xs =>
      rcases f xs rfl with f | ⟨vs, f1, f2⟩
      · obtain ⟨vs, h, i⟩ := r
        refine ⟨vs, ?_, i.mono x g⟩
        rcases h with (⟨o, h⟩ | h) | h
        · exact .inl (.inl ⟨o, f _ (fun _ z => (by cases z)) h⟩)
        · exact .inl (.inr (f _ (fun _ z => (by cases z)) h))
        · exact .inr h
      · exact ⟨vs, .inr f1, f2.mono x g⟩
    | obj => trivial
    | _ => cases hc
theorem frz_K {a : Addr} {xs : List A} (r : RC w ρ H a (.frz xs)) (h : H a = Option.none) : ∃ vs, FrK w a vs ∧ IsAll ρ H xs vs := by
  obtain ⟨vs, q, i⟩ := r
  rcases q with (⟨o, q⟩ | q) | q
  · rw [h] at q; cases q
  · rw [h] at q; cases q
  · exact ⟨vs, q, i⟩
theorem RM.addr {M : Store} {i : Nat} {c : Cell} (m : RM w ρ H M) (h : M[i]? = Option.some c) : ∃ a, ρ[i]? = Option.some a ∧ RC w ρ H a c := by
  have hi : i < ρ.length := by rw [m.len]; exact (List.getElem?_eq_some_iff.mp h).1
  exact ⟨ρ[i], by simp [hi], m.at_ i _ c (by simp [hi]) h⟩
theorem RM.cell {M : Store} {i : Nat} {a : Addr} (m : RM w ρ H M) (h : ρ[i]? = Option.some a) : ∃ c, M[i]? = Option.some c ∧ RC w ρ H a c := by
  have hi : i < M.length := by rw [← m.len]; exact (List.getElem?_eq_some_iff.mp h).1
  exact ⟨M[i], by simp [hi], m.at_ i a _ h (by simp [hi])⟩
/-- the heap grew by what is no cell -/
theorem RM.grow {M : Store} (m : RM w ρ H M) (g : Grow H H') (k : ∀ b o, H b = Option.some o → H' b = Option.some o) : RM w ρ H' M :=
  ⟨m.len, m.nd, fun i a c h1 h2 => by
    have r := m.at_ i a c h1 h2
    refine r.kept (.refl _) g (fun hm => ?_) fun xs _ => .inl fun o _ e => k _ _ e
    obtain ⟨o, e, _⟩ := r.there hm
    exact (k a o e).trans e.symm, m.tabs.ext k, fun i j a c xs h1 h2 h3 h4 h5 => by
      obtain ⟨vs, f1, f2⟩ := m.fz i j a c xs h1 h2 h3 h4 h5
      exact ⟨vs, f1, f2.mono (.refl _) g⟩⟩
/-- .. the tables may have grown -/
theorem RM.growT {M : Store} (m : RM w ρ H M) (k : LamX.ExtN H H') (t : LamX.Tabs w.Tb H') : RM w ρ H' M :=
  have g : Grow H H' := fun a u i e => k a u e fun ps z => by
    subst z
    generalize hz : HO.tbl ps = z at i
    cases i with
    | code c q => exact LamX.codeO_ne ps hz.symm
    | _ => cases hz
  ⟨m.len, m.nd, fun i a c h1 h2 => by
    have r := m.at_ i a c h1 h2
    refine r.kept (.refl _) g (fun hm => ?_) fun xs _ => .inl fun o n e => k _ _ e n
    obtain ⟨o, e, l⟩ := r.there hm
    exact (k a o e l.tb).trans e.symm, t, fun i j a c xs h1 h2 h3 h4 h5 => by
      obtain ⟨vs, f1, f2⟩ := m.fz i j a c xs h1 h2 h3 h4 h5
      exact ⟨vs, f1, f2.mono (.refl _) g⟩⟩
theorem Grow.ofT {H H' : Hp} (k : LamX.ExtN H H') : Grow H H' := fun a u i e => k a u e fun ps z => by
    subst z
    generalize hz : HO.tbl ps = z at i
    cases i with
    | code c q => exact LamX.codeO_ne ps hz.symm
    | _ => cases hz
/-- an object that is not looked at -/
theorem RM.name {M : Store} (m : RM w ρ H M) (p : Addr) : RM w (ρ ++ [p]) H (M ++ [.obj]) := by
  have old : ∀ (i : Nat) (a : Addr) (d : Cell), (ρ ++ [p])[i]? = Option.some a → (M ++ [.obj])[i]? = Option.some d → (ρ[i]? = Option.some a ∧ M[i]? = Option.some d) ∨ d = .obj := fun i a d h1 h2 => by
    by_cases hi : i < ρ.length
    · rw [List.getElem?_append_left hi] at h1
      rw [List.getElem?_append_left (by rw [← m.len]; exact hi)] at h2
      exact .inl ⟨h1, h2⟩
    · rw [m.len] at hi
      rw [List.getElem?_append_right (by omega)] at h2
      have : i - M.length = 0 := by
        have := (List.getElem?_eq_some_iff.mp h2).1
        simp at this; omega
      rw [this] at h2
      exact .inr (Option.some.inj h2).symm
  refine ⟨by simp [m.len], fun i j a d d' h1 h2 h3 h4 h5 h6 => ?_, fun i a d h1 h2 => ?_, m.tabs, fun i j a c xs h1 h2 h3 h4 h5 => ?_⟩
  · rcases old i a d h1 h3 with ⟨q1, q2⟩ | q
    · rcases old j a d' h2 h4 with ⟨q3, q4⟩ | q
      · exact m.nd i j a d d' q1 q3 q2 q4 h5 h6
      · subst q; cases h6
    · subst q; cases h5
  · rcases old i a d h1 h2 with ⟨q1, q2⟩ | q
    · exact (m.at_ i a d q1 q2).kept (.snoc _ _) (.refl _) (fun _ => rfl) fun _ _ => .inl fun _ _ e => e
    · subst q; trivial
  · rcases old i a c h1 h3 with ⟨q1, q2⟩ | q
    · rcases old j a _ h2 h4 with ⟨q3, q4⟩ | q
      · obtain ⟨vs, f1, f2⟩ := m.fz i j a c xs q1 q3 q2 q4 h5
        exact ⟨vs, f1, f2.mono (.snoc _ _) (.refl _)⟩
      · cases q
    · subst q; cases h5
theorem tabs_upd {T : Tbl} {H : Hp} {a : Addr} {o o' : HO} (t : LamX.Tabs T H) (h : H a = Option.some o) (l : Loose o) : LamX.Tabs T (upd H a o') := fun p hp => by
  obtain ⟨ps, h1, h2, h3⟩ := t p hp
  refine ⟨ps, ?_, h2, fun pos cv hc => ?_⟩
  · rw [upd_ne (fun z => l.tb ps (by rw [z, h] at h1; exact Option.some.inj h1))]; exact h1
  · obtain ⟨c, e1, e2⟩ := h3 pos cv hc
    exact ⟨c, e1, by rw [upd_ne (fun z => l.cd c _ (by rw [z, h] at e2; rw [z]; exact Option.some.inj e2))]; exact e2⟩
theorem RM.new {M : Store} (m : RM w ρ H M) {p : Addr} {o : HO} (hp : H p = Option.none) : RM w ρ (upd H p o) M :=
  m.grow (.new hp) fun b o' e => by rw [upd_ne (ne_of_none e hp)]; exact e
/-- a new cell -/
theorem RM.push {M : Store} (m : RM w ρ H M) {p : Addr} {o : HO} {c : Cell} (hp : H p = Option.none) (hc : RC w (ρ ++ [p]) (upd H p o) p c) : RM w (ρ ++ [p]) (upd H p o) (M ++ [c]) := by
  have g : Grow H (upd H p o) := .new hp
  have old : ∀ (i : Nat) (a : Addr) (d : Cell), (ρ ++ [p])[i]? = Option.some a → (M ++ [c])[i]? = Option.some d → (i < ρ.length ∧ ρ[i]? = Option.some a ∧ M[i]? = Option.some d) ∨ (i = ρ.length ∧ a = p ∧ d = c) := fun i a d h1 h2 => by
    by_cases hi : i < ρ.length
    · rw [List.getElem?_append_left hi] at h1
      rw [List.getElem?_append_left (by rw [← m.len]; exact hi)] at h2
      exact .inl ⟨hi, h1, h2⟩
    · have : i = ρ.length := by
        have := (List.getElem?_eq_some_iff.mp h1).1
        simp at this; omega
      subst this
      rw [List.getElem?_append_right (Nat.le_refl _)] at h1
      rw [m.len, List.getElem?_append_right (Nat.le_refl _)] at h2
      simp at h1 h2
      exact .inr ⟨rfl, h1.symm, h2.symm⟩
  have apart : ∀ (i : Nat) (d : Cell), ρ[i]? = Option.some p → M[i]? = Option.some d → d.isM = true → False := fun i d h1 h2 hm => by
    obtain ⟨u, e, _⟩ := (m.at_ i p d h1 h2).there hm
    rw [hp] at e; cases e
  refine ⟨by simp [m.len], fun i j a d d' h1 h2 h3 h4 h5 h6 => ?_, fun i a d h1 h2 => ?_, m.tabs.ext fun b o' e => by rw [upd_ne (ne_of_none e hp)]; exact e, fun i j a d xs h1 h2 h3 h4 h5 => ?_⟩
  · rcases old i a d h1 h3 with ⟨_, q1, q2⟩ | ⟨q0, q1, q2⟩
    · rcases old j a d' h2 h4 with ⟨_, q3, q4⟩ | ⟨_, q3, q4⟩
      · exact m.nd i j a d d' q1 q3 q2 q4 h5 h6
      · subst q3; exact (apart i d q1 q2 h5).elim
    · rcases old j a d' h2 h4 with ⟨_, q3, q4⟩ | ⟨q0', q3, q4⟩
      · subst q1; exact (apart j d' q3 q4 h6).elim
      · rw [q0, q0']
  · rcases old i a d h1 h2 with ⟨_, q1, q2⟩ | ⟨_, q1, q2⟩
    · have r := m.at_ i a d q1 q2
      refine r.kept (.snoc _ _) g (fun hm => ?_) fun xs _ => .inl fun o _ e => ?_
      · obtain ⟨u, e, _⟩ := r.there hm
        rw [upd_ne (ne_of_none e hp)]
      · rw [upd_ne (ne_of_none e hp)]; exact e
    · subst q1 q2; exact hc
  · rcases old j a _ h2 h4 with ⟨_, q3, q4⟩ | ⟨q0, q3, q4⟩
    · rcases old i a d h1 h3 with ⟨_, q1, q2⟩ | ⟨_, q1, q2⟩
      · obtain ⟨vs, f1, f2⟩ := m.fz i j a d xs q1 q3 q2 q4 h5
        exact ⟨vs, f1, f2.mono (.snoc _ _) g⟩
      · subst q1
        obtain ⟨vs, f1, f2⟩ := frz_K (m.at_ j a _ q3 q4) hp
        exact ⟨vs, f1, f2.mono (.snoc _ _) g⟩
    · subst q3
      rcases old i a d h1 h3 with ⟨_, q1, q2⟩ | ⟨_, q1, q2⟩
      · exact (apart i d q1 q2 h5).elim
      · subst q2; rw [← q4] at h5; cases h5
theorem RM.growSet {M : Store} (m : RM w ρ H M) {i : Nat} {a : Addr} {o : HO} {c : Cell} (ha : ρ[i]? = Option.some a) (hc : M[i]? = Option.some c) (hm : c.isM = true := by rfl) : Grow H (upd H a o) := by
  have r := m.at_ i a c ha hc
  obtain ⟨o', e, l⟩ := r.there hm
  exact .upd fun xs i z => by rw [e] at z; cases z; exact l.im i
/-- a cell is changed -/
theorem RM.set {M : Store} (m : RM w ρ H M) {i : Nat} {a : Addr} {o : HO} {c c' : Cell} (ha : ρ[i]? = Option.some a) (hc : M[i]? = Option.some c) (hc' : RC w ρ (upd H a o) a c') (hm : c.isM = true := by rfl) : RM w ρ (upd H a o) (M.set i c') := by
  have r := m.at_ i a c ha hc
  obtain ⟨o', e, l⟩ := r.there hm
  have g : Grow H (upd H a o) := m.growSet ha hc hm
  have hlt : i < M.length := (List.getElem?_eq_some_iff.mp hc).1
  have getM : ∀ (j : Nat) (d : Cell), (M.set i c')[j]? = Option.some d → (j = i ∧ d = c') ∨ (j ≠ i ∧ M[j]? = Option.some d) := fun j d h => by
    by_cases hj : j = i
    · subst hj
      rw [List.getElem?_set_self hlt] at h
      exact .inl ⟨rfl, (Option.some.inj h).symm⟩
    · rw [List.getElem?_set_ne (Ne.symm hj)] at h
      exact .inr ⟨hj, h⟩
  refine ⟨by simp [m.len], fun j k b d d' h1 h2 h3 h4 h5 h6 => ?_, fun j b d h1 h2 => ?_, tabs_upd m.tabs e l, fun j k b d xs h1 h2 h3 h4 h5 => ?_⟩
  · rcases getM j d h3 with ⟨q1, _⟩ | ⟨q1, q2⟩
    · rcases getM k d' h4 with ⟨q3, _⟩ | ⟨q3, q4⟩
      · rw [q1, q3]
      · subst q1; exact m.nd j k b c d' h1 h2 hc q4 hm h6
    · rcases getM k d' h4 with ⟨q3, _⟩ | ⟨q3, q4⟩
      · subst q3; exact m.nd j k b d c h1 h2 q2 hc h5 hm
      · exact m.nd j k b d d' h1 h2 q2 q4 h5 h6
  · rcases getM j d h2 with ⟨q1, q2⟩ | ⟨q1, q2⟩
    · subst q1 q2
      rw [ha] at h1
      obtain rfl := Option.some.inj h1
      exact hc'
    · have q := m.at_ j b d h1 q2
      refine q.kept (.refl _) g (fun hd => ?_) fun xs ex => ?_
      · have hb : b ≠ a := fun z => by
          subst z
          exact q1 (m.nd j i b d c h1 ha q2 hc hd hm)
        exact upd_ne hb
      · by_cases hb : b = a
        · subst hb; subst ex
          exact .inr (m.fz i j b c xs ha h1 hc q2 hm)
        · exact .inl fun o _ ef => by rw [upd_ne hb]; exact ef
  · rcases getM k _ h4 with ⟨q3, q4⟩ | ⟨q3, q4⟩
    · subst q3
      rw [ha] at h2
      obtain rfl := Option.some.inj h2
      rcases getM j d h3 with ⟨q1, q2⟩ | ⟨q1, q2⟩
      · rw [← q4] at q2; subst q2; cases h5
      · exact absurd (m.nd j k a d c h1 ha q2 hc h5 hm) q1
    · rcases getM j d h3 with ⟨q1, q2⟩ | ⟨q1, q2⟩
      · subst q1
        obtain ⟨vs, f1, f2⟩ := m.fz j k b c xs h1 h2 hc q4 hm
        exact ⟨vs, f1, f2.mono (.refl _) g⟩
      · obtain ⟨vs, f1, f2⟩ := m.fz j k b d xs h1 h2 q2 q4 h5
        exact ⟨vs, f1, f2.mono (.refl _) g⟩
end
/-! ### exceptions -/
/-- an exception of an own class: its class, its own dict -/
def RX (mg : Str → Option Value) (ρ : List Addr) (H : Hp) (e : Exn) (cls : Value) (d : Option Addr) : Prop :=
  ∃ C, mg e.name = some (.ref C) ∧ cls = .ref C ∧
    match e.dct with
    | none => d = none
    | some l => ∃ dd, d = some dd ∧ ρ[l]? = some dd
/-! ### readings -/
section
variable {α β γ δ : Type}
abbrev Rel (α β : Type) := List Addr → Hp → α → β → Prop
/-- what an outcome promises -/
def RE (G : Gx) (W : WR) (σ : L2.St) (ρ : List Addr) (H : Hp) (rel : Rel α β) (o : EO α) (Q : β → Hp → Prop) : Prop :=
  match o with
  | .ok a M => ∀ b H' ρ', Ext ρ ρ' → Grow H H' → RM G.w ρ' H' M → rel ρ' H' a b → Q b H'
  | .ex e M => ∀ cls d H' ρ', Ext ρ ρ' → Grow H H' → RM G.w ρ' H' M → RX G.mg ρ' H' e cls d → W cls d σ H'
  | .bad => False
theorem RE.mono {G : Gx} {W : WR} {σ : L2.St} {ρ ρ' : List Addr} {H H' : Hp} {rel : Rel α β} {o : EO α} {Q : β → Hp → Prop} (r : RE G W σ ρ H rel o Q) (x : Ext ρ ρ') (g : Grow H H') : RE G W σ ρ' H' rel o Q := by
  cases o with
  | ok a M => exact fun b H2 ρ2 x2 g2 => r b H2 ρ2 (x.trans x2) (g.trans g2)
  | ex e M => exact fun c d H2 ρ2 x2 g2 => r c d H2 ρ2 (x.trans x2) (g.trans g2)
  | bad => exact r
theorem RE.imp {G : Gx} {W : WR} {σ : L2.St} {ρ : List Addr} {H : Hp} {rel : Rel α β} {o : EO α} {Q Q' : β → Hp → Prop} (r : RE G W σ ρ H rel o Q) (h : ∀ b H', Q b H' → Q' b H') : RE G W σ ρ H rel o Q' := by
  cases o with
  | ok a M => exact fun b H2 ρ2 x2 g2 m i => h _ _ (r b H2 ρ2 x2 g2 m i)
  | ex e M => exact r
  | bad => exact r
def tG (G : Gx) (W : WR) (rel : Rel α β) (f : Sl → Store → EO α) (σ : L2.St) (H : Hp) (Q : β → Hp → Prop) : Prop :=
  ∃ τ M ρ, RS W ρ H τ σ ∧ RM G.w ρ H M ∧ RE G W σ ρ H rel (f τ M) Q
theorem tG.imp {G : Gx} {W : WR} {σ : L2.St} {H : Hp} {rel : Rel α β} {f : Sl → Store → EO α} {Q Q' : β → Hp → Prop} (r : tG G W rel f σ H Q) (h : ∀ b H', Q b H' → Q' b H') : tG G W rel f σ H Q' := by
  obtain ⟨τ, M, ρ, a, b, c⟩ := r
  exact ⟨τ, M, ρ, a, b, c.imp h⟩
/-- behind a first part -/
def tK (G : Gx) (W : WR) (rel₁ : Rel α β) (rel₂ : Rel γ δ) (g : Sl → α → Store → EO γ) (σ : L2.St) (Q : δ → Hp → Prop) : β → Hp → Prop := fun b H =>
  ∃ τ M ρ a, RS W ρ H τ σ ∧ RM G.w ρ H M ∧ rel₁ ρ H a b ∧ RE G W σ ρ H rel₂ (g τ a M) Q
theorem seqG {G : Gx} {W : WR} {σ : L2.St} {H : Hp} (rel₁ : Rel α β) {rel₂ : Rel γ δ} {f : Sl → Store → EO α} {g : Sl → α → Store → EO γ} {Q : δ → Hp → Prop}
    (h : tG G W rel₂ (fun τ M => (f τ M).bind (g τ)) σ H Q) : tG G W rel₁ f σ H (tK G W rel₁ rel₂ g σ Q) := by
  obtain ⟨τ, M, ρ, rs, rm, r⟩ := h
  refine ⟨τ, M, ρ, rs, rm, ?_⟩
  simp only at r
  cases e : f τ M with
  | ok a M1 =>
    rw [e] at r
    exact fun b H1 ρ1 x g' m i => ⟨τ, M1, ρ1, a, rs.mono x g', m, i, r.mono x g'⟩
  | ex en M1 => rw [e] at r; exact r
  | bad => rw [e] at r; exact r
/-- .. a second part that doesn't look at the first -/
theorem seqK {G : Gx} {W : WR} {σ : L2.St} {H : Hp} {α' β' : Type} (rel₁ : Rel α β) (hrel : ∀ {ρ ρ' H H' a b}, Ext ρ ρ' → Grow H H' → rel₁ ρ H a b → rel₁ ρ' H' a b) (rel₂ : Rel α' β') {rel₃ : Rel γ δ} {g : Sl → Store → EO α'} {k : Sl → α → α' → Store → EO γ} {Q : δ → Hp → Prop} {b : β}
    (h : tK G W rel₁ rel₃ (fun τ a M => (g τ M).bind (k τ a)) σ Q b H) :
    tG G W rel₂ g σ H (fun b' H' => ∃ τ M ρ a a', RS W ρ H' τ σ ∧ RM G.w ρ H' M ∧ rel₁ ρ H' a b ∧ rel₂ ρ H' a' b' ∧ RE G W σ ρ H' rel₃ (k τ a a' M) Q) := by
  obtain ⟨τ, M, ρ, a, rs, rm, i, r⟩ := h
  refine ⟨τ, M, ρ, rs, rm, ?_⟩
  simp only at r
  cases e : g τ M with
  | ok a' M1 =>
    rw [e] at r
    exact fun b' H1 ρ1 x g' m i' => ⟨τ, M1, ρ1, a, a', rs.mono x g', m, hrel x g' i, i', r.mono x g'⟩
  | ex en M1 => rw [e] at r; exact r
  | bad => rw [e] at r; exact r
end
abbrev relB : Rel Bool Bool := fun _ _ a b => a = b
/-- an expression, an argument list, a test -/
def AE (X : Cx) (W : WR) (e : Expr) (f : EF) : Prop := PE X e (tG (X.gx W.Tb) W Is f)
def AA (X : Cx) (W : WR) (es : List Expr) (f : EFs) : Prop := PA X es (tG (X.gx W.Tb) W IsAll f)
def AT (X : Cx) (W : WR) (e : Expr) (f : EFb) : Prop := PT X e (tG (X.gx W.Tb) W relB f)
theorem _root_.L2.PE.pre {X : Cx} {e : Expr} {t t' : TE} (h : PE X e t) (w : ∀ σ H Q, t' σ H Q → t σ H Q) : PE X e t' := ⟨fun pins s σ H Q I q => h.run pins s σ H Q I (w σ H Q q)⟩
theorem _root_.L2.PA.pre {X : Cx} {e : List Expr} {t t' : TA} (h : PA X e t) (w : ∀ σ H Q, t' σ H Q → t σ H Q) : PA X e t' := ⟨fun pos pins s σ H Q I q => h.run pos pins s σ H Q I (w σ H Q q)⟩
theorem _root_.L2.PT.pre {X : Cx} {e : Expr} {t t' : TT} (h : PT X e t) (w : ∀ σ H Q, t' σ H Q → t σ H Q) : PT X e t' := ⟨fun pins s σ H Q I q => h.run pins s σ H Q I (w σ H Q q)⟩
theorem _root_.L2.PC.pre {X : Cx} {op : CmpOp} {a b : Expr} {t t' : TE} (h : PC X op a b t) (w : ∀ σ H Q, t' σ H Q → t σ H Q) : PC X op a b t' := ⟨fun pins s σ H Q I q => h.run pins s σ H Q I (w σ H Q q)⟩
theorem _root_.L2.PS.pre {X : Cx} {e : Stmt} {t t' : TS} (h : PS X e t) (w : ∀ D σ H, t' D σ H → t D σ H) : PS X e t' := ⟨fun pins s σ H D I q => h.run pins s σ H D I (w D σ H q)⟩
theorem _root_.L2.PSs.pre {X : Cx} {e : List Stmt} {t t' : TS} (h : PSs X e t) (w : ∀ D σ H, t' D σ H → t D σ H) : PSs X e t' := ⟨fun pins s σ H D I q => h.run pins s σ H D I (w D σ H q)⟩
/-- a value that is there: the outcome is ok with the same store -/
theorem RE.okv {α β : Type} {G : Gx} {W : WR} {σ : L2.St} {ρ ρ' : List Addr} {H H' : Hp} {rel : Rel α β} {a : α} {b : β} {M : Store} {Q : β → Hp → Prop} (r : RE G W σ ρ H rel (.ok a M) Q) (x : Ext ρ ρ') (g : Grow H H') (m : RM G.w ρ' H' M) (i : rel ρ' H' a b) : Q b H' :=
  r b H' ρ' x g m i
/-! ### names, constants -/
section
variable {X : Cx} {W : WR} {pos : Pos}
def eVar (i : Nat) : EF := fun τ M => match τ[i]? with
  | some (some a) => .ok a M
  | _ => .bad
def eC (a : A) : EF := fun _ M => .ok a M
theorem ae_v (i : Nat) {x : Str} (hN : X.N[i]? = some x := by rfl) (hv : Vis X.env.scope x := by first | exact Or.inl rfl | exact Or.inr (Or.inl rfl) | exact Or.inr (Or.inr rfl)) (hd : (x == ("__debug__" : Str)) = false := by decide)
    (hcd : (x == ("__classdict__" : Str)) = false := by decide) : AE X W (.Name x pos) (eVar i) := by
  refine (pe_var hN hv hd hcd).pre fun σ H Q h => ?_
  obtain ⟨τ, M, ρ, rs, rm, r⟩ := h
  unfold eVar at r
  split at r
  · rename_i a e
    obtain ⟨v, h1, h2⟩ := rs.get e
    exact ⟨v, h1, r.okv (.refl _) (.refl _) rm h2⟩
  · exact False.elim r
theorem const_ok {a : A} {v : V} (hi : ∀ ρ H, Is ρ H a v) {e : Expr} (h : PE X e (tC v)) : AE X W e (eC a) := by
  refine h.pre fun σ H Q h => ?_
  obtain ⟨τ, M, ρ, rs, rm, r⟩ := h
  exact r.okv (.refl _) (.refl _) rm (hi _ _)
theorem ae_int {i : Int} {j} : AE X W (.Constant (.int i) j pos) (eC (.int i)) := const_ok (fun _ _ => .int i) pe_int
theorem ae_bl {b : Bool} {j} : AE X W (.Constant (.bool b) j pos) (eC (.bl b)) := const_ok (fun _ _ => .bl b) pe_bl
theorem ae_non {j} : AE X W (.Constant .none j pos) (eC .non) := const_ok (fun _ _ => .non) pe_non
theorem ae_str {x : Str} {j} : AE X W (.Constant (.str x) j pos) (eC (.str x)) := const_ok (fun _ _ => .str x) pe_str
/-- a module's constant -/
theorem ae_glob {x : Str} {a : A} {v : V} {u : Value} (hm : X.mg x = some u) (hi : ∀ ρ H, Is ρ H a v) (r : RelV v u) (hg : Gl X x := by rfl) (hd : (x == ("__debug__" : Str)) = false := by decide) : AE X W (.Name x pos) (eC a) := const_ok hi (pe_glob hg hm r hd)
/-! ### argument lists -/
def eNil : EFs := fun _ M => .ok [] M
def eCons (f : EF) (g : EFs) : EFs := fun τ M => (f τ M).bind fun a M1 => (g τ M1).bind fun as M2 => .ok (a :: as) M2
theorem Is.ext {ρ ρ' : List Addr} {H H' : Hp} {a : A} {b : V} (x : Ext ρ ρ') (g : Grow H H') (i : Is ρ H a b) : Is ρ' H' a b := i.mono x g
theorem IsAll.ext {ρ ρ' : List Addr} {H H' : Hp} {a : List A} {b : List V} (x : Ext ρ ρ') (g : Grow H H') (i : IsAll ρ H a b) : IsAll ρ' H' a b := i.mono x g
theorem aa_nil : AA X W [] eNil := by
  refine pa_nil.pre fun σ H Q h => ?_
  obtain ⟨τ, M, ρ, rs, rm, r⟩ := h
  exact r.okv (.refl _) (.refl _) rm .nil
theorem aa_cons {e : Expr} {es : List Expr} {f : EF} {g : EFs} (h1 : AE X W e f) (h2 : AA X W es g) (hs : starEach (e :: es) X.env = (false, eval e X.env) :: starEach es X.env := by rfl) : AA X W (e :: es) (eCons f g) := by
  refine (pa_cons h1 h2 hs).pre fun σ H Q h => ?_
  refine (seqG Is h).imp fun x H1 h1 => ?_
  refine (seqK Is Is.ext IsAll h1).imp fun xs H2 h2 => ?_
  obtain ⟨τ, M, ρ, a, as, rs, rm, i, is, r⟩ := h2
  exact r.okv (.refl _) (.refl _) rm (.cons i is)
/-! ### operations on values -/
/-- a two-place operation of the machine -/
abbrev O2 := A → A → Store → Option (A × Store)
abbrev O1 := A → Store → Option (A × Store)
abbrev On := List A → Store → Option (A × Store)
def toE {α : Type} (o : Option (α × Store)) : EO α := match o with
  | some (a, M) => .ok a M
  | none => .bad
/-- it ends as told, from wherever -/
def RO (w : Amb) (ρ : List Addr) (H : Hp) (o : Option (A × Store)) (Q : VK) : Prop := match o with
  | some (a, M) => ∀ v H' ρ', Ext ρ ρ' → Grow H H' → RM w ρ' H' M → Is ρ' H' a v → Q v H'
  | none => False
theorem RO.of {G : Gx} {σ : L2.St} {ρ : List Addr} {H : Hp} {o : Option (A × Store)} {Q : VK} (r : RE G W σ ρ H Is (toE o) Q) : RO G.w ρ H o Q := by
  cases o with
  | none => exact r
  | some p => exact r
def r2 (w : Amb) (o : O2) : R2 := fun x y H Q => ∃ a b M ρ, Is ρ H a x ∧ Is ρ H b y ∧ RM w ρ H M ∧ RO w ρ H (o a b M) Q
def r1 (w : Amb) (o : O1) : V → Hp → VK → Prop := fun x H Q => ∃ a M ρ, Is ρ H a x ∧ RM w ρ H M ∧ RO w ρ H (o a M) Q
def rn (w : Amb) (o : On) : List V → Hp → VK → Prop := fun xs H Q => ∃ as M ρ, IsAll ρ H as xs ∧ RM w ρ H M ∧ RO w ρ H (o as M) Q
def eOp (o : O2) (f g : EF) : EF := fun τ M => (f τ M).bind fun a M1 => (g τ M1).bind fun b M2 => toE (o a b M2)
def eUn (o : O1) (f : EF) : EF := fun τ M => (f τ M).bind fun a M1 => toE (o a M1)
def eFn (o : On) (f : EFs) : EF := fun τ M => (f τ M).bind fun as M1 => toE (o as M1)
theorem op_tK {f g : EF} {o : O2} {σ : L2.St} {H : Hp} {Q : VK} {G : Gx} (h : tG G W Is (eOp o f g) σ H Q) : tG G W Is f σ H fun x H1 => tG G W Is g σ H1 fun y H2 => r2 G.w o x y H2 Q := by
  refine (seqG Is h).imp fun x H1 h1 => ?_
  refine (seqK Is Is.ext Is h1).imp fun y H2 h2 => ?_
  obtain ⟨τ, M, ρ, a, b, rs, rm, i, j, r⟩ := h2
  exact ⟨a, b, M, ρ, i, j, rm, RO.of r⟩
theorem ae_op {a b : Expr} {op : Operator} {o : O2} {f g : EF} (ho : OpR X (binaryOp op) (r2 (X.am W.Tb) o)) (ha : AE X W a f) (hb : AE X W b g) : AE X W (.BinOp a op b pos) (eOp o f g) :=
  (pe_op ho ha hb).pre fun _ _ _ h => op_tK h
theorem ae_un {a : Expr} {op : UnaryOp} {o : O1} {f : EF} (ho : UnR X (unaryOp op) (r1 (X.am W.Tb) o)) (ha : AE X W a f) : AE X W (.UnaryOp op a pos) (eUn o f) := by
  refine (pe_un ho ha).pre fun σ H Q h => ?_
  refine (seqG Is h).imp fun x H1 h1 => ?_
  obtain ⟨τ, M, ρ, a, rs, rm, i, r⟩ := h1
  exact ⟨a, M, ρ, i, rm, RO.of r⟩
theorem fn_tK {f : EFs} {o : On} {σ : L2.St} {H : Hp} {Q : VK} {G : Gx} (h : tG G W Is (eFn o f) σ H Q) : tG G W IsAll f σ H fun xs H1 => rn G.w o xs H1 Q := by
  refine (seqG IsAll h).imp fun x H1 h1 => ?_
  obtain ⟨τ, M, ρ, a, rs, rm, i, r⟩ := h1
  exact ⟨a, M, ρ, i, rm, RO.of r⟩
/-- f(e, ..), f built in -/
theorem ae_B {id : String} {o : On} {x : Str} {p : Pos} {e : Expr} {es : List Expr} {f : EFs} (hc : CallR X (.builtin id) (rn (X.am W.Tb) o)) (hm : X.mg x = none) (ha : AA X W (e :: es) f) (hg : Gl X x := by rfl) (hv : bootBuiltins x = some (.builtin id) := by decide +kernel) (hn : x ≠ "__name__" := by decide) (hdb : (x == ("__debug__" : Str)) = false := by decide)
    (he : starEach (e :: es) X.env = (false, eval e X.env) :: starEach es X.env := by rfl) (hpl : (backTo pos (starEach es X.env)).any (·.1) = false := by rfl) : AE X W (.Call (.Name x p) (e :: es) [] pos) (eFn o f) :=
  (pe_callB hc hg hm hv ha hn hdb he hpl).pre fun _ _ _ h => fn_tK h
theorem ae_Ty {T : String} {o : On} {x : Str} {p : Pos} {e : Expr} {es : List Expr} {f : EFs} (hc : CallR X (.type T) (rn (X.am W.Tb) o)) (hm : X.mg x = none) (ha : AA X W (e :: es) f) (hg : Gl X x := by rfl) (hv : bootBuiltins x = some (.type T) := by decide +kernel) (hn : x ≠ "__name__" := by decide) (hdb : (x == ("__debug__" : Str)) = false := by decide)
    (he : starEach (e :: es) X.env = (false, eval e X.env) :: starEach es X.env := by rfl) (hpl : (backTo pos (starEach es X.env)).any (·.1) = false := by rfl) : AE X W (.Call (.Name x p) (e :: es) [] pos) (eFn o f) :=
  (pe_callTy hc hg hm hv ha hn hdb he hpl).pre fun _ _ _ h => fn_tK h
end
end AB
/-! AB2: operations -/
namespace AB
open PySem PySem.Spec PyProof.Rows L2
/-- the list that a cell holds -/
def Cell.list? : Cell → Option (List A)
  | .lst xs => some xs
  | .frz xs => some xs
  | _ => none
def listAt (M : Store) (l : Nat) : Option (List A) := match M[l]? with
  | some c => c.list?
  | none => none
theorem RM.list {ρ : List Addr} {H : Hp} {M : Store} (m : RM w ρ H M) {l : Nat} {a : Addr} {xs : List A} (ha : ρ[l]? = some a) (h : listAt M l = some xs) : ∃ vs, SqL w.K H a vs ∧ IsAll ρ H xs vs := by
  unfold listAt at h
  split at h
  · rename_i c e
    have r := m.at_ l a c ha e
    cases c with
    | lst ys => cases h; obtain ⟨vs, q, i⟩ := r; exact ⟨vs, .inl (.inl q), i⟩
    | frz ys =>
      cases h
      obtain ⟨vs, q, i⟩ := r
      rcases q with (⟨o, q⟩ | q) | q
      · exact ⟨vs, .inl (.inr ⟨o, q⟩), i⟩
      · exact ⟨vs, .inl (.inl q), i⟩
      · exact ⟨vs, .inr q, i⟩
    | dK _ => cases h
    | dT _ => cases h
    | dN _ => cases h
    | st _ => cases h
    | obj => cases h
    | xd _ => cases h
    | ins _ _ => cases h
  · cases h
theorem RM.lstM {ρ : List Addr} {H : Hp} {M : Store} (m : RM w ρ H M) {l : Nat} {a : Addr} {xs : List A} (ha : ρ[l]? = some a) (h : M[l]? = some (.lst xs)) : ∃ vs, H a = some (.lst vs) ∧ IsAll ρ H xs vs := m.at_ l a _ ha h
/-- a value's data -/
def dat (M : Store) : Nat → A → Option PyData
  | _, .non => some .none
  | _, .bl b => some (.bool b)
  | _, .int i => some (.int i)
  | _, .str x => some (.str x)
  | n + 1, .tup xs => (xs.mapM (dat M n)).map .tuple
  | n + 1, .lst l => (listAt M l).bind fun xs => (xs.mapM (dat M n)).map .list
  | _, _ => none
theorem mapM_cons_some {α β : Type} {f : α → Option β} {x : α} {xs : List α} {ys : List β} (h : (x :: xs).mapM f = some ys) : ∃ y ys', f x = some y ∧ xs.mapM f = some ys' ∧ ys = y :: ys' := by
  rw [List.mapM_cons] at h
  cases e : f x with
  | none => rw [e] at h; cases h
  | some y =>
    rw [e] at h
    cases e2 : xs.mapM f with
    | none => rw [e2] at h; cases h
    | some ys' => rw [e2] at h; cases h; exact ⟨y, ys', rfl, rfl, rfl⟩
section
variable {w : Amb} {ρ : List Addr} {H : Hp} {M : Store} {K : PySem.W.Frag}
theorem dat_all {n : Nat} (ih : ∀ {a : A} {v : V} {d : PyData}, Is ρ H a v → dat M n a = some d → Dp K H v d) : ∀ {xs : List A} {vs : List V} {ds : List PyData}, IsAll ρ H xs vs → xs.mapM (dat M n) = some ds → DpAll K H vs ds
  | [], _, ds, .nil, e => by
    rw [List.mapM_nil] at e; cases e; exact .nil
  | x :: xs, _, ds, .cons r rs, e => by
    obtain ⟨y, ys, e1, e2, rfl⟩ := mapM_cons_some e
    exact .cons (ih r e1) (dat_all ih rs e2)
theorem dat_ok (m : RM w ρ H M) : ∀ {n : Nat} {a : A} {v : V} {d : PyData}, Is ρ H a v → dat M n a = some d → Dp w.K H v d := by
  intro n
  induction n with
  | zero =>
    intro a v d r e
    cases r <;> simp only [dat] at e <;> cases e <;> constructor
  | succ n ih =>
    intro a v d r e
    cases r with
    | non => simp only [dat] at e; cases e; constructor
    | bl b => simp only [dat] at e; cases e; constructor
    | int i => simp only [dat] at e; cases e; constructor
    | str x => simp only [dat] at e; cases e; constructor
    | tup h rs =>
      simp only [dat] at e
      cases e2 : List.mapM (dat M n) _ with
      | none => rw [e2] at e; cases e
      | some ds =>
        rw [e2] at e; cases e
        exact .tup (.inl (.inl h)) (dat_all ih rs e2)
    | lst h =>
      simp only [dat] at e
      cases e1 : listAt M _ with
      | none => rw [e1] at e; cases e
      | some xs =>
        rw [e1] at e
        obtain ⟨vs, q, i⟩ := m.list h e1
        cases e2 : List.mapM (dat M n) xs with
        | none => rw [Option.bind_some, e2] at e; cases e
        | some ds =>
          rw [Option.bind_some, e2] at e; cases e
          exact .lst q (dat_all ih i e2)
    | dct h => simp only [dat] at e; cases e
    | ty n => simp only [dat] at e; cases e
    | obj h => simp only [dat] at e; cases e
    | rng h => simp only [dat] at e; cases e
end
/-- data that == may compare -/
def datS (M : Store) (a : A) : Option PyData := match dat M 8 a with
  | some d => if SeqAt.shaped d = true then some d else none
  | none => none
theorem datS_ok {ρ : List Addr} {H : Hp} {M : Store} (m : RM w ρ H M) {a : A} {v : V} {d : PyData} (r : Is ρ H a v) (e : datS M a = some d) : Dp w.K H v d ∧ SeqAt.shaped d = true := by
  unfold datS at e
  split at e
  · rename_i d' e'
    split at e
    · rename_i hs; cases e; exact ⟨dat_ok m r e', hs⟩
    · cases e
  · cases e
def flat? : A → Option V
  | .non => some .non
  | .bl b => some (.bl b)
  | .int i => some (.int i)
  | .str x => some (.str x)
  | _ => none
theorem flat_ok {ρ : List Addr} {H : Hp} {a : A} {v w : V} (r : Is ρ H a v) (e : flat? a = some w) : v = w ∧ flatV v = true := by
  cases r <;> simp only [flat?] at e <;> cases e <;> exact ⟨rfl, rfl⟩
theorem flats_ok {ρ : List Addr} {H : Hp} : ∀ {as : List A} {vs ws : List V}, IsAll ρ H as vs → as.mapM flat? = some ws → vs = ws ∧ vs.all flatV = true
  | [], _, ws, .nil, e => by rw [List.mapM_nil] at e; cases e; exact ⟨rfl, rfl⟩
  | x :: xs, _, ws, .cons r rs, e => by
    obtain ⟨y, ys, e1, e2, rfl⟩ := mapM_cons_some e
    obtain ⟨h1, h2⟩ := flat_ok r e1
    obtain ⟨h3, h4⟩ := flats_ok rs e2
    subst h1 h3
    exact ⟨rfl, by rw [List.all_cons, h2, h4]; rfl⟩
/-! ### results -/
section
variable {ρ : List Addr} {H : Hp} {M : Store}
theorem RO.val {a : A} {v : V} {Q : VK} (r : RO w ρ H (some (a, M)) Q) (m : RM w ρ H M) (i : Is ρ H a v) : Q v H := r v H ρ (.refl _) (.refl _) m i
/-- a new tuple -/
theorem RO.newT {ts : List A} {vs : List V} {Q : VK} {p : Addr} (r : RO w ρ H (some (.tup ts, M)) Q) (m : RM w ρ H M) (i : IsAll ρ H ts vs) (hp : H p = none) : Q (.ref p) (upd H p (.tup vs)) :=
  r _ _ ρ (.refl _) (.new hp) (m.new hp) (.tup upd_same (i.mono (.refl _) (.new hp)))
/-- a new list -/
theorem RO.newL {ts : List A} {vs : List V} {Q : VK} {p : Addr} (r : RO w ρ H (some (.lst M.length, M ++ [.lst ts])) Q) (m : RM w ρ H M) (i : IsAll ρ H ts vs) (hp : H p = none) : Q (.ref p) (upd H p (.lst vs)) :=
  r _ _ (ρ ++ [p]) (.snoc _ _) (.new hp) (m.push hp ⟨vs, upd_same, i.mono (.snoc _ _) (.new hp)⟩) (.lst (by rw [← m.len]; simp))
/-- a list is changed -/
theorem RO.setL {l : Nat} {a : A} {v : V} {b : Addr} {c : Cell} {ts : List A} {vs : List V} {Q : VK} (r : RO w ρ H (some (a, M.set l (.lst ts))) Q) (m : RM w ρ H M) (hb : ρ[l]? = some b) (hc : M[l]? = some c) (i : IsAll ρ H ts vs) (ia : Is ρ H a v) (hm : c.isM = true := by rfl) : Q v (upd H b (.lst vs)) :=
  have g := m.growSet (o := .lst vs) hb hc hm
  r _ _ ρ (.refl _) g (m.set hb hc ⟨vs, upd_same, i.mono (.refl _) g⟩ hm) (ia.mono (.refl _) g)
end
def lenOk {α : Type} (xs : List α) : Bool := decide (xs.length ≤ sizeLine)
def oAdd : O2 := fun a b M => match a, b with
  | .int i, .int j => some (.int (i + j), M)
  | .tup xs, .tup ys => if xs.length + ys.length ≤ sizeLine then some (.tup (xs ++ ys), M) else none
  | .str x, .str y => if x.length + y.length ≤ sizeLine then some (.str (x ++ y), M) else none
  | .lst l, .lst k => match M[l]?, M[k]? with
    | some (.lst xs), some (.lst ys) => if xs.length + ys.length ≤ sizeLine then some (.lst M.length, M ++ [.lst (xs ++ ys)]) else none
    | _, _ => none
  | _, _ => none
section
variable {X : Cx}
theorem op_addA : OpR X (binaryOp .Add) (r2 (X.am Tb) oAdd) := by
  intro pins s σ H x y v u Q I rx ry h
  obtain ⟨a, b, M, ρ, ia, ib, m, r⟩ := h
  unfold oAdd at r
  split at r
  · cases ia; cases ib
    exact op_add pins s σ H _ _ v u Q I rx ry ⟨_, _, rfl, rfl, r.val m (.int _)⟩
  · cases ia with
    | tup ha qa =>
      cases ib with
      | tup hb qb =>
        split at r
        · rename_i hz
          refine op_catA pins s σ H _ _ v u Q I rx ry ⟨_, _, _, _, rfl, rfl, .inl (.inl ha), .inl (.inl hb), by rw [← qa.length, ← qb.length]; exact hz, ?_, ?_, ?_⟩
          · intro e; subst e; cases qa; exact r.val m (.tup hb qb)
          · intro _ e; subst e; cases qb; rw [List.append_nil] at r; exact r.val m (.tup ha qa)
          · intro _ _ p hp; exact r.newT m (qa.append qb) hp
        · exact r.elim
  · cases ia; cases ib
    split at r
    · rename_i hz
      exact op_add_str pins s σ H _ _ v u Q I rx ry ⟨_, _, rfl, rfl, hz, r.val m (.str _)⟩
    · exact r.elim
  · rename_i l k
    cases ia with
    | lst ha =>
      cases ib with
      | lst hb =>
        split at r
        · rename_i xs ys e1 e2
          split at r
          · rename_i hz
            obtain ⟨vs, h1, i1⟩ := m.lstM ha e1
            obtain ⟨ws, h2, i2⟩ := m.lstM hb e2
            exact op_cat pins s σ H _ _ v u Q I rx ry ⟨_, _, _, _, rfl, rfl, h1, h2, by rw [← i1.length, ← i2.length]; exact hz, fun p hp => r.newL m (i1.append i2) hp⟩
          · exact r.elim
        · exact r.elim
  · exact r.elim
def oSub : O2 := fun a b M => match a, b with
  | .int i, .int j => some (.int (i - j), M)
  | _, _ => none
theorem op_subA : OpR X (binaryOp .Sub) (r2 (X.am Tb) oSub) := by
  intro pins s σ H x y v u Q I rx ry h
  obtain ⟨a, b, M, ρ, ia, ib, m, r⟩ := h
  unfold oSub at r
  split at r
  · cases ia; cases ib
    exact op_sub pins s σ H _ _ v u Q I rx ry ⟨_, _, rfl, rfl, r.val m (.int _)⟩
  · exact r.elim
def oMul : O2 := fun a b M => match a, b with
  | .int i, .int j => if (-(2 ^ 64) < i ∧ i < 2 ^ 64) ∨ (-(2 ^ 64) < j ∧ j < 2 ^ 64) then some (.int (i * j), M) else none
  | .lst l, .int k => match M[l]? with
    | some (.lst xs) => if -(2 ^ 63) ≤ k ∧ k < 2 ^ 63 ∧ xs.length * k.toNat ≤ sizeLine then some (.lst M.length, M ++ [.lst (List.replicate k.toNat xs).flatten]) else none
    | _ => none
  | _, _ => none
theorem IsAll.rep {ρ : List Addr} {H : Hp} {ts : List A} {vs : List V} (r : IsAll ρ H ts vs) : ∀ n : Nat, IsAll ρ H (List.replicate n ts).flatten (List.replicate n vs).flatten
  | 0 => .nil
  | n + 1 => by
    rw [List.replicate_succ, List.replicate_succ, List.flatten_cons, List.flatten_cons]
    exact r.append (IsAll.rep r n)
theorem op_mulA : OpR X (binaryOp .Mult) (r2 (X.am Tb) oMul) := by
  intro pins s σ H x y v u Q I rx ry h
  obtain ⟨a, b, M, ρ, ia, ib, m, r⟩ := h
  unfold oMul at r
  split at r
  · cases ia; cases ib
    split at r
    · rename_i hc
      exact op_mul pins s σ H _ _ v u Q I rx ry ⟨_, _, rfl, rfl, hc, r.val m (.int _)⟩
    · exact r.elim
  · rename_i l k
    cases ib
    cases ia with
    | lst ha =>
      split at r
      · rename_i xs e1
        split at r
        · rename_i hc
          obtain ⟨vs, h1, i1⟩ := m.lstM ha e1
          exact op_rep pins s σ H _ _ v u Q I rx ry ⟨_, _, _, rfl, rfl, h1, hc.1, hc.2.1, by rw [← i1.length]; exact hc.2.2, fun p hp => r.newL m (i1.rep _) hp⟩
        · exact r.elim
      · exact r.elim
  · exact r.elim
def oFdiv : O2 := fun a b M => match a, b with
  | .int i, .int j => if 0 < j ∧ j < 1073741824 then some (.int (i / j), M) else none
  | _, _ => none
theorem op_fdivA : OpR X (binaryOp .FloorDiv) (r2 (X.am Tb) oFdiv) := by
  intro pins s σ H x y v u Q I rx ry h
  obtain ⟨a, b, M, ρ, ia, ib, m, r⟩ := h
  unfold oFdiv at r
  split at r
  · cases ia; cases ib
    split at r
    · rename_i hc
      exact op_fdiv pins s σ H _ _ v u Q I rx ry ⟨_, _, rfl, rfl, hc, r.val m (.int _)⟩
    · exact r.elim
  · exact r.elim
def oMod : O2 := fun a b M => match a, b with
  | .int i, .int j => if 0 < j then some (.int (i % j), M) else none
  | _, _ => none
theorem op_modA : OpR X (binaryOp .Mod) (r2 (X.am Tb) oMod) := by
  intro pins s σ H x y v u Q I rx ry h
  obtain ⟨a, b, M, ρ, ia, ib, m, r⟩ := h
  unfold oMod at r
  split at r
  · cases ia; cases ib
    split at r
    · rename_i hc
      exact op_mod pins s σ H _ _ v u Q I rx ry ⟨_, _, rfl, rfl, hc, r.val m (.int _)⟩
    · exact r.elim
  · exact r.elim
def oPow : O2 := fun a b M => match a, b with
  | .int i, .int j => if 0 ≤ j ∧ j ≤ 1000000 ∧ i.natAbs < 2 ^ 64 then some (.int (i ^ j.toNat), M) else none
  | _, _ => none
theorem op_powA : OpR X (binaryOp .Pow) (r2 (X.am Tb) oPow) := by
  intro pins s σ H x y v u Q I rx ry h
  obtain ⟨a, b, M, ρ, ia, ib, m, r⟩ := h
  unfold oPow at r
  split at r
  · cases ia; cases ib
    split at r
    · rename_i hc
      exact op_pow pins s σ H _ _ v u Q I rx ry ⟨_, _, rfl, rfl, hc, r.val m (.int _)⟩
    · exact r.elim
  · exact r.elim
def oNeg : O1 := fun a M => match a with
  | .int i => some (.int (-i), M)
  | _ => none
theorem un_negA : UnR X (unaryOp .USub) (r1 (X.am Tb) oNeg) := by
  intro pins s σ H x v Q I rx h
  obtain ⟨a, M, ρ, ia, m, r⟩ := h
  unfold oNeg at r
  split at r
  · cases ia
    exact un_neg pins s σ H _ v Q I rx ⟨_, rfl, r.val m (.int _)⟩
  · exact r.elim
/-! ### comparisons -/
def oEq : O2 := fun a b M => match datS M a, datS M b with
  | some d, some e => some (.bl (PyData.eqv d e), M)
  | _, _ => none
def oNe : O2 := fun a b M => match datS M a, datS M b with
  | some d, some e => some (.bl (!PyData.eqv d e), M)
  | _, _ => none
theorem op_eqA (hu : X.A.units + 64 < cLine) : OpR X (compareOp .Eq) (r2 (X.am Tb) oEq) := by
  intro pins s σ H x y v u Q I rx ry h
  obtain ⟨a, b, M, ρ, ia, ib, m, r⟩ := h
  unfold oEq at r
  split at r
  · rename_i d e e1 e2
    obtain ⟨h1, s1⟩ := datS_ok m ia e1
    obtain ⟨h2, s2⟩ := datS_ok m ib e2
    exact op_eqD hu pins s σ H x y v u Q I rx ry ⟨d, e, h1, h2, s1, s2, r.val m (.bl _)⟩
  · exact r.elim
theorem op_neA (hu : X.A.units + 64 < cLine) : OpR X (compareOp .NotEq) (r2 (X.am Tb) oNe) := by
  intro pins s σ H x y v u Q I rx ry h
  obtain ⟨a, b, M, ρ, ia, ib, m, r⟩ := h
  unfold oNe at r
  split at r
  · rename_i d e e1 e2
    obtain ⟨h1, s1⟩ := datS_ok m ia e1
    obtain ⟨h2, s2⟩ := datS_ok m ib e2
    exact op_neD hu pins s σ H x y v u Q I rx ry ⟨d, e, h1, h2, s1, s2, r.val m (.bl _)⟩
  · exact r.elim
def oInt (p : Int → Int → Bool) : O2 := fun a b M => match a, b with
  | .int i, .int j => some (.bl (p i j), M)
  | _, _ => none
def oLt : O2 := oInt fun i j => decide (i < j)
def oLe : O2 := oInt fun i j => decide (i ≤ j)
def oGt : O2 := oInt fun i j => decide (j < i)
def oGe : O2 := oInt fun i j => decide (j ≤ i)
theorem op_intA {op : CmpOp} {p : Int → Int → Bool} (ho : OpR X (compareOp op) (rI0 fun i j => .bl (p i j))) : OpR X (compareOp op) (r2 (X.am Tb) (oInt p)) := by
  intro pins s σ H x y v u Q I rx ry h
  obtain ⟨a, b, M, ρ, ia, ib, m, r⟩ := h
  unfold oInt at r
  split at r
  · cases ia; cases ib
    exact ho pins s σ H _ _ v u Q I rx ry ⟨_, _, rfl, rfl, r.val m (.bl _)⟩
  · exact r.elim
theorem op_ltA : OpR X (compareOp .Lt) (r2 (X.am Tb) oLt) := op_intA op_lt
theorem op_leA : OpR X (compareOp .LtE) (r2 (X.am Tb) oLe) := op_intA op_le
theorem op_gtA : OpR X (compareOp .Gt) (r2 (X.am Tb) oGt) := op_intA op_gt
theorem op_geA : OpR X (compareOp .GtE) (r2 (X.am Tb) oGe) := op_intA op_ge
def isNon : A → Bool
  | .non => true
  | _ => false
def oIs : O2 := fun a b M => match b with
  | .non => some (.bl (isNon a), M)
  | _ => none
def oIsNot : O2 := fun a b M => match b with
  | .non => some (.bl (!isNon a), M)
  | _ => none
theorem isNon_ok {ρ : List Addr} {H : Hp} {a : A} {v : V} (r : Is ρ H a v) : decide (v = .non) = isNon a := by
  cases r <;> simp [isNon]
theorem op_isA : OpR X (compareOp .Is) (r2 (X.am Tb) oIs) := by
  intro pins s σ H x y v u Q I rx ry h
  obtain ⟨a, b, M, ρ, ia, ib, m, r⟩ := h
  unfold oIs at r
  split at r
  · cases ib
    exact op_isN pins s σ H _ _ v u Q I rx ry ⟨rfl, by rw [isNon_ok ia]; exact r.val m (.bl _)⟩
  · exact r.elim
theorem op_isNotA : OpR X (compareOp .IsNot) (r2 (X.am Tb) oIsNot) := by
  intro pins s σ H x y v u Q I rx ry h
  obtain ⟨a, b, M, ρ, ia, ib, m, r⟩ := h
  unfold oIsNot at r
  split at r
  · cases ib
    exact op_notN pins s σ H _ _ v u Q I rx ry ⟨rfl, by rw [isNon_ok ia]; exact r.val m (.bl _)⟩
  · exact r.elim
/-! ### keys of dicts -/
def key? : A → Option Key
  | .int i => some (.inl i)
  | .str x => some (.inr x)
  | _ => none
theorem key_ok {ρ : List Addr} {H : Hp} {a : A} {v : V} {k : Key} (r : Is ρ H a v) (e : key? a = some k) : v = kV k := by
  cases r <;> simp only [key?] at e <;> cases e <;> rfl
theorem keys_ok {ρ : List Addr} {H : Hp} : ∀ {as : List A} {vs : List V} {ks : List Key}, IsAll ρ H as vs → as.mapM key? = some ks → vs = ks.map kV
  | [], _, ks, .nil, e => by rw [List.mapM_nil] at e; cases e; rfl
  | x :: xs, _, ks, .cons r rs, e => by
    obtain ⟨y, ys, e1, e2, rfl⟩ := mapM_cons_some e
    rw [key_ok r e1, keys_ok rs e2]; rfl
section
variable {κ : Type} [DecidableEq κ]
def valA (kvs : List (κ × A)) (k : κ) : Option A := (kvs.find? fun kv => decide (kv.1 = k)).map (·.2)
def putA (kvs : List (κ × A)) (k : κ) (v : A) : List (κ × A) :=
  if (kvs.any fun kv => decide (kv.1 = k)) = true then kvs.map (fun kv => if kv.1 = k then (kv.1, v) else kv) else kvs ++ [(k, v)]
theorem valA_ok {ρ : List Addr} {H : Hp} (k : κ) : ∀ {kvs : List (κ × A)} {vs : List V}, IsAll ρ H (kvs.map (·.2)) vs →
    (valA kvs k = none ∧ valV ((kvs.map (·.1)).zip vs) k = none) ∨ ∃ a v, valA kvs k = some a ∧ valV ((kvs.map (·.1)).zip vs) k = some v ∧ Is ρ H a v
  | [], _, .nil => .inl ⟨rfl, rfl⟩
  | (j, a) :: kvs, _, .cons (v := v) (vs := vs) r rs => by
    by_cases e : j = k
    · subst e
      exact .inr ⟨a, v, by simp [valA], by simp [valV], r⟩
    · have ih := valA_ok (H := H) k rs
      have e1 : valA ((j, a) :: kvs) k = valA kvs k := by simp [valA, List.find?_cons, e]
      have e2 : valV ((((j, a) :: kvs).map (·.1)).zip (v :: vs)) k = valV ((kvs.map (·.1)).zip vs) k := by simp [valV, List.find?_cons, e]
      rw [e1, e2]; exact ih
theorem put_ok {ρ : List Addr} {H : Hp} (k : κ) {x : A} {y : V} (rx : Is ρ H x y) {kvs : List (κ × A)} {vs : List V} (r : IsAll ρ H (kvs.map (·.2)) vs) :
    ∃ ws, putK ((kvs.map (·.1)).zip vs) k y = ((putA kvs k x).map (·.1)).zip ws ∧ IsAll ρ H ((putA kvs k x).map (·.2)) ws := by
  have any_eq : ∀ {kvs : List (κ × A)} {vs : List V}, IsAll ρ H (kvs.map (·.2)) vs → (((kvs.map (·.1)).zip vs).any fun kv => decide (kv.1 = k)) = kvs.any fun kv => decide (kv.1 = k) := by
    intro kvs
    induction kvs with
    | nil => intro vs r; cases r; rfl
    | cons p kvs ih =>
      intro vs r
      cases r with
      | cons r rs => simp only [List.map_cons, List.zip_cons_cons, List.any_cons, ih rs]
  unfold putK putA
  rw [any_eq r]
  split
  · clear any_eq
    rename_i hany; clear hany
    induction kvs generalizing vs with
    | nil => cases r; exact ⟨[], rfl, .nil⟩
    | cons p kvs ih =>
      cases r with
      | @cons _ v0 _ vs0 r rs =>
        obtain ⟨ws, e1, e2⟩ := ih rs
        obtain ⟨j, a⟩ := p
        by_cases e : j = k
        · subst e
          refine ⟨y :: ws, ?_, ?_⟩
          · simp only [List.map_cons, List.zip_cons_cons, if_true]
            rw [e1]
          · simp only [List.map_cons, if_true]
            exact .cons rx e2
        · refine ⟨v0 :: ws, ?_, ?_⟩
          · simp only [List.map_cons, List.zip_cons_cons, if_neg e]
            rw [e1]
          · simp only [List.map_cons, if_neg e]
            exact .cons r e2
  · refine ⟨vs ++ [y], ?_, ?_⟩
    · rw [List.map_append, List.zip_append (by simpa using r.length)]; rfl
    · rw [List.map_append]; exact r.append (.cons rx .nil)
end
/-- what a dict holds at a key -/
def dGet (M : Store) (d : Nat) (k : A) : Option (Option A) := match M[d]? with
  | some (.dK kvs) => (key? k).map fun j => valA kvs j
  | some (.dT kvs) => match k with
    | .tup xs => (xs.mapM key?).map fun j => valA kvs j
    | _ => none
  | _ => none
def dPut (M : Store) (d : Nat) (k x : A) : Option Store := match M[d]? with
  | some (.dK kvs) => if kvs.length < sizeLine then (key? k).map fun j => M.set d (.dK (putA kvs j x)) else none
  | some (.dT kvs) => if kvs.length < sizeLine then match k with
    | .tup xs => (xs.mapM key?).map fun j => M.set d (.dT (putA kvs j x))
    | _ => none else none
  | _ => none
theorem dGet_ok {ρ : List Addr} {H : Hp} {M : Store} (m : RM w ρ H M) {d : Nat} {b : Addr} {k : A} {y : V} {o : Option A} (hb : ρ[d]? = some b) (ik : Is ρ H k y) (e : dGet M d k = some o) :
    (o = none ∧ DGet H b y none) ∨ ∃ a v, o = some a ∧ DGet H b y (some v) ∧ Is ρ H a v := by
  unfold dGet at e
  split at e
  · rename_i kvs ec
    obtain ⟨vs, h, i⟩ := m.at_ d b _ hb ec
    cases ek : key? k with
    | none => rw [ek] at e; cases e
    | some j =>
      rw [ek] at e; cases e
      rw [key_ok ik ek]
      rcases valA_ok j i with ⟨h1, h2⟩ | ⟨a, v, h1, h2, h3⟩
      · exact .inl ⟨h1, by rw [← h2]; exact DGet.k h⟩
      · exact .inr ⟨a, v, h1, by rw [← h2]; exact DGet.k h, h3⟩
  · rename_i kvs ec
    obtain ⟨vs, h, i⟩ := m.at_ d b _ hb ec
    split at e
    · rename_i xs
      cases ik with
      | tup ht it =>
        cases ek : xs.mapM key? with
        | none => rw [ek] at e; cases e
        | some j =>
          rw [ek] at e; cases e
          rw [keys_ok it ek] at ht
          rcases valA_ok j i with ⟨h1, h2⟩ | ⟨a, v, h1, h2, h3⟩
          · exact .inl ⟨h1, by rw [← h2]; exact DGet.t h ht⟩
          · exact .inr ⟨a, v, h1, by rw [← h2]; exact DGet.t h ht, h3⟩
    · cases e
  · cases e
theorem dPut_ok {ρ : List Addr} {H : Hp} {M M' : Store} (m : RM w ρ H M) {d : Nat} {b : Addr} {k x : A} {y z : V} (hb : ρ[d]? = some b) (ik : Is ρ H k y) (ix : Is ρ H x z) (e : dPut M d k x = some M') :
    ∃ H', DPut H b y z H' ∧ RM w ρ H' M' ∧ Grow H H' := by
  unfold dPut at e
  split at e
  · rename_i kvs ec
    obtain ⟨vs, h, i⟩ := m.at_ d b _ hb ec
    split at e
    · rename_i hz
      cases ek : key? k with
      | none => rw [ek] at e; cases e
      | some j =>
        rw [ek] at e; cases e
        rw [key_ok ik ek]
        obtain ⟨ws, e1, e2⟩ := put_ok j ix i
        have hl : ((kvs.map (·.1)).zip vs).length < sizeLine := by
          have := i.length
          simp only [List.length_zip, List.length_map] at this ⊢; omega
        have dp := DPut.k (k := j) (v := z) h hl
        rw [e1] at dp
        exact ⟨_, dp, m.set hb ec ⟨ws, upd_same, e2.mono (.refl _) (m.growSet hb ec)⟩, m.growSet hb ec⟩
    · cases e
  · rename_i kvs ec
    obtain ⟨vs, h, i⟩ := m.at_ d b _ hb ec
    split at e
    · rename_i hz
      split at e
      · rename_i xs
        cases ik with
        | tup ht it =>
          cases ek : xs.mapM key? with
          | none => rw [ek] at e; cases e
          | some j =>
            rw [ek] at e; cases e
            rw [keys_ok it ek] at ht
            obtain ⟨ws, e1, e2⟩ := put_ok j ix i
            have hl : ((kvs.map (·.1)).zip vs).length < sizeLine := by
              have := i.length
              simp only [List.length_zip, List.length_map] at this ⊢; omega
            have dp := DPut.t (k := j) (v := z) h ht hl
            rw [e1] at dp
            exact ⟨_, dp, m.set hb ec ⟨ws, upd_same, e2.mono (.refl _) (m.growSet hb ec)⟩, m.growSet hb ec⟩
      · cases e
    · cases e
  · cases e
/-- x in y: a dict's keys; flat items of a list or a tuple; data in a list -/
def oIn : O2 := fun a b M => match b with
  | .dct d => (dGet M d a).map fun o => (.bl o.isSome, M)
  | .tup xs => match flat? a, xs.mapM flat? with
    | some x, some ys => some (.bl (inV x ys), M)
    | _, _ => none
  | .lst l => match listAt M l with
    | some xs => match flat? a, xs.mapM flat? with
      | some x, some ys => some (.bl (inV x ys), M)
      | _, _ => match datS M a, datS M (.lst l) with
        | some d, some (.list ds) => some (.bl (ds.any fun z => PyData.eqv z d), M)
        | _, _ => none
    | none => none
  | _ => none
def notO (o : O2) : O2 := fun a b M => match o a b M with
  | some (.bl c, M) => some (.bl (!c), M)
  | _ => none
def oNotIn : O2 := notO oIn
theorem op_inA (hu : X.A.units + 65 < cLine) : OpR X (compareOp .In) (r2 (X.am Tb) oIn) := by
  intro pins s σ H x y v u Q I rx ry h
  obtain ⟨a, b, M, ρ, ia, ib, m, r⟩ := h
  unfold oIn at r
  split at r
  · rename_i d
    cases ib with
    | dct hb =>
      cases e : dGet M d a with
      | none => rw [e] at r; exact r.elim
      | some o =>
        rw [e] at r
        cases ry
        rcases dGet_ok m hb ia e with ⟨rfl, g⟩ | ⟨c, w, rfl, g, _⟩
        · exact d_in (by omega) I g rx fun s' I' => ⟨.bl _, H, I', rfl, r.val m (.bl _)⟩
        · exact d_in (by omega) I g rx fun s' I' => ⟨.bl _, H, I', rfl, r.val m (.bl _)⟩
  · cases ib with
    | tup hb ibs =>
      split at r
      · rename_i x' ys e1 e2
        obtain ⟨rfl, f1⟩ := flat_ok ia e1
        obtain ⟨rfl, f2⟩ := flats_ok ibs e2
        exact op_in_seq pins s σ H _ _ v u Q I rx ry ⟨_, _, rfl, .inr (.inl (.inl hb)), f1, f2, r.val m (.bl _)⟩
      · exact r.elim
  · rename_i l
    cases ib with
    | lst hb =>
      split at r
      · rename_i xs el
        obtain ⟨vs, hq, is⟩ := m.list hb el
        split at r
        · rename_i x' ys e1 e2
          obtain ⟨rfl, f1⟩ := flat_ok ia e1
          obtain ⟨rfl, f2⟩ := flats_ok is e2
          exact op_in_seq pins s σ H _ _ v u Q I rx ry ⟨_, _, rfl, .inl hq, f1, f2, r.val m (.bl _)⟩
        · split at r
          · rename_i d ds e1 e2
            obtain ⟨h1, s1⟩ := datS_ok m ia e1
            obtain ⟨h2, s2⟩ := datS_ok m (.lst hb) e2
            exact op_inD hu pins s σ H _ _ v u Q I rx ry ⟨d, ds, h1, h2, s1, s2, r.val m (.bl _)⟩
          · exact r.elim
      · exact r.elim
  · exact r.elim
theorem op_notInA (hu : X.A.units + 65 < cLine) : OpR X (compareOp .NotIn) (r2 (X.am Tb) oNotIn) := by
  intro pins s σ H x y v u Q I rx ry h
  obtain ⟨a, b, M, ρ, ia, ib, m, r⟩ := h
  unfold oNotIn notO oIn at r
  cases b with
  | dct d =>
    cases ib with
    | dct hb =>
      simp only at r
      cases e : dGet M d a with
      | none => rw [e] at r; exact r.elim
      | some o =>
        rw [e] at r
        cases ry
        rcases dGet_ok m hb ia e with ⟨rfl, g⟩ | ⟨c, w, rfl, g, _⟩
        · exact d_notIn (by omega) I g rx fun s' I' => ⟨.bl _, H, I', rfl, RO.val (ρ := ρ) (M := M) r m (.bl _)⟩
        · exact d_notIn (by omega) I g rx fun s' I' => ⟨.bl _, H, I', rfl, RO.val (ρ := ρ) (M := M) r m (.bl _)⟩
  | tup xs =>
    cases ib with
    | tup hb ibs =>
      simp only at r
      cases e1 : flat? a with
      | none => rw [e1] at r; exact r.elim
      | some x' =>
        cases e2 : xs.mapM flat? with
        | none => rw [e1, e2] at r; exact r.elim
        | some ys =>
          rw [e1, e2] at r
          obtain ⟨rfl, f1⟩ := flat_ok ia e1
          obtain ⟨rfl, f2⟩ := flats_ok ibs e2
          exact op_notIn_seq pins s σ H _ _ v u Q I rx ry ⟨_, _, rfl, .inr (.inl (.inl hb)), f1, f2, RO.val (ρ := ρ) (M := M) r m (.bl _)⟩
  | lst l =>
    cases ib with
    | lst hb =>
      simp only at r
      cases el : listAt M l with
      | none => rw [el] at r; exact r.elim
      | some xs =>
        rw [el] at r
        obtain ⟨vs, hq, is⟩ := m.list hb el
        simp only at r
        have deep : RO (X.am Tb) ρ H (match (match datS M a, datS M (.lst l) with
            | some d, some (.list ds) => some (A.bl (ds.any fun z => PyData.eqv z d), M)
            | _, _ => none) with
            | some (.bl c, M) => some (A.bl (!c), M)
            | _ => none) Q → wpAny (model X.prog X.w) X.A (compareOp .NotIn v u) (EP X pins σ Q) X.xe s := fun r => by
          cases e3 : datS M a with
          | none => rw [e3] at r; exact r.elim
          | some d =>
            cases e4 : datS M (.lst l) with
            | none => rw [e3, e4] at r; exact r.elim
            | some dl =>
              rw [e3, e4] at r
              cases dl with
              | list ds =>
                obtain ⟨h1, s1⟩ := datS_ok m ia e3
                obtain ⟨h2, s2⟩ := datS_ok m (.lst hb) e4
                exact op_notInD hu pins s σ H _ _ v u Q I rx ry ⟨d, ds, h1, h2, s1, s2, RO.val (ρ := ρ) (M := M) r m (.bl _)⟩
              | _ => exact r.elim
        cases e1 : flat? a with
        | none => rw [e1] at r; exact deep r
        | some x' =>
          cases e2 : xs.mapM flat? with
          | none => rw [e1, e2] at r; exact deep r
          | some ys =>
            rw [e1, e2] at r
            obtain ⟨rfl, f1⟩ := flat_ok ia e1
            obtain ⟨rfl, f2⟩ := flats_ok is e2
            exact op_notIn_seq pins s σ H _ _ v u Q I rx ry ⟨_, _, rfl, .inl hq, f1, f2, RO.val (ρ := ρ) (M := M) r m (.bl _)⟩
  | _ => exact r.elim
end
end AB
/-! AB3: tests, statements, loops, comprehensions, calls -/
namespace AB
open PySem PySem.Spec PyProof.Rows L2
/-! ### comparisons, tests, and | or | not -/
section
variable {X : Cx} {W : WR} {pos : Pos} {a b c : Expr} {f g h : EF} {rest : List Expr}
theorem ae_cmp {op : CmpOp} {o : O2} (ho : OpR X (compareOp op) (r2 (X.am W.Tb) o)) (ha : AE X W a f) (hb : AE X W b g) (hm : behindInMarks op b = false := by with_unfolding_all rfl) : AE X W (.Compare a [op] [b] pos) (eOp o f g) :=
  (pe_cmpR ho ha hb hm).pre fun _ _ _ h => op_tK h
/-- a bool's value as a test -/
def eB (f : EF) : EFb := fun τ M => (f τ M).bind fun a M1 => match a with
  | .bl k => .ok k M1
  | _ => .bad
theorem bool_tK {f : EF} {σ : L2.St} {H : Hp} {Q : Bool → Hp → Prop} {G : Gx} (h : tG G W relB (eB f) σ H Q) : tG G W Is f σ H fun x H' => ∃ k, x = .bl k ∧ Q k H' := by
  refine (seqG Is h).imp fun x H1 h1 => ?_
  obtain ⟨τ, M, ρ, a, rs, rm, i, r⟩ := h1
  cases a with
  | bl k => cases i; exact ⟨k, rfl, r.okv (.refl _) (.refl _) rm rfl⟩
  | _ => exact r.elim
theorem at_cmp {op : CmpOp} {o : O2} (ho : OpR X (compareOp op) (r2 (X.am W.Tb) o)) (ha : AE X W a f) (hb : AE X W b g) (hm : behindInMarks op b = false := by with_unfolding_all rfl) : AT X W (.Compare a [op] [b] pos) (eB (eOp o f g)) :=
  (pt_cmpR ho ha hb hm).pre fun σ H Q h => by
    have h' := bool_tK h
    exact op_tK h'
def chainK (o' : O2) (h : EF) (τ : Sl) (b k : A) (M3 : Store) : EO A := match k with
  | .bl true => (h τ M3).bind fun c M4 => toE (o' b c M4)
  | .bl false => .ok (.bl false) M3
  | _ => .bad
def eChain (o o' : O2) (f g h : EF) : EF := fun τ M => (f τ M).bind fun a M1 => (g τ M1).bind fun b M2 => (toE (o a b M2)).bind (chainK o' h τ b)
theorem chain_tK {o o' : O2} {σ : L2.St} {H : Hp} {Q : VK} {G : Gx} (h' : tG G W Is (eChain o o' f g h) σ H Q) :
    tG G W Is f σ H fun x H1 => tG G W Is g σ H1 fun y H2 => r2 G.w o x y H2 fun z H3 => ∃ k, z = .bl k ∧ (if k = true then tG G W Is h σ H3 fun w' H4 => r2 G.w o' y w' H4 Q else Q (.bl false) H3) := by
  refine (seqG Is h').imp fun x H1 h1 => ?_
  refine (seqK Is Is.ext Is h1).imp fun y H2 h2 => ?_
  obtain ⟨τ, M, ρ, a, b, rs, rm, i, j, r⟩ := h2
  refine ⟨a, b, M, ρ, i, j, rm, ?_⟩
  cases e : o a b M with
  | none => rw [e] at r; exact r
  | some p =>
    obtain ⟨k, M3⟩ := p
    rw [e] at r
    refine fun z H3 ρ3 x3 g3 m3 i3 => ?_
    have r : RE G W σ ρ H2 Is (chainK o' h τ b k M3) Q := r
    cases k with
    | bl k =>
      cases i3
      refine ⟨k, rfl, ?_⟩
      cases k with
      | true =>
        rw [if_pos rfl]
        have r3 := r.mono x3 g3
        refine ⟨τ, M3, ρ3, rs.mono x3 g3, m3, ?_⟩
        have r3 : RE G W σ ρ3 H3 Is ((h τ M3).bind fun c M4 => toE (o' b c M4)) Q := r3
        cases e4 : h τ M3 with
        | ok c M4 =>
          rw [e4] at r3
          exact fun w' H4 ρ4 x4 g4 m4 i4 => ⟨b, c, M4, ρ4, (j.mono x3 g3).mono x4 g4, i4, m4, RO.of (RE.mono r3 x4 g4)⟩
        | ex en M4 => rw [e4] at r3; exact r3
        | bad => rw [e4] at r3; exact r3
      | false =>
        rw [if_neg Bool.false_ne_true]
        exact r.okv x3 g3 m3 (.bl false)
    | _ => exact r.elim
theorem ae_chain {op op' : CmpOp} {o o' : O2} (ho : OpR X (compareOp op) (r2 (X.am W.Tb) o)) (ho' : OpR X (compareOp op') (r2 (X.am W.Tb) o')) (ha : AE X W a f) (hb : AE X W b g) (hc : AE X W c h)
    (hm : lastMarks [op, op'] [b, c] = false := by with_unfolding_all rfl) : AE X W (.Compare a [op, op'] [b, c] pos) (eChain o o' f g h) := (pe_chain ho ho' ha hb hc hm).pre fun _ _ _ h => chain_tK h
theorem at_chain {op op' : CmpOp} {o o' : O2} (ho : OpR X (compareOp op) (r2 (X.am W.Tb) o)) (ho' : OpR X (compareOp op') (r2 (X.am W.Tb) o')) (ha : AE X W a f) (hb : AE X W b g) (hc : AE X W c h)
    (hm : lastMarks [op, op'] [b, c] = false := by with_unfolding_all rfl) : AT X W (.Compare a [op, op'] [b, c] pos) (eB (eChain o o' f g h)) := (pt_chain ho ho' ha hb hc hm).pre fun _ _ _ h => chain_tK (bool_tK h)
/-- truth -/
def truA (M : Store) : A → Option Bool
  | .non => some false
  | .bl b => some b
  | .int i => some (i != 0)
  | .str x => if x.length ≤ sizeLine then some ((x.length : Int) != 0) else none
  | .tup xs => some (!xs.isEmpty)
  | .lst l => (listAt M l).map fun xs => !xs.isEmpty
  | .dct d => match M[d]? with
    | some (.dK kvs) => some (!kvs.isEmpty)
    | _ => none
  | .ty _ => none
  | .obj _ => none
  | .rng _ _ => none
theorem isEmpty_all {ρ : List Addr} {H : Hp} {ts : List A} {vs : List V} (r : IsAll ρ H ts vs) : vs.isEmpty = ts.isEmpty := by cases r <;> rfl
theorem truA_ok {ρ : List Addr} {H : Hp} {M : Store} (m : RM w ρ H M) {a : A} {v : V} {k : Bool} (i : Is ρ H a v) (e : truA M a = some k) : TruV w.K v H k := by
  cases i with
  | non => cases e; rfl
  | bl b => cases e; rfl
  | int i => cases e; rfl
  | str x =>
    simp only [truA] at e
    split at e
    · rename_i hz; cases e; exact ⟨hz, rfl⟩
    · cases e
  | tup h r => cases e; exact .inr (.inl ⟨_, .inl (.inl h), by rw [isEmpty_all r]⟩)
  | lst h =>
    simp only [truA] at e
    cases e1 : listAt M _ with
    | none => rw [e1] at e; cases e
    | some xs =>
      rw [e1] at e; cases e
      obtain ⟨vs, q, r⟩ := m.list h e1
      exact .inl ⟨vs, q, by rw [isEmpty_all r]⟩
  | dct h =>
    simp only [truA] at e
    split at e
    · rename_i kvs e1
      cases e
      obtain ⟨vs, q, r⟩ := m.at_ _ _ _ h e1
      refine .inr (.inr ⟨_, q, ?_⟩)
      cases kvs with
      | nil => cases r; rfl
      | cons p kvs => cases r; rfl
    · cases e
  | ty n => simp only [truA] at e; cases e
  | obj h => simp only [truA] at e; cases e
  | rng h => simp only [truA] at e; cases e
def eT (f : EF) : EFb := fun τ M => (f τ M).bind fun a M1 => match truA M1 a with
  | some k => .ok k M1
  | none => .bad
theorem at_val (ha : AE X W a f) (he : ∀ whole, isTrue a X.env whole = (do let v ← whole; standAt a.pos; holding [v] (truthy v)) := by intro _; rfl) : AT X W a (eT f) :=
  (pt_truth ha he).pre fun σ H Q h => by
    refine (seqG Is h).imp fun x H1 h1 => ?_
    obtain ⟨τ, M, ρ, a, rs, rm, i, r⟩ := h1
    dsimp only at r
    cases e : truA M a with
    | none => rw [e] at r; exact r.elim
    | some k => rw [e] at r; exact ⟨k, truA_ok rm i e, r.okv (.refl _) (.refl _) rm rfl⟩
def bAnd (f g : EFb) : EFb := fun τ M => (f τ M).bind fun k M1 => if k = true then g τ M1 else .ok false M1
def bOr (f g : EFb) : EFb := fun τ M => (f τ M).bind fun k M1 => if k = true then .ok true M1 else g τ M1
def bNot (f : EFb) : EFb := fun τ M => (f τ M).bind fun k M1 => .ok (!k) M1
variable {fb gb : EFb}
def AW (X : Cx) (W : WR) (e : Expr) (f : EFb) : Prop := PW X e (tG (X.gx W.Tb) W relB f)
theorem _root_.L2.PW.pre {X : Cx} {e : Expr} {t t' : TT} (h : PW X e t) (w : ∀ σ H Q, t' σ H Q → t σ H Q) : PW X e t' := ⟨fun wh pins s σ H Q I q => h.run wh pins s σ H Q I (w σ H Q q)⟩
theorem AW.at (h : AW X W a fb) : AT X W a fb := PW.pt h
theorem aw_and1 (ha : AT X W a fb) : AW X W (.BoolOp .And [a] pos) fb := pw_and1 ha
theorem aw_or1 (ha : AT X W a fb) : AW X W (.BoolOp .Or [a] pos) fb := pw_or1 ha
theorem and_tK {σ : L2.St} {H : Hp} {Q : Bool → Hp → Prop} {G : Gx} (h : tG G W relB (bAnd fb gb) σ H Q) : tG G W relB fb σ H fun c H1 => if c = true then tG G W relB gb σ H1 Q else Q false H1 := by
  refine (seqG relB h).imp fun x H1 h1 => ?_
  obtain ⟨τ, M, ρ, k, rs, rm, i, r⟩ := h1
  have i : k = x := i
  subst i
  have r : RE G W σ ρ H1 relB (if k = true then gb τ M else .ok false M) Q := r
  cases k with
  | true => exact ⟨τ, M, ρ, rs, rm, r⟩
  | false => exact r.okv (.refl _) (.refl _) rm rfl
theorem or_tK {σ : L2.St} {H : Hp} {Q : Bool → Hp → Prop} {G : Gx} (h : tG G W relB (bOr fb gb) σ H Q) : tG G W relB fb σ H fun c H1 => if c = true then Q true H1 else tG G W relB gb σ H1 Q := by
  refine (seqG relB h).imp fun x H1 h1 => ?_
  obtain ⟨τ, M, ρ, k, rs, rm, i, r⟩ := h1
  have i : k = x := i
  subst i
  have r : RE G W σ ρ H1 relB (if k = true then .ok true M else gb τ M) Q := r
  cases k with
  | true => exact r.okv (.refl _) (.refl _) rm rfl
  | false => exact ⟨τ, M, ρ, rs, rm, r⟩
theorem aw_and (ha : AT X W a fb) (hb : AW X W (.BoolOp .And (b :: rest) pos) gb) : AW X W (.BoolOp .And (a :: b :: rest) pos) (bAnd fb gb) := (pw_and ha hb).pre fun _ _ _ h => and_tK h
theorem aw_or (ha : AT X W a fb) (hb : AW X W (.BoolOp .Or (b :: rest) pos) gb) : AW X W (.BoolOp .Or (a :: b :: rest) pos) (bOr fb gb) := (pw_or ha hb).pre fun _ _ _ h => or_tK h
theorem at_not (ha : AT X W a fb) : AT X W (.UnaryOp .Not a pos) (bNot fb) := (pt_not ha).pre fun σ H Q h => by
  refine (seqG relB h).imp fun x H1 h1 => ?_
  obtain ⟨τ, M, ρ, k, rs, rm, i, r⟩ := h1
  have i : k = x := i
  subst i
  exact r.okv (.refl _) (.refl _) rm rfl
/-- .. as values; bools alone ahead -/
def eAnd (f g : EF) : EF := fun τ M => (f τ M).bind fun a M1 => match a with
  | .bl true => g τ M1
  | .bl false => .ok (.bl false) M1
  | _ => .bad
def eOr (f g : EF) : EF := fun τ M => (f τ M).bind fun a M1 => match a with
  | .bl true => .ok (.bl true) M1
  | .bl false => g τ M1
  | _ => .bad
def eNot (f : EF) : EF := fun τ M => (f τ M).bind fun a M1 => match a with
  | .bl k => .ok (.bl (!k)) M1
  | _ => .bad
theorem ae_one {op} (h : AE X W a f) : AE X W (.BoolOp op [a] pos) f := pe_one h
theorem ae_and (ha : AE X W a f) (hb : AE X W (.BoolOp .And (b :: rest) pos) g) : AE X W (.BoolOp .And (a :: b :: rest) pos) (eAnd f g) := (pe_and ha hb).pre fun σ H Q h => by
  refine (seqG Is h).imp fun x H1 h1 => ?_
  obtain ⟨τ, M, ρ, a, rs, rm, i, r⟩ := h1
  cases a with
  | bl k =>
    cases i
    cases k with
    | true => exact ⟨true, rfl, ⟨τ, M, ρ, rs, rm, r⟩⟩
    | false => exact ⟨false, rfl, r.okv (.refl _) (.refl _) rm (.bl false)⟩
  | _ => exact r.elim
theorem ae_or (ha : AE X W a f) (hb : AE X W (.BoolOp .Or (b :: rest) pos) g) : AE X W (.BoolOp .Or (a :: b :: rest) pos) (eOr f g) := (pe_or ha hb).pre fun σ H Q h => by
  refine (seqG Is h).imp fun x H1 h1 => ?_
  obtain ⟨τ, M, ρ, a, rs, rm, i, r⟩ := h1
  cases a with
  | bl k =>
    cases i
    cases k with
    | true => exact ⟨true, rfl, r.okv (.refl _) (.refl _) rm (.bl true)⟩
    | false => exact ⟨false, rfl, ⟨τ, M, ρ, rs, rm, r⟩⟩
  | _ => exact r.elim
theorem ae_not (ha : AE X W a f) : AE X W (.UnaryOp .Not a pos) (eNot f) := (pe_not ha).pre fun σ H Q h => by
  refine (seqG Is h).imp fun x H1 h1 => ?_
  obtain ⟨τ, M, ρ, a, rs, rm, i, r⟩ := h1
  cases a with
  | bl k => cases i; exact ⟨k, rfl, r.okv (.refl _) (.refl _) rm (.bl _)⟩
  | _ => exact r.elim
def eIf (t : EFb) (f g : EF) : EF := fun τ M => (t τ M).bind fun k M1 => if k = true then f τ M1 else g τ M1
theorem ae_if (hc : AT X W c fb) (ha : AE X W a f) (hb : AE X W b g) : AE X W (.IfExp c a b pos) (eIf fb f g) := (pe_ifExp hc ha hb).pre fun σ H Q h => by
  refine (seqG relB h).imp fun x H1 h1 => ?_
  obtain ⟨τ, M, ρ, k, rs, rm, i, r⟩ := h1
  have i : k = x := i
  subst i
  have r : RE (X.gx W.Tb) W σ ρ H1 Is (if k = true then f τ M else g τ M) Q := r
  cases k with
  | true => exact ⟨τ, M, ρ, rs, rm, r⟩
  | false => exact ⟨τ, M, ρ, rs, rm, r⟩
/-! ### displays -/
def eTup (f : EFs) : EF := fun τ M => (f τ M).bind fun as M1 => if as.length ≤ sizeLine then .ok (.tup as) M1 else .bad
def eLst (f : EFs) : EF := fun τ M => (f τ M).bind fun as M1 => if as.length ≤ sizeLine then .ok (.lst M1.length) (M1 ++ [.lst as]) else .bad
variable {es : List Expr} {fs : EFs}
theorem ae_tup {x1} (h : AA X W es fs) : AE X W (.Tuple es x1 pos) (eTup fs) := (pe_tup h).pre fun σ H Q h => by
  refine (seqG IsAll h).imp fun x H1 h1 => ?_
  obtain ⟨τ, M, ρ, as, rs, rm, i, r⟩ := h1
  have r : RE (X.gx W.Tb) W σ ρ H1 Is (if as.length ≤ sizeLine then .ok (.tup as) M else .bad) Q := r
  split at r
  · rename_i hz
    refine ⟨by rw [← i.length]; exact hz, fun p hp => ?_⟩
    exact r.okv (.refl _) (.new hp) (rm.new hp) (.tup upd_same (i.mono (.refl _) (.new hp)))
  · exact r.elim
theorem ae_lst (h : AA X W es fs) : AE X W (.List es pos) (eLst fs) := (pe_lst h).pre fun σ H Q h => by
  refine (seqG IsAll h).imp fun x H1 h1 => ?_
  obtain ⟨τ, M, ρ, as, rs, rm, i, r⟩ := h1
  have r : RE (X.gx W.Tb) W σ ρ H1 Is (if as.length ≤ sizeLine then .ok (.lst M.length) (M ++ [.lst as]) else .bad) Q := r
  split at r
  · rename_i hz
    refine ⟨by rw [← i.length]; exact hz, fun p hp => ?_⟩
    exact r.okv (.snoc _ p) (.new hp) (rm.push hp ⟨x, upd_same, i.mono (.snoc _ _) (.new hp)⟩) (.lst (by rw [← rm.len]; simp))
  · exact r.elim
def eNewK : EF := fun _ M => .ok (.dct M.length) (M ++ [.dK []])
def eNewT : EF := fun _ M => .ok (.dct M.length) (M ++ [.dT []])
theorem ae_newK : AE X W (.Dict [] [] pos) eNewK := pe_dnewK.pre fun σ H Q h => by
  obtain ⟨τ, M, ρ, rs, rm, r⟩ := h
  exact fun p hp => r.okv (.snoc _ p) (.new hp) (rm.push hp ⟨[], upd_same, .nil⟩) (.dct (by rw [← rm.len]; simp))
theorem ae_newT : AE X W (.Dict [] [] pos) eNewT := pe_dnewT.pre fun σ H Q h => by
  obtain ⟨τ, M, ρ, rs, rm, r⟩ := h
  exact fun p hp => r.okv (.snoc _ p) (.new hp) (rm.push hp ⟨[], upd_same, .nil⟩) (.dct (by rw [← rm.len]; simp))
end
/-! ### items, slices -/
section
variable {X : Cx} {W : WR} {pos : Pos} {a b : Expr} {f g : EF}
def oIx : O2 := fun x i M => match x, i with
  | .tup xs, .int i => (atI xs i).map (·, M)
  | .lst l, .int i => (listAt M l).bind fun xs => (atI xs i).map (·, M)
  | _, _ => none
theorem IsAll.atI {ρ : List Addr} {H : Hp} {ts : List A} {vs : List V} (r : IsAll ρ H ts vs) {i : Int} {a : A} (e : L2.atI ts i = some a) : ∃ v, L2.atI vs i = some v ∧ Is ρ H a v := by
  unfold L2.atI at e ⊢
  rw [← r.length]
  cases e1 : ixN ts.length i with
  | none => rw [e1] at e; cases e
  | some j =>
    rw [e1] at e
    obtain ⟨v, h1, h2⟩ := r.get e
    exact ⟨v, h1, h2⟩
theorem ix_A : IxR X (r2 (X.am W.Tb) oIx) := by
  intro value slice pins s σ H x y v u Q I rx ry h hs
  obtain ⟨a, b, M, ρ, ia, ib, m, r⟩ := h
  unfold oIx at r
  split at r
  · rename_i xs i
    cases ib
    cases ia with
    | tup ha qa =>
      cases e : atI xs i with
      | none => rw [e] at r; exact r.elim
      | some t =>
        rw [e] at r
        obtain ⟨w, h1, h2⟩ := qa.atI e
        exact ix_tup value slice pins s σ H _ _ v u Q I rx ry ⟨_, _, _, _, rfl, rfl, .inl (.inl ha), h1, RO.val (ρ := ρ) (M := M) r m h2⟩ hs
  · rename_i l i
    cases ib
    cases ia with
    | lst ha =>
      cases e1 : listAt M l with
      | none => rw [e1] at r; exact r.elim
      | some xs =>
        rw [e1] at r
        obtain ⟨vs, hq, is⟩ := m.list ha e1
        rw [Option.bind_some] at r
        cases e : atI xs i with
        | none => rw [e] at r; exact r.elim
        | some t =>
          rw [e] at r
          obtain ⟨w, h1, h2⟩ := is.atI e
          exact ix_list value slice pins s σ H _ _ v u Q I rx ry ⟨_, _, _, _, rfl, rfl, hq, h1, RO.val (ρ := ρ) (M := M) r m h2⟩ hs
  · exact r.elim
theorem ae_ix (ha : AE X W a f) (hb : AE X W b g) (hs : PlainIx b := by intro _ _; rfl) : AE X W (.Subscript a b pos) (eOp oIx f g) := (pe_ix ix_A ha hb hs).pre fun _ _ _ h => op_tK h
def oDget : O2 := fun x k M => match x with
  | .dct d => match dGet M d k with
    | some (some a) => some (a, M)
    | _ => none
  | _ => none
theorem ae_dget (hu : X.A.units + 1 < cLine) (ha : AE X W a f) (hb : AE X W b g) (hs : NoSl b := by intro _ _; rfl) : AE X W (.Subscript a b pos) (eOp oDget f g) := (pe_dget hu ha hb hs).pre fun σ H Q h => by
  refine (op_tK h).imp fun x H1 h1 => h1.imp fun y H2 h2 => ?_
  obtain ⟨a, b, M, ρ, ia, ib, m, r⟩ := h2
  unfold oDget at r
  split at r
  · rename_i d
    cases ia with
    | dct hd =>
      split at r
      · rename_i c e
        rcases dGet_ok m hd ib e with ⟨z, _⟩ | ⟨c', v, ec, gg, iv⟩
        · cases z
        · cases ec
          exact ⟨_, _, rfl, gg, r.val m iv⟩
      · exact r.elim
  · exact r.elim
/-- a part of a slice -/
def ePart (f : EF) : Sl → Store → EO (Option Int) := fun τ M => (f τ M).bind fun a M1 => match a with
  | .int i => .ok (some i) M1
  | _ => .bad
def eNoPart : Sl → Store → EO (Option Int) := fun _ M => .ok none M
abbrev relP : Rel (Option Int) (Option Int) := fun _ _ a b => a = b
def AP (X : Cx) (W : WR) (e : Option Expr) (f : Sl → Store → EO (Option Int)) : Prop := PO X e (fun σ H Q => tG (X.gx W.Tb) W relP f σ H Q)
theorem ap_none : AP X W none eNoPart := ⟨fun pins s σ H Q I h => by
  obtain ⟨τ, M, ρ, rs, rm, r⟩ := h
  exact po_none.run pins s σ H Q I (r.okv (.refl _) (.refl _) rm rfl)⟩
theorem ap_some (h : AE X W a f) : AP X W (some a) (ePart f) := ⟨fun pins s σ H Q I h' => (po_some h).run pins s σ H Q I (by
  refine (seqG Is h').imp fun x H1 h1 => ?_
  obtain ⟨τ, M, ρ, a, rs, rm, i, r⟩ := h1
  cases a with
  | int k => cases i; exact ⟨k, rfl, r.okv (.refl _) (.refl _) rm rfl⟩
  | _ => exact r.elim)⟩
theorem IsAll.cut {ρ : List Addr} {H : Hp} {ts : List A} {vs : List V} (r : IsAll ρ H ts vs) (lo hi : Option Int) : IsAll ρ H ((ts.drop (HT.sIx ts.length 0 lo)).take (HT.sIx ts.length ts.length hi - HT.sIx ts.length 0 lo)) (cutV vs lo hi) := by
  unfold cutV
  rw [← r.length]
  exact (r.drop _).take _
def cutA (xs : List A) (lo hi : Option Int) : List A := (xs.drop (HT.sIx xs.length 0 lo)).take (HT.sIx xs.length xs.length hi - HT.sIx xs.length 0 lo)
def oSl (x : A) (lo hi : Option Int) (M : Store) : Option (A × Store) := match x with
  | .tup xs => some (.tup (cutA xs lo hi), M)
  | .lst l => (listAt M l).map fun xs => (.lst M.length, M ++ [.lst (cutA xs lo hi)])
  | .str z => if z.length ≤ sizeLine then some (.str (cutS z lo hi), M) else none
  | _ => none
def eSl (f : EF) (p q : Sl → Store → EO (Option Int)) : EF := fun τ M => (f τ M).bind fun a M1 => (p τ M1).bind fun lo M2 => (q τ M2).bind fun hi M3 => toE (oSl a lo hi M3)
def rSl (w : Amb) (x : V) (lo hi : Option Int) (H : Hp) (Q : VK) : Prop := ∃ a M ρ, Is ρ H a x ∧ RM w ρ H M ∧ RO w ρ H (oSl a lo hi M) Q
theorem cutA_all {xs : List A} {lo hi : Option Int} (h : HT.sIx xs.length 0 lo = 0 ∧ HT.sIx xs.length xs.length hi = xs.length) : cutA xs lo hi = xs := by
  unfold cutA
  rw [h.1, h.2]
  simp
theorem sl_A : SlR X (rSl (X.am W.Tb)) := by
  intro pins s σ H x v vl vu lo hi sl Q I rx hs pl pu h
  obtain ⟨a, M, ρ, ia, m, r⟩ := h
  unfold oSl at r
  cases a with
  | tup xs =>
    cases ia with
    | tup ha qa =>
      refine sl_tupA pins s σ H _ v vl vu lo hi sl Q I rx hs pl pu ⟨_, _, rfl, .inl (.inl ha), fun hw => ?_, fun hw p hp => ?_⟩
      · rw [← qa.length] at hw
        have r : RO (X.am W.Tb) ρ H (some (.tup (cutA xs lo hi), M)) Q := r
        rw [cutA_all hw] at r
        exact r.val m (.tup ha qa)
      · exact RO.newT (M := M) r m (qa.cut lo hi) hp
  | lst l =>
    cases ia with
    | lst ha =>
      simp only at r
      cases e1 : listAt M l with
      | none => rw [e1] at r; exact r.elim
      | some xs =>
        rw [e1] at r
        obtain ⟨vs, hq, is⟩ := m.list ha e1
        exact sl_list pins s σ H _ v vl vu lo hi sl Q I rx hs pl pu ⟨_, _, rfl, hq, fun p hp => RO.newL (M := M) r m (is.cut lo hi) hp⟩
  | str z =>
    cases ia
    simp only at r
    split at r
    · rename_i hz
      exact sl_str pins s σ H _ v vl vu lo hi sl Q I rx hs pl pu ⟨z, rfl, hz, r.val m (.str _)⟩
    · exact r.elim
  | _ => exact r.elim
theorem ae_sl {p2 : Pos} {lo hi : Option Expr} {p q : Sl → Store → EO (Option Int)} (ha : AE X W a f) (hl : AP X W lo p) (hh : AP X W hi q) : AE X W (.Subscript a (.Slice lo hi none p2) pos) (eSl f p q) := (pe_slice sl_A ha hl hh).pre fun σ H Q h => by
  refine (seqG Is h).imp fun x H1 h1 => ?_
  refine (seqK Is Is.ext relP h1).imp fun y H2 h2 => ?_
  obtain ⟨τ, M, ρ, a, lo', rs, rm, i, j, r⟩ := h2
  subst j
  refine ⟨τ, M, ρ, rs, rm, ?_⟩
  cases e : q τ M with
  | ok hi' M3 =>
    rw [e] at r
    exact fun u H3 ρ3 x3 g3 m3 i3 => by
      have i3 : hi' = u := i3
      subst i3
      exact ⟨a, M3, ρ3, i.mono x3 g3, m3, RO.of (RE.mono (o := toE (oSl a lo' hi' M3)) r x3 g3)⟩
  | ex en M3 => rw [e] at r; exact r
  | bad => rw [e] at r; exact r
end
end AB
/-! AB4: statements, loops, comprehensions, calls -/
namespace AB
open PySem PySem.Spec PyProof.Rows L2
inductive SO where
  | nx (τ : Sl) (M : Store) | rt (a : A) (M : Store) | bk (τ : Sl) (M : Store) | ct (τ : Sl) (M : Store) | ex (e : Exn) (τ : Sl) (M : Store) | bad
abbrev SF := Sl → Store → SO
def EO.bindS {α : Type} (x : EO α) (τ : Sl) (k : α → Store → SO) : SO := match x with
  | .ok a M => k a M
  | .ex e M => .ex e τ M
  | .bad => .bad
def RSO (G : Gx) (W : WR) (D : Ends) (ρ : List Addr) (H : Hp) : SO → Prop
  | .nx τ M => ∀ σ' H' ρ', Ext ρ ρ' → Grow H H' → RM G.w ρ' H' M → RS W ρ' H' τ σ' → D.nx σ' H'
  | .rt a M => ∀ v H' ρ', Ext ρ ρ' → Grow H H' → RM G.w ρ' H' M → Is ρ' H' a v → D.rt v H'
  | .bk τ M => ∀ σ' H' ρ', Ext ρ ρ' → Grow H H' → RM G.w ρ' H' M → RS W ρ' H' τ σ' → D.bk σ' H'
  | .ct τ M => ∀ σ' H' ρ', Ext ρ ρ' → Grow H H' → RM G.w ρ' H' M → RS W ρ' H' τ σ' → D.ct σ' H'
  | .ex e τ M => ∀ cls d σ' H' ρ', Ext ρ ρ' → Grow H H' → RM G.w ρ' H' M → RS W ρ' H' τ σ' → RX G.mg ρ' H' e cls d → W cls d σ' H'
  | .bad => False
section
variable {G : Gx} {W : WR} {D D' : Ends} {ρ ρ' : List Addr} {H H' : Hp} {o : SO}
theorem RSO.mono (r : RSO G W D ρ H o) (x : Ext ρ ρ') (g : Grow H H') : RSO G W D ρ' H' o := by
  cases o with
  | nx τ M => exact fun s h p x2 g2 => r s h p (x.trans x2) (g.trans g2)
  | rt a M => exact fun s h p x2 g2 => r s h p (x.trans x2) (g.trans g2)
  | bk τ M => exact fun s h p x2 g2 => r s h p (x.trans x2) (g.trans g2)
  | ct τ M => exact fun s h p x2 g2 => r s h p (x.trans x2) (g.trans g2)
  | ex e τ M => exact fun c d s h p x2 g2 => r c d s h p (x.trans x2) (g.trans g2)
  | bad => exact r
end
def tS (G : Gx) (W : WR) (f : SF) : TS := fun D σ H => ∃ τ M ρ, RS W ρ H τ σ ∧ RM G.w ρ H M ∧ RSO G W D ρ H (f τ M)
def AS (X : Cx) (W : WR) (st : Stmt) (f : SF) : Prop := PS X st (tS (X.gx W.Tb) W f)
def ASs (X : Cx) (W : WR) (st : List Stmt) (f : SF) : Prop := PSs X st (tS (X.gx W.Tb) W f)
/-- from an expression's reading -/
theorem bindS_tK {α β : Type} {G : Gx} {W : WR} {D : Ends} {σ : L2.St} {H : Hp} (rel : Rel α β) {f : Sl → Store → EO α} {k : Sl → α → Store → SO} (h : tS G W (fun τ M => (f τ M).bindS τ (k τ)) D σ H) :
    tG G W rel f σ H (fun b H1 => ∃ τ M ρ a, RS W ρ H1 τ σ ∧ RM G.w ρ H1 M ∧ rel ρ H1 a b ∧ RSO G W D ρ H1 (k τ a M)) := by
  obtain ⟨τ, M, ρ, rs, rm, r⟩ := h
  refine ⟨τ, M, ρ, rs, rm, ?_⟩
  dsimp only at r
  cases e : f τ M with
  | ok a M1 => rw [e] at r; exact fun b H1 ρ1 x g m i => ⟨τ, M1, ρ1, a, rs.mono x g, m, i, RSO.mono r x g⟩
  | ex en M1 => rw [e] at r; exact fun c d H1 ρ1 x g m i => r c d σ H1 ρ1 x g m (rs.mono x g) i
  | bad => rw [e] at r; exact r
section
variable {X : Cx} {W : WR} {pos : Pos} {st : Stmt} {rest : List Stmt} {e : Expr} {f : EF} {s t : SF}
def sNil : SF := fun τ M => .nx τ M
def sSeq (s t : SF) : SF := fun τ M => match s τ M with
  | .nx τ1 M1 => t τ1 M1
  | o => o
theorem ass_nil : ASs X W [] sNil := pss_nil.pre fun D σ H h => by
  obtain ⟨τ, M, ρ, rs, rm, r⟩ := h
  exact r _ _ ρ (.refl _) (.refl _) rm rs
theorem ass_cons (h1 : AS X W st s) (h2 : ASs X W rest t) : ASs X W (st :: rest) (sSeq s t) := (pss_cons h1 h2).pre fun D σ H h => by
  obtain ⟨τ, M, ρ, rs, rm, r⟩ := h
  refine ⟨τ, M, ρ, rs, rm, ?_⟩
  unfold sSeq at r
  cases e : s τ M with
  | nx τ1 M1 => rw [e] at r; exact fun σ1 H1 ρ1 x g m i => ⟨τ1, M1, ρ1, i, m, RSO.mono r x g⟩
  | rt a M1 => rw [e] at r; exact r
  | bk a M1 => rw [e] at r; exact r
  | ct a M1 => rw [e] at r; exact r
  | ex e a M1 => rw [e] at r; exact r
  | bad => rw [e] at r; exact r
theorem ass_one (h1 : AS X W st s) : ASs X W [st] s := pss_one h1
theorem as_pass : AS X W (.Pass pos) sNil := ps_pass.pre fun D σ H h => by
  obtain ⟨τ, M, ρ, rs, rm, r⟩ := h
  exact r _ _ ρ (.refl _) (.refl _) rm rs
theorem as_brk : AS X W (.Break pos) (fun τ M => .bk τ M) := ps_break.pre fun D σ H h => by
  obtain ⟨τ, M, ρ, rs, rm, r⟩ := h
  exact r _ _ ρ (.refl _) (.refl _) rm rs
theorem as_cont : AS X W (.Continue pos) (fun τ M => .ct τ M) := ps_continue.pre fun D σ H h => by
  obtain ⟨τ, M, ρ, rs, rm, r⟩ := h
  exact r _ _ ρ (.refl _) (.refl _) rm rs
def sExpr (f : EF) : SF := fun τ M => (f τ M).bindS τ fun _ M1 => .nx τ M1
theorem as_expr (he : AE X W e f) (hs : swapsWith e none pos.line X.env = pure false := by rfl) : AS X W (.Expr e pos) (sExpr f) := (ps_expr he hs).pre fun D σ H h => (bindS_tK Is h).imp fun b H1 h1 => by
  obtain ⟨τ, M, ρ, a, rs, rm, i, r⟩ := h1
  exact r _ _ ρ (.refl _) (.refl _) rm rs
def sRet (f : EF) : SF := fun τ M => (f τ M).bindS τ fun a M1 => .rt a M1
theorem as_ret (he : AE X W e f) : AS X W (.Return (some e) pos) (sRet f) := (ps_ret he).pre fun D σ H h => (bindS_tK Is h).imp fun b H1 h1 => by
  obtain ⟨τ, M, ρ, a, rs, rm, i, r⟩ := h1
  exact r _ _ ρ (.refl _) (.refl _) rm i
def sRetN : SF := fun _ M => .rt .non M
theorem as_retN : AS X W (.Return none pos) sRetN := ps_retN.pre fun D σ H h => by
  obtain ⟨τ, M, ρ, rs, rm, r⟩ := h
  exact r _ _ ρ (.refl _) (.refl _) rm .non
def sIf (c : EFb) (s t : SF) : SF := fun τ M => (c τ M).bindS τ fun k M1 => if k = true then s τ M1 else t τ M1
theorem as_if {c : Expr} {fc : EFb} {a b : List Stmt} (hc : AT X W c fc) (ha : ASs X W a s) (hb : ASs X W b t) : AS X W (.If c a b pos) (sIf fc s t) := (ps_if hc ha hb).pre fun D σ H h => (bindS_tK relB h).imp fun b H1 h1 => by
  obtain ⟨τ, M, ρ, k, rs, rm, i, r⟩ := h1
  have i : k = b := i
  subst i
  have r : RSO (X.gx W.Tb) W D ρ H1 (if k = true then s τ M else t τ M) := r
  cases k with
  | true => exact ⟨τ, M, ρ, rs, rm, r⟩
  | false => exact ⟨τ, M, ρ, rs, rm, r⟩
/-- code that the proof never comes to -/
def sBad : SF := fun _ _ => .bad
theorem as_never : AS X W st sBad := ps_never.pre fun D σ H h => by
  obtain ⟨τ, M, ρ, rs, rm, r⟩ := h
  exact r
theorem ass_never {sts : List Stmt} : ASs X W sts sBad := pss_never.pre fun D σ H h => by
  obtain ⟨τ, M, ρ, rs, rm, r⟩ := h
  exact r
/-! ### targets -/
/-- a target of names: one, or a tuple of targets -/
inductive Tgt where
  | nm (i : Nat) | tp (ts : List Tgt)
def setN (a : A) (i : Nat) (τ : Sl) : Sl := τ.set i (some a)
mutual
def Tgt.set : Tgt → A → Sl → Option Sl
  | .nm i, a, τ => some (τ.set i (some a))
  | .tp ts, .tup as, τ => Tgt.sets ts as τ
  | .tp _, _, _ => none
def Tgt.sets : List Tgt → List A → Sl → Option Sl
  | [], [], τ => some τ
  | t :: ts, a :: as, τ => (Tgt.set t a τ).bind fun τ1 => Tgt.sets ts as τ1
  | [], _ :: _, _ => none
  | _ :: _, [], _ => none
def Tgt.own : Tgt → List Nat
  | .nm i => [i]
  | .tp ts => Tgt.owns ts
def Tgt.owns : List Tgt → List Nat
  | [] => []
  | t :: ts => Tgt.own t ++ Tgt.owns ts
end
/-- the slots other than these are the same -/
def SameBut (vs : List Nat) (σ σ' : L2.St) : Prop := σ'.length = σ.length ∧ ∀ i, i ∉ vs → σ'[i]? = σ[i]?
theorem wipe_get (i : Nat) : ∀ (ws : List Nat) (s : L2.St), (L2.wipe s ws)[i]? = if i ∈ ws then (if i < s.length then some none else none) else s[i]?
  | [], s => by simp [L2.wipe]
  | w :: ws, s => by
    unfold L2.wipe
    by_cases e : w = i
    · subst e
      by_cases hl : w < s.length
      · rw [List.getElem?_set_self (by rw [wipe_length]; exact hl)]; simp [hl]
      · rw [List.getElem?_eq_none (by rw [List.length_set, wipe_length]; omega)]; simp [hl]
    · rw [List.getElem?_set_ne e, wipe_get i ws s]
      have : (i ∈ w :: ws) = (i ∈ ws) := by simp [Ne.symm e]
      simp only [this]
theorem wipe_wipe (s : L2.St) (ws : List Nat) : L2.wipe (L2.wipe s ws) ws = L2.wipe s ws := by
  apply List.ext_getElem?
  intro i
  rw [wipe_get, wipe_get, wipe_length]
  by_cases hi : i ∈ ws <;> simp [hi]
theorem SameBut.wipe {vs : List Nat} {σ σ' : L2.St} (h : SameBut vs σ σ') {ws : List Nat} (hs : ∀ i ∈ vs, i ∈ ws) : L2.wipe σ' ws = L2.wipe σ ws := by
  apply List.ext_getElem?
  intro i
  rw [wipe_get, wipe_get, h.1]
  by_cases hi : i ∈ ws
  · simp [hi]
  · simp [hi]; exact h.2 i fun z => hi (hs i z)
/-- what a target of names asks -/
def tTgt (t : Tgt) : TG := fun v σ H Q => ∃ a τ ρ τ', Is ρ H a v ∧ RS0 ρ H τ σ ∧ t.set a τ = some τ' ∧ ∀ σ', RS0 ρ H τ' σ' → SameBut t.own σ σ' → Q σ' H
def tTgts (ts : List Tgt) : TGs := fun vs σ H Q => ∃ as τ ρ τ', IsAll ρ H as vs ∧ RS0 ρ H τ σ ∧ Tgt.sets ts as τ = some τ' ∧ ∀ σ', RS0 ρ H τ' σ' → SameBut (Tgt.owns ts) σ σ' → Q σ' H
def AG (X : Cx) (e : Expr) (t : Tgt) : Prop := PG X e (tTgt t)
def AGs (X : Cx) (es : List Expr) (ts : List Tgt) : Prop := PGs X es (tTgts ts)
theorem _root_.L2.PG.pre {X : Cx} {e : Expr} {t t' : TG} (h : PG X e t) (w : ∀ v σ H Q, t' v σ H Q → t v σ H Q) : PG X e t' := ⟨fun pins s σ H v u Q I r q => h.run pins s σ H v u Q I r (w v σ H Q q)⟩
theorem _root_.L2.PGs.pre {X : Cx} {e : List Expr} {t t' : TGs} (h : PGs X e t) (w : ∀ v σ H Q, t' v σ H Q → t v σ H Q) : PGs X e t' := ⟨fun pins s σ H v u Q I r q => h.run pins s σ H v u Q I r (w v σ H Q q)⟩
theorem ag_nm (i : Nat) {x : Str} (hN : X.N.Nodup) (hi : X.N[i]? = some x := by rfl) (hx : Loc X.env.scope x := by first | exact Or.inl rfl | exact Or.inr rfl) (hf : X.fn x = true ∨ X.env.scope.names.lookup x = some .local := by first | exact .inl rfl | exact .inr rfl | assumption) : AG X (.Name x pos) (.nm i) :=
  (pg_name hN hi hx hf).pre fun v σ H Q h => by
    obtain ⟨a, τ, ρ, τ', ia, rs, e, q⟩ := h
    simp only [Tgt.set] at e
    cases e
    refine q _ (rs.set ia i) ⟨by simp, fun j hj => ?_⟩
    rw [List.getElem?_set_ne (by intro z; exact hj (by simp [Tgt.own, z]))]
theorem ags_nil : AGs X [] [] := pgs_nil.pre fun vs σ H Q h => by
  obtain ⟨as, τ, ρ, τ', ia, rs, e, q⟩ := h
  cases ia with
  | nil => cases e; exact ⟨rfl, q _ rs ⟨rfl, fun _ _ => rfl⟩⟩
  | cons _ _ => simp only [Tgt.sets] at e; cases e
theorem ags_cons {e : Expr} {es : List Expr} {t : Tgt} {ts : List Tgt} (h1 : AG X e t) (h2 : AGs X es ts) (hs : (assignEach (e :: es) X.env).map (·.2) = assign e X.env :: (assignEach es X.env).map (·.2) := by rfl) : AGs X (e :: es) (t :: ts) :=
  (pgs_cons h1 h2 hs).pre fun vs σ H Q h => by
    obtain ⟨as, τ, ρ, τ', ia, rs, e, q⟩ := h
    cases ia with
    | nil => simp only [Tgt.sets] at e; cases e
    | @cons a v as vs i is =>
      simp only [Tgt.sets] at e
      cases e1 : t.set a τ with
      | none => rw [e1] at e; cases e
      | some τ1 =>
        rw [e1] at e
        refine ⟨v, vs, rfl, a, τ, ρ, τ1, i, rs, e1, fun σ1 rs1 s1 => ⟨as, τ1, ρ, τ', is, rs1, e, fun σ2 rs2 s2 => q σ2 rs2 ⟨s2.1.trans s1.1, fun j hj => ?_⟩⟩⟩
        simp only [Tgt.owns, List.mem_append, not_or] at hj
        exact (s2.2 j hj.2).trans (s1.2 j hj.1)
theorem IsAll.sets_len : ∀ {ts : List Tgt} {as : List A} {τ τ' : Sl}, Tgt.sets ts as τ = some τ' → as.length = ts.length
  | [], [], _, _, _ => rfl
  | t :: ts, a :: as, τ, τ', e => by
    simp only [Tgt.sets] at e
    cases e1 : t.set a τ with
    | none => rw [e1] at e; cases e
    | some τ1 => rw [e1] at e; simp [IsAll.sets_len (τ := τ1) e]
  | [], _ :: _, _, _, e => by simp only [Tgt.sets] at e; cases e
  | _ :: _, [], _, _, e => by simp only [Tgt.sets] at e; cases e
theorem ag_tp {es : List Expr} {k : Nat} {ts : List Tgt} (hc : X.calm = true) (h : AGs X es ts) (hn : (assignEach es X.env).length = ts.length := by rfl) (hst : (assignEach es X.env).findIdx? (·.1) = none := by rfl) : AG X (.Tuple es k pos) (.tp ts) :=
  (pg_tup (n := ts.length) hc h hn hst).pre fun v σ H Q h => by
    obtain ⟨a, τ, ρ, τ', ia, rs, e, q⟩ := h
    cases a with
    | tup as =>
      cases ia with
      | tup hp is =>
        simp only [Tgt.set] at e
        exact ⟨_, _, rfl, .inl (.inl hp), by rw [← is.length]; exact IsAll.sets_len e, as, τ, ρ, τ', is, rs, e, q⟩
    | _ => simp only [Tgt.set] at e; cases e
/-! ### assignments -/
def sAsg (t : Tgt) (f : EF) : SF := fun τ M => (f τ M).bindS τ fun a M1 => match t.set a τ with
  | some τ1 => .nx τ1 M1
  | none => .bad
theorem asg_tK {t : Tgt} {D : Ends} {σ : L2.St} {H : Hp} {G : Gx} (h : tS G W (sAsg t f) D σ H) : tG G W Is f σ H fun x H1 => tTgt t x σ H1 D.nx := (bindS_tK Is h).imp fun b H1 h1 => by
  obtain ⟨τ, M, ρ, a, rs, rm, i, r⟩ := h1
  cases e : t.set a τ with
  | none => rw [e] at r; exact r.elim
  | some τ1 => rw [e] at r; exact ⟨a, τ, ρ, τ1, i, rs.s, e, fun σ' rs' _ => r _ _ ρ (.refl _) (.refl _) rm (rs.of rs')⟩
theorem as_asg {tg : Expr} {t : Tgt} (he : AE X W e f) (hg : AG X tg t) (hs : swapsWithSole [tg] e pos.line X.env = pure false := by rfl) (hw : swappedStores [tg] e X.env = pure none := by rfl)
    (h1 : (assignEach [tg] X.env).map (·.2) = [assign tg X.env] := by rfl) : AS X W (.Assign [tg] e pos) (sAsg t f) := (ps_asg he hg hs hw h1).pre fun D σ H h => asg_tK h
theorem as_set (i : Nat) {x : Str} {pos' : Pos} (hN : X.N.Nodup) (he : AE X W e f) (hi : X.N[i]? = some x := by rfl) (hx : Loc X.env.scope x := by first | exact Or.inl rfl | exact Or.inr rfl) (hs : swapsWith e (some (.Name x pos')) pos.line X.env = pure false := by rfl)
    (hf : X.fn x = true ∨ X.env.scope.names.lookup x = some .local := by first | exact .inl rfl | exact .inr rfl | assumption) : AS X W (.Assign [.Name x pos'] e pos) (sAsg (.nm i) f) := (ps_set hN hi hx he hs hf).pre fun D σ H h => (bindS_tK Is h).imp fun b H1 h1 => by
  obtain ⟨τ, M, ρ, a, rs, rm, i, r⟩ := h1
  exact r _ _ ρ (.refl _) (.refl _) rm (rs.set i _)
/-- a, b = x, y -/
def sPar (i j : Nat) (f : EFs) : SF := fun τ M => (f τ M).bindS τ fun as M1 => match as with
  | [a, b] => .nx ((τ.set i (some a)).set j (some b)) M1
  | _ => .bad
theorem as_par (i j : Nat) {x y : Str} {a b : Expr} {fs : EFs} {px py pt : Pos} {kt k2 pt2} (hc : X.calm = true) (hN : X.N.Nodup) (ha : AA X W [a, b] fs) (hi : X.N[i]? = some x := by rfl) (hj : X.N[j]? = some y := by rfl) (hij : i ≠ j := by decide)
    (hx : X.env.scope.names.lookup x = some .local := by rfl) (hy : X.env.scope.names.lookup y = some .local := by rfl)
    (hw : swappedStores [.Tuple [.Name x px, .Name y py] kt pt] (.Tuple [a, b] k2 pt2) X.env = pure (some [x, y]) := by rfl)
    (hs : swapsWithSole [.Tuple [.Name x px, .Name y py] kt pt] (.Tuple [a, b] k2 pt2) pos.line X.env = pure false := by rfl) :
    AS X W (.Assign [.Tuple [.Name x px, .Name y py] kt pt] (.Tuple [a, b] k2 pt2) pos) (sPar i j fs) := (ps_par hc hN hi hj hij hx hy ha hw hs).pre fun D σ H h => (bindS_tK IsAll h).imp fun b H1 h1 => by
  obtain ⟨τ, M, ρ, as, rs, rm, i, r⟩ := h1
  cases i with
  | nil => exact r.elim
  | cons i1 i =>
    cases i with
    | nil => exact r.elim
    | cons i2 i =>
      cases i with
      | nil => exact ⟨_, _, rfl, r _ _ ρ (.refl _) (.refl _) rm ((rs.set i1 _).set i2 _)⟩
      | cons _ _ => exact r.elim
/-- d[k] = v -/
def sDput (fd fk fv : EF) : SF := fun τ M => (fv τ M).bindS τ fun v M1 => (fd τ M1).bindS τ fun d M2 => (fk τ M2).bindS τ fun k M3 => match d with
  | .dct l => match dPut M3 l k v with
    | some M4 => .nx τ M4
    | none => .bad
  | _ => .bad
/-- xs[i] = v -/
def oSetL (M : Store) (x i v : A) : Option Store := match x, i with
  | .lst l, .int k => match M[l]? with
    | some (.lst xs) => (ixN xs.length k).map fun j => M.set l (.lst (xs.set j v))
    | _ => none
  | _, _ => none
def sSetL (fo fi fv : EF) : SF := fun τ M => (fv τ M).bindS τ fun v M1 => (fo τ M1).bindS τ fun x M2 => (fi τ M2).bindS τ fun i M3 => match oSetL M3 x i v with
  | some M4 => .nx τ M4
  | none => .bad
theorem bindS_tKs {α β α' β' : Type} {G : Gx} {D : Ends} {σ : L2.St} {H : Hp} (rel₁ : Rel α β) (hrel : ∀ {ρ ρ' H H' a b}, Ext ρ ρ' → Grow H H' → rel₁ ρ H a b → rel₁ ρ' H' a b) (rel : Rel α' β') {f : Sl → Store → EO α'} {k : Sl → α → α' → Store → SO} {b : β}
    (h : ∃ τ M ρ a, RS W ρ H τ σ ∧ RM G.w ρ H M ∧ rel₁ ρ H a b ∧ RSO G W D ρ H ((f τ M).bindS τ (k τ a))) :
    tG G W rel f σ H (fun b' H1 => ∃ τ M ρ a a', RS W ρ H1 τ σ ∧ RM G.w ρ H1 M ∧ rel₁ ρ H1 a b ∧ rel ρ H1 a' b' ∧ RSO G W D ρ H1 (k τ a a' M)) := by
  obtain ⟨τ, M, ρ, a, rs, rm, i1, r⟩ := h
  refine ⟨τ, M, ρ, rs, rm, ?_⟩
  cases e : f τ M with
  | ok a' M1 => rw [e] at r; exact fun b H1 ρ1 x g m i => ⟨τ, M1, ρ1, a, a', rs.mono x g, m, hrel x g i1, i, RSO.mono r x g⟩
  | ex en M1 => rw [e] at r; exact fun c d H1 ρ1 x g m i => r c d σ H1 ρ1 x g m (rs.mono x g) i
  | bad => rw [e] at r; exact r
theorem as_dput {o i v : Expr} {fd fk fv : EF} {pos' : Pos} (hu : X.A.units + 1 < cLine) (ho : AE X W o fd) (hi : AE X W i fk) (hv : AE X W v fv) (hs : swapsWith v (some (.Subscript o i pos')) pos.line X.env = pure false := by rfl) :
    AS X W (.Assign [.Subscript o i pos'] v pos) (sDput fd fk fv) := (ps_dput hu ho hi hv hs).pre fun D σ H h => (bindS_tK Is h).imp fun b H1 h1 => (bindS_tKs Is Is.ext Is h1).imp fun c H2 h2 => by
  obtain ⟨τ, M, ρ, a, a', rs, rm, ia, ia', r⟩ := h2
  refine ⟨τ, M, ρ, rs, rm, ?_⟩
  cases e : fk τ M with
  | ok k M3 =>
    rw [e] at r
    intro y H3 ρ3 x3 g3 m3 i3
    have r := RSO.mono r x3 g3
    cases a' with
    | dct l =>
      cases ia'.mono x3 g3 with
      | dct hb =>
        have r : RSO (X.gx W.Tb) W D ρ3 H3 (match dPut M3 l k a with
          | some M4 => .nx τ M4
          | none => .bad) := r
        cases e2 : dPut M3 l k a with
        | none => rw [e2] at r; exact r.elim
        | some M4 =>
          rw [e2] at r
          obtain ⟨H4, dp, m4, g4⟩ := dPut_ok m3 hb i3 (ia.mono x3 g3) e2
          exact ⟨_, H4, rfl, dp, r _ _ ρ3 (.refl _) g4 m4 ((rs.mono x3 g3).mono (.refl _) g4)⟩
    | _ => exact r.elim
  | ex en M3 => rw [e] at r; exact fun c d H3 ρ3 x g m i => r c d σ H3 ρ3 x g m (rs.mono x g) i
  | bad => rw [e] at r; exact r
theorem as_setL {o i v : Expr} {fo fi fv : EF} {pos' : Pos} (ho : AE X W o fo) (hi : AE X W i fi) (hv : AE X W v fv) (hs : swapsWithSole [.Subscript o i pos'] v pos.line X.env = pure false := by rfl) (hw : swappedStores [.Subscript o i pos'] v X.env = pure none := by rfl)
    (h1 : (assignEach [.Subscript o i pos'] X.env).map (·.2) = [assign (.Subscript o i pos') X.env] := by rfl)
    (ha : ∀ v, assign (.Subscript o i pos') X.env v = (do
      let ov ← holding [v] (eval o X.env)
      let iv ← holding [v, ov] (eval i X.env)
      standAt pos'
      holding [v, ov, iv] (setItem ov iv v)
      release [v, ov, iv] []) := by intro _; rfl) :
    AS X W (.Assign [.Subscript o i pos'] v pos) (sSetL fo fi fv) := (ps_asg hv (pg_sub ho hi set_list ha) hs hw h1).pre fun D σ H h => (bindS_tK Is h).imp fun b H1 h1 => (bindS_tKs Is Is.ext Is h1).imp fun c H2 h2 => by
  obtain ⟨τ, M, ρ, a, a', rs, rm, ia, ia', r⟩ := h2
  refine ⟨τ, M, ρ, rs, rm, ?_⟩
  cases e : fi τ M with
  | ok k M3 =>
    rw [e] at r
    intro y H3 ρ3 x3 g3 m3 i3
    have r : RSO (X.gx W.Tb) W D ρ3 H3 (match oSetL M3 a' k a with
      | some M4 => .nx τ M4
      | none => .bad) := RSO.mono r x3 g3
    unfold oSetL at r
    cases a' with
    | lst l =>
      cases k with
      | int j =>
        cases i3
        cases ia'.mono x3 g3 with
        | lst hb =>
          dsimp only at r
          cases e2 : M3[l]? with
          | none => rw [e2] at r; exact r.elim
          | some cc =>
            rw [e2] at r
            cases cc with
            | lst xs =>
              dsimp only at r
              obtain ⟨vs, hh, is⟩ := m3.lstM hb e2
              cases e3 : ixN xs.length j with
              | none => rw [e3] at r; exact r.elim
              | some jj =>
                rw [e3] at r
                have g4 := m3.growSet (o := .lst (vs.set jj b)) hb e2
                have i4 := (ia.mono x3 g3).mono (.refl ρ3) g4
                refine ⟨_, vs, j, jj, rfl, rfl, hh, by rw [← is.length]; exact e3, ?_⟩
                exact r _ _ ρ3 (.refl _) g4 (m3.set hb e2 ⟨_, upd_same, IsAll.set i4 jj (is.mono (.refl _) g4)⟩) ((rs.mono x3 g3).mono (.refl _) g4)
            | _ => exact r.elim
      | _ => exact r.elim
    | _ => exact r.elim
  | ex en M3 => rw [e] at r; exact fun c d H3 ρ3 x g m i => r c d σ H3 ρ3 x g m (rs.mono x g) i
  | bad => rw [e] at r; exact r
end
end AB
/-! AB5: loops, comprehensions, calls, defs -/
namespace AB
open PySem PySem.Spec PyProof.Rows L2
inductive Src where
  | snap (xs : List A) | dyn (l : Nat) | rng (lo : Int) (n : Nat) | enl (l : Nat)
def Src.at (s : Src) (M : Store) (i : Nat) : Option (Option A) := match s with
  | .snap xs => some xs[i]?
  | .dyn l => (listAt M l).map (·[i]?)
  | .rng lo n => some (if i < n then some (.int (lo + i)) else none)
  | .enl l => (listAt M l).map fun xs => xs[i]?.map fun x => .tup [.int (i : Nat), x]
def lenAt (M : Store) (l : Nat) : Nat := match listAt M l with
  | some xs => xs.length + 1
  | none => 0
def Src.size (s : Src) (M : Store) : Nat := match s with
  | .snap xs => xs.length + 1
  | .dyn l => lenAt M l
  | .rng _ n => n + 1
  | .enl l => lenAt M l
def SrcJ (w : Amb) (ρ : List Addr) (H : Hp) (src : Src) (J : It) : Prop := ∀ (ρ2 : List Addr) (H2 : Hp) (M2 : Store) (i : Nat), Ext ρ ρ2 → Grow H H2 → RM w ρ2 H2 M2 →
  match src.at M2 i with
  | some (some x) => J.go i H2 ∧ ∀ v H3, J.yld i H2 v H3 → Grow H2 H3 ∧ RM w ρ2 H3 M2 ∧ Is ρ2 H3 x v
  | some none => J.stop i H2
  | none => True
abbrev relJ (w : Amb) : Rel Src It := fun ρ H s J => SrcJ w ρ H s J
abbrev EI := Sl → Store → EO Src
def AI (X : Cx) (W : WR) (tg iter : Expr) (f : EI) : Prop := PI X tg iter (tG (X.gx W.Tb) W (relJ (X.am W.Tb)) f)
theorem _root_.L2.PI.pre {X : Cx} {tg e : Expr} {t t' : TI} (h : PI X tg e t) (w : ∀ σ H R, t' σ H R → t σ H R) : PI X tg e t' := ⟨fun pins s σ H R I q => h.run pins s σ H R I (w σ H R q)⟩
abbrev On' := List A → Store → EO A
/-! ### while -/
def whileA (c : EFb) (b : SF) : Nat → Sl → Store → SO
  | 0, _, _ => .bad
  | n + 1, τ, M => (c τ M).bindS τ fun k M1 => if k = true then
      match b τ M1 with
      | .nx τ2 M2 => whileA c b n τ2 M2
      | .ct τ2 M2 => whileA c b n τ2 M2
      | .bk τ2 M2 => .nx τ2 M2
      | o => o
    else .nx τ M1
section
variable {X : Cx} {W : WR} {pos : Pos} {e : Expr} {f : EF} {s t : SF}
theorem as_while (n : Sl → Store → Nat) {c : Expr} {body : List Stmt} {fc : EFb} {fb : SF} (hp : PassesOwn (model X.prog X.w) X.A X.env X.xe) (hc : AT X W c fc) (hb : ASs X W body fb) :
    AS X W (.While c body [] pos) (fun τ M => whileA fc fb (n τ M) τ M) := (ps_while hp hc hb).pre fun D σ H h => by
  obtain ⟨τ, M, ρ, rs, rm, r⟩ := h
  refine ⟨fun m σ H => ∃ τ M ρ, RS W ρ H τ σ ∧ RM (X.am W.Tb) ρ H M ∧ RSO (X.gx W.Tb) W D ρ H (whileA fc fb m τ M), ⟨n τ M, τ, M, ρ, rs, rm, r⟩, ?_⟩
  clear r rs rm
  rintro m σ H ⟨τ, M, ρ, rs, rm, r⟩
  cases m with
  | zero => exact r.elim
  | succ m =>
    unfold whileA at r
    refine ⟨τ, M, ρ, rs, rm, ?_⟩
    cases ec : fc τ M with
    | ok k M1 =>
      rw [ec] at r
      intro k' H1 ρ1 x1 g1 m1 ik
      have ik : k = k' := ik
      subst ik
      have r := RSO.mono r x1 g1
      have rs1 := rs.mono x1 g1
      cases k with
      | true =>
        rw [if_pos rfl]
        refine ⟨fun σ' H' => ∃ τ M ρ, RS W ρ H' τ σ' ∧ RM (X.am W.Tb) ρ H' M ∧ RSO (X.gx W.Tb) W D ρ H' (whileA fc fb m τ M), fun σ' H' q => ⟨m, Nat.lt_succ_self m, q⟩, τ, M1, ρ1, rs1, m1, ?_⟩
        have r : RSO (X.gx W.Tb) W D ρ1 H1 (match fb τ M1 with
          | .nx τ2 M2 => whileA fc fb m τ2 M2
          | .ct τ2 M2 => whileA fc fb m τ2 M2
          | .bk τ2 M2 => .nx τ2 M2
          | o => o) := r
        cases eb : fb τ M1 with
        | nx τ2 M2 => rw [eb] at r; exact fun σ2 H2 ρ2 x g m i => ⟨τ2, M2, ρ2, i, m, RSO.mono r x g⟩
        | ct τ2 M2 => rw [eb] at r; exact fun σ2 H2 ρ2 x g m i => ⟨τ2, M2, ρ2, i, m, RSO.mono r x g⟩
        | bk τ2 M2 => rw [eb] at r; exact r
        | rt a M2 => rw [eb] at r; exact r
        | ex en τ2 M2 => rw [eb] at r; exact r
        | bad => rw [eb] at r; exact r
      | false =>
        rw [if_neg Bool.false_ne_true]
        exact r _ _ ρ1 (.refl _) (.refl _) m1 rs1
    | ex en M1 => rw [ec] at r; exact fun c d H1 ρ1 x g m i => r c d σ H1 ρ1 x g m (rs.mono x g) i
    | bad => rw [ec] at r; exact r
/-! ### for -/
def forA (src : Src) (t : Tgt) (b : SF) : Nat → Nat → Sl → Store → SO
  | 0, _, _, _ => .bad
  | n + 1, i, τ, M => match src.at M i with
    | none => .bad
    | some none => .nx τ M
    | some (some x) => match t.set x τ with
      | none => .bad
      | some τ1 => match b τ1 M with
        | .nx τ2 M2 => forA src t b n (i + 1) τ2 M2
        | .ct τ2 M2 => forA src t b n (i + 1) τ2 M2
        | .bk τ2 M2 => .nx τ2 M2
        | o => o
def sFor (f : EI) (t : Tgt) (b : SF) : SF := fun τ M => (f τ M).bindS τ fun src M1 => forA src t b (src.size M1) 0 τ M1
theorem as_for {tg iter : Expr} {body : List Stmt} {fi : EI} {t : Tgt} {fb : SF} (hp : PassesOwn (model X.prog X.w) X.A X.env X.xe) (hc : X.calm = true) (hi : AI X W tg iter fi) (hg : AG X tg t) (hb : ASs X W body fb)
    (hs : ∀ x, foldedSetIterable iter X.env x = pure x := by intro _; rfl) : AS X W (.For tg iter body [] pos) (sFor fi t fb) := (ps_for hp hc hi hg hb hs).pre fun D σ H h => (bindS_tK (relJ (X.am W.Tb)) h).imp fun J H1 h1 => by
  obtain ⟨τ, M, ρ, src, rs, rm, ij, r⟩ := h1
  refine ⟨fun i m σ H => ∃ τ M ρ', Ext ρ ρ' ∧ Grow H1 H ∧ RS W ρ' H τ σ ∧ RM (X.am W.Tb) ρ' H M ∧ RSO (X.gx W.Tb) W D ρ' H (forA src t fb m i τ M), ⟨src.size M, τ, M, ρ, .refl _, .refl _, rs, rm, r⟩, ?_⟩
  clear r rs rm
  rintro i m σ H ⟨τ, M, ρ', x', g', rs, rm, r⟩
  cases m with
  | zero => exact r.elim
  | succ m =>
    unfold forA at r
    have jj := ij ρ' H M i x' g' rm
    cases ea : src.at M i with
    | none => rw [ea] at r; exact r.elim
    | some o =>
      cases o with
      | none =>
        rw [ea] at r jj
        exact .inl ⟨jj, r _ _ ρ' (.refl _) (.refl _) rm rs⟩
      | some a =>
        rw [ea] at r jj
        obtain ⟨go, yy⟩ := jj
        refine .inr ⟨go, fun σ' H' => ∃ τ M ρ', Ext ρ ρ' ∧ Grow H1 H' ∧ RS W ρ' H' τ σ' ∧ RM (X.am W.Tb) ρ' H' M ∧ RSO (X.gx W.Tb) W D ρ' H' (forA src t fb m (i + 1) τ M), fun σ' H' q => ⟨m, Nat.lt_succ_self m, q⟩, fun v H2 y => ?_⟩
        obtain ⟨g2, m2, ia⟩ := yy v H2 y
        have r : RSO (X.gx W.Tb) W D ρ' H (match t.set a τ with
          | none => .bad
          | some τ1 => match fb τ1 M with
            | .nx τ2 M2 => forA src t fb m (i + 1) τ2 M2
            | .ct τ2 M2 => forA src t fb m (i + 1) τ2 M2
            | .bk τ2 M2 => .nx τ2 M2
            | o => o) := r
        cases et : t.set a τ with
        | none => rw [et] at r; exact r.elim
        | some τ1 =>
          rw [et] at r
          refine ⟨a, τ, ρ', τ1, ia, (rs.mono (.refl _) g2).s, et, fun σ1 rs1 _ => ⟨τ1, M, ρ', (rs.mono (.refl _) g2).of rs1, m2, ?_⟩⟩
          have r := RSO.mono r (.refl _) g2
          have r : RSO (X.gx W.Tb) W D ρ' H2 (match fb τ1 M with
            | .nx τ2 M2 => forA src t fb m (i + 1) τ2 M2
            | .ct τ2 M2 => forA src t fb m (i + 1) τ2 M2
            | .bk τ2 M2 => .nx τ2 M2
            | o => o) := r
          cases eb : fb τ1 M with
          | nx τ2 M2 => rw [eb] at r; exact fun σ2 H3 ρ3 x g m i => ⟨τ2, M2, ρ3, x'.trans x, (g'.trans g2).trans g, i, m, RSO.mono r x g⟩
          | ct τ2 M2 => rw [eb] at r; exact fun σ2 H3 ρ3 x g m i => ⟨τ2, M2, ρ3, x'.trans x, (g'.trans g2).trans g, i, m, RSO.mono r x g⟩
          | bk τ2 M2 => rw [eb] at r; exact r
          | rt a M2 => rw [eb] at r; exact r
          | ex en τ2 M2 => rw [eb] at r; exact r
          | bad => rw [eb] at r; exact r
/-! ### what is walked -/
theorem _root_.L2.PI.or {tg e : Expr} {t t' : TI} (h : PI X tg e t) (h' : PI X tg e t') : PI X tg e (fun σ H R => t σ H R ∨ t' σ H R) := ⟨fun pins s σ H R I q => q.elim (fun q => h.run pins s σ H R I q) fun q => h'.run pins s σ H R I q⟩
def srcOf (a : A) (M : Store) : EO Src := match a with
  | .tup xs => .ok (.snap xs) M
  | .lst l => match listAt M l with
    | some _ => .ok (.dyn l) M
    | none => .bad
  | _ => .bad
def iSeq (f : EF) : EI := fun τ M => (f τ M).bind srcOf
theorem srcJ_list {w : Amb} {ρ : List Addr} {H : Hp} {l : Nat} {a : Addr} (ha : ρ[l]? = some a) : SrcJ w ρ H (.dyn l) (Itl w.K a) := by
  intro ρ2 H2 M2 i x g m
  cases e : Src.at (.dyn l) M2 i with
  | none => trivial
  | some o =>
    simp only [Src.at] at e
    cases el : listAt M2 l with
    | none => rw [el] at e; cases e
    | some xs =>
      rw [el] at e
      obtain ⟨vs, q, is⟩ := m.list (x.get ha) el
      cases o with
      | none =>
        have e : xs[i]? = none := Option.some.inj e
        exact ⟨vs, q, by rw [← is.length]; exact List.getElem?_eq_none_iff.mp e⟩
      | some t =>
        have e : xs[i]? = some t := Option.some.inj e
        obtain ⟨v, hv, iv⟩ := is.get e
        refine ⟨⟨vs, v, q, hv⟩, fun w H3 ⟨eH, hw⟩ => ?_⟩
        subst eH
        have := hw vs q
        rw [hv] at this
        obtain rfl := Option.some.inj this
        exact ⟨.refl _, m, iv⟩
theorem srcJ_tup {K : PySem.W.Frag} {ρ : List Addr} {H : Hp} {xs : List A} {vs : List V} {a : Addr} (ha : H a = some (.tup vs)) (is : IsAll ρ H xs vs) : SrcJ w ρ H (.snap xs) (Itt K a) := by
  intro ρ2 H2 M2 i x g m
  have h2 : SqT K H2 a vs := .inl (.inl (g _ _ (.tup _) ha))
  cases e : xs[i]? with
  | none =>
    simp only [Src.at, e]
    exact ⟨vs, h2, by rw [← is.length]; exact List.getElem?_eq_none_iff.mp e⟩
  | some t =>
    simp only [Src.at, e]
    obtain ⟨v, hv, iv⟩ := is.get e
    refine ⟨⟨vs, v, h2, hv⟩, fun w H3 ⟨eH, hw⟩ => ?_⟩
    subst eH
    have := hw vs h2
    rw [hv] at this
    obtain rfl := Option.some.inj this
    exact ⟨.refl _, m, iv.mono x g⟩
theorem ai_seq {tg l : Expr} (h : AE X W l f) : AI X W tg l (iSeq f) := ((pi_list h).or (pi_tup h)).pre fun σ H R h => by
  obtain ⟨τ, M, ρ, rs, rm, r⟩ := h
  unfold iSeq at r
  cases e : f τ M with
  | ok a M1 =>
    rw [e] at r
    cases a with
    | lst l =>
      refine .inl ⟨τ, M, ρ, rs, rm, ?_⟩
      rw [e]
      intro v H1 ρ1 x g m i
      cases i with
      | lst ha =>
        have r : RE (X.gx W.Tb) W σ ρ H (relJ (X.am W.Tb)) (match listAt M1 l with
          | some _ => .ok (.dyn l) M1
          | none => .bad) R := r
        cases el : listAt M1 l with
        | none => rw [el] at r; exact r.elim
        | some xs =>
          rw [el] at r
          obtain ⟨vs, q, is⟩ := m.list ha el
          exact ⟨_, rfl, ⟨vs, q⟩, RE.okv r x g m (srcJ_list ha)⟩
    | tup xs =>
      refine .inr ⟨τ, M, ρ, rs, rm, ?_⟩
      rw [e]
      intro v H1 ρ1 x g m i
      cases i with
      | tup ha is =>
        exact ⟨_, rfl, ⟨_, .inl (.inl ha)⟩, RE.okv (a := Src.snap xs) (M := M1) r x g m (srcJ_tup ha is)⟩
    | _ => exact r.elim
  | ex en M1 =>
    rw [e] at r
    exact .inl ⟨τ, M, ρ, rs, rm, by rw [e]; exact r⟩
  | bad => rw [e] at r; exact r.elim
def rngOf1 (as : List A) (M : Store) : EO Src := match as with
  | [.int j] => if -(2 ^ 62) ≤ j ∧ j < 2 ^ 62 then .ok (.rng 0 j.toNat) M else .bad
  | _ => .bad
def rngOf2 (as : List A) (M : Store) : EO Src := match as with
  | [.int i, .int j] => if -(2 ^ 62) ≤ i ∧ i < 2 ^ 62 ∧ -(2 ^ 62) ≤ j ∧ j < 2 ^ 62 then .ok (.rng i (j - i).toNat) M else .bad
  | _ => .bad
def iRng1 (f : EFs) : EI := fun τ M => (f τ M).bind rngOf1
def iRng2 (f : EFs) : EI := fun τ M => (f τ M).bind rngOf2
theorem srcJ_rng {ρ : List Addr} {H : Hp} {lo : Int} {n : Nat} : SrcJ w ρ H (.rng lo n) (Itr lo n) := by
  intro ρ2 H2 M2 i x g m
  by_cases h : i < n
  · simp only [Src.at, if_pos h]
    exact ⟨h, fun v H3 ⟨e1, e2⟩ => by subst e1 e2; exact ⟨.refl _, m, .int _⟩⟩
  · simp only [Src.at, if_neg h]
    exact Nat.le_of_not_lt h
theorem ai_rng1 {tg a : Expr} {fs : EFs} {p : Pos} (hm : X.mg "range" = none) (ha : AA X W [a] fs) (hg : Gl X "range" := by rfl) (hs : starEach [a] X.env = [(false, eval a X.env)] := by rfl) : AI X W tg (.Call (.Name "range" p) [a] [] pos) (iRng1 fs) :=
  (pi_range1 hg hm ha hs).pre fun σ H R h => by
    refine (seqG IsAll h).imp fun vs H1 h1 => ?_
    obtain ⟨τ, M, ρ, as, rs, rm, i, r⟩ := h1
    dsimp only [rngOf1] at r
    split at r
    · split at r
      · rename_i hz
        cases i with
        | cons i1 i =>
          cases i; cases i1
          exact ⟨_, rfl, hz.1, hz.2, r.okv (.refl _) (.refl _) rm srcJ_rng⟩
      · exact r.elim
    · exact r.elim
theorem ai_rng2 {tg a b : Expr} {fs : EFs} {p : Pos} (hm : X.mg "range" = none) (ha : AA X W [a, b] fs) (hg : Gl X "range" := by rfl) (hs : starEach [a, b] X.env = [(false, eval a X.env), (false, eval b X.env)] := by rfl) (hs2 : starEach [b] X.env = [(false, eval b X.env)] := by rfl) : AI X W tg (.Call (.Name "range" p) [a, b] [] pos) (iRng2 fs) :=
  (pi_range2 hg hm ha hs hs2).pre fun σ H R h => by
    refine (seqG IsAll h).imp fun vs H1 h1 => ?_
    obtain ⟨τ, M, ρ, as, rs, rm, i, r⟩ := h1
    dsimp only [rngOf2] at r
    split at r
    · split at r
      · rename_i hz
        cases i with
        | cons i1 i =>
          cases i with
          | cons i2 i =>
            cases i; cases i1; cases i2
            exact ⟨_, _, rfl, hz, r.okv (.refl _) (.refl _) rm srcJ_rng⟩
      · exact r.elim
    · exact r.elim
/-! ### comprehensions -/
def wipeA (τ : Sl) : List Nat → Sl
  | [] => τ
  | v :: vs => (wipeA τ vs).set v none
theorem RS.wipe {ρ : List Addr} {H : Hp} {τ : Sl} {σ : L2.St} (r : RS W ρ H τ σ) : ∀ vs : List Nat, RS W ρ H (wipeA τ vs) (L2.wipe σ vs)
  | [] => r
  | v :: vs => by
    unfold wipeA L2.wipe
    exact (RS.wipe r vs).unset v none
def lcA (src : Src) (t : Tgt) (ft : EFb) (fe : EF) (l : Nat) (τ : Sl) : Nat → Nat → Store → EO A
  | 0, _, _ => .bad
  | n + 1, i, M => match src.at M i with
    | none => .bad
    | some none => .ok (.lst l) M
    | some (some x) => match t.set x τ with
      | none => .bad
      | some τ1 => match ft τ1 M with
        | .ok true M1 => match fe τ1 M1 with
          | .ok y M2 => match M2[l]? with
            | some (.lst acc) => if acc.length < sizeLine then lcA src t ft fe l τ n (i + 1) (M2.set l (.lst (acc ++ [y]))) else .bad
            | _ => .bad
          | _ => .bad
        | .ok false M1 => lcA src t ft fe l τ n (i + 1) M1
        | _ => .bad
def eLc (fi : EI) (t : Tgt) (ft : EFb) (fe : EF) (own : List Nat) : EF := fun τ M => (fi τ M).bind fun src M1 => lcA src t ft fe M1.length (wipeA τ own) (src.size M1) 0 (M1 ++ [.lst []])
def ATs (X : Cx) (W : WR) (ifs : List Expr) (f : EFb) : Prop := PTs X ifs (tG (X.gx W.Tb) W relB f)
def bYes : EFb := fun _ M => .ok true M
theorem ats_nil : ATs X W [] bYes := ⟨fun pins s σ H Q I h => by
  obtain ⟨τ, M, ρ, rs, rm, r⟩ := h
  exact pts_nil.run pins s σ H Q I (r.okv (.refl _) (.refl _) rm rfl)⟩
theorem ats_one {c : Expr} {fb : EFb} (h : AT X W c fb) : ATs X W [c] fb := pts_one h
theorem lc_tK {G : Gx} {fi : EI} {t : Tgt} {ft : EFb} {fe : EF} {own : List Nat} {σ : L2.St} {H : Hp} {Q : VK} (ho : ∀ i ∈ t.own, i ∈ own) (h : tG G W Is (eLc fi t ft fe own) σ H Q) :
    tLc (tG G W (relJ G.w) fi) (tTgt t) (tG G W.nx relB ft) (tG G W.nx Is fe) own σ H Q := by
  refine (seqG (relJ G.w) h).imp fun J H1 h1 => ?_
  obtain ⟨τ, M, ρ, src, rs, rm, ij, r⟩ := h1
  intro D hD
  have r : RE G W σ ρ H1 Is (lcA src t ft fe M.length (wipeA τ own) (src.size M) 0 (M ++ [.lst []])) Q := r
  have g0 : Grow H1 (upd H1 D (.lst [])) := .new hD
  have m0 : RM G.w (ρ ++ [D]) (upd H1 D (.lst [])) (M ++ [.lst []]) := rm.push hD ⟨[], upd_same, .nil⟩
  have hl0 : (ρ ++ [D])[M.length]? = some D := by rw [← rm.len]; simp
  generalize hl : M.length = l at r hl0
  generalize hM : (M ++ [Cell.lst []]) = M0 at r m0
  refine ⟨fun i m H => ∃ M ρ', Ext (ρ ++ [D]) ρ' ∧ Grow H1 H ∧ RM G.w ρ' H M ∧ RE G W σ ρ' H Is (lcA src t ft fe l (wipeA τ own) m i M) Q,
    ⟨_, M0, ρ ++ [D], .refl _, g0, m0, RE.mono r (.snoc _ _) g0⟩, ?_⟩
  clear r m0 hM
  rintro i m H ⟨M, ρ', x', g', rm', r⟩
  have xx : Ext ρ ρ' := (Ext.snoc ρ D).trans x'
  cases m with
  | zero => exact r.elim
  | succ m =>
    unfold lcA at r
    have jj := ij ρ' H M i xx g' rm'
    cases ea : src.at M i with
    | none => rw [ea] at r; exact r.elim
    | some o =>
      cases o with
      | none =>
        rw [ea] at r jj
        exact .inl ⟨jj, r.okv (.refl _) (.refl _) rm' (.lst (x'.get hl0))⟩
      | some a =>
        rw [ea] at r jj
        obtain ⟨go, yy⟩ := jj
        refine .inr ⟨go, fun H => ∃ M ρ', Ext (ρ ++ [D]) ρ' ∧ Grow H1 H ∧ RM G.w ρ' H M ∧ RE G W σ ρ' H Is (lcA src t ft fe l (wipeA τ own) m (i + 1) M) Q, fun H' q => ⟨m, Nat.lt_succ_self m, q⟩, fun v H2 y => ?_⟩
        obtain ⟨g2, m2, ia⟩ := yy v H2 y
        dsimp only at r
        cases et : t.set a (wipeA τ own) with
        | none => rw [et] at r; exact r.elim
        | some τ1 =>
          rw [et] at r
          dsimp only at r
          have g12 := g'.trans g2
          refine ⟨a, wipeA τ own, ρ', τ1, ia, ((rs.mono xx g12).wipe own).s, et, fun σ1 rs1 sb => ⟨?_, ?_⟩⟩
          · rw [sb.wipe ho]
            exact wipe_wipe σ own
          · have r := RE.mono r (.refl _) g2
            have rs1 : RS W.nx ρ' H2 τ1 σ1 := ⟨(rs.mono xx g12).ext, (rs.mono xx g12).grow, rs1⟩
            refine ⟨τ1, M, ρ', rs1, m2, ?_⟩
            cases e1 : ft τ1 M with
            | ok k M1 =>
              rw [e1] at r
              intro k' H3 ρ3 x3 g3 m3 ik
              have ik : k = k' := ik
              subst ik
              have r := RE.mono r x3 g3
              cases k with
              | true =>
                rw [if_pos rfl]
                dsimp only at r
                refine ⟨τ1, M1, ρ3, rs1.mono x3 g3, m3, ?_⟩
                cases e2 : fe τ1 M1 with
                | ok y M2 =>
                  rw [e2] at r
                  intro w H4 ρ4 x4 g4 m4 iy
                  have r := RE.mono r x4 g4
                  dsimp only at r
                  have hb : ρ4[l]? = some D := x4.get (x3.get (x'.get hl0))
                  cases e3 : M2[l]? with
                  | none => rw [e3] at r; exact r.elim
                  | some cc =>
                    rw [e3] at r
                    cases cc with
                    | lst acc =>
                      dsimp only at r
                      obtain ⟨vs, hh, is⟩ := m4.lstM hb e3
                      split at r
                      · rename_i hz
                        have g5 := m4.growSet (o := .lst (vs ++ [w])) hb e3
                        refine ⟨vs, hh, by rw [← is.length]; exact hz, _, ρ4, x'.trans (x3.trans x4), ((g12.trans g3).trans g4).trans g5, m4.set (c' := .lst (acc ++ [y])) hb e3 ⟨_, upd_same, (is.append (.cons iy .nil)).mono (.refl _) g5⟩, RE.mono r (.refl _) g5⟩
                      · exact r.elim
                    | _ => exact r.elim
                | ex en M2 => rw [e2] at r; exact r.elim
                | bad => rw [e2] at r; exact r.elim
              | false =>
                rw [if_neg Bool.false_ne_true]
                exact ⟨M1, ρ3, x'.trans x3, g12.trans g3, m3, r⟩
            | ex en M1 => rw [e1] at r; exact r.elim
            | bad => rw [e1] at r; exact r.elim
theorem ae_lc (own : List (Str × Nat)) {elt tg iter : Expr} {ifs : List Expr} {scope : Scope} {fi : EI} {t : Tgt} {ft : EFb} {fe : EF} (hc : X.calm = true) (hN : X.N.Nodup) (ok : BlkOk X.N X.env.scope scope own) (ho : ∀ i ∈ t.own, i ∈ own.map (·.2)) (hi : AI X W tg iter fi)
    (hg : ∀ (s : Shared) (H : Hp) (C : Addr) (cl : List (Str × Addr)) (fp : List Addr), AG (X.blk s H scope (compEnvC scope cl C X.env) fp) tg t) (ht : ∀ (s : Shared) (H : Hp) (C : Addr) (cl : List (Str × Addr)) (fp : List Addr), ATs (X.blk s H scope (compEnvC scope cl C X.env) fp) W.nx ifs ft)
    (he : ∀ (s : Shared) (H : Hp) (C : Addr) (cl : List (Str × Addr)) (fp : List Addr), AE (X.blk s H scope (compEnvC scope cl C X.env) fp) W.nx elt fe) (hs : ∀ x, foldedSetIterable iter X.env x = pure x := by intro _; rfl) :
    AE X W (.ListComp elt [⟨tg, iter, ifs, 0⟩] scope pos) (eLc fi t ft fe (own.map (·.2))) := (pe_lc (tt := tG (X.gx W.Tb) W.nx relB ft) (te := tG (X.gx W.Tb) W.nx Is fe) hc hN hi ok hg ht he hs).pre fun _ _ _ h => lc_tK ho h
theorem as_setLc (i : Nat) (own : List (Str × Nat)) {y : Str} {py spos : Pos} {elt tg iter : Expr} {ifs : List Expr} {scope : Scope} {fi : EI} {t : Tgt} {ft : EFb} {fe : EF} (hc : X.calm = true) (hN : X.N.Nodup) (hsw : swapsWith (.ListComp elt [⟨tg, iter, ifs, 0⟩] scope pos) (some (.Name y py)) spos.line X.env = pure true) (ok : BlkOk X.N X.env.scope scope own) (ho : ∀ i ∈ t.own, i ∈ own.map (·.2)) (hi : AI X W tg iter fi)
    (hg : ∀ (s : Shared) (H : Hp) (C : Addr) (cl : List (Str × Addr)) (fp : List Addr), AG (X.blk s H scope (compEnvC scope cl C X.env) fp) tg t) (ht : ∀ (s : Shared) (H : Hp) (C : Addr) (cl : List (Str × Addr)) (fp : List Addr), ATs (X.blk s H scope (compEnvC scope cl C X.env) fp) W.nx ifs ft)
    (he : ∀ (s : Shared) (H : Hp) (C : Addr) (cl : List (Str × Addr)) (fp : List Addr), AE (X.blk s H scope (compEnvC scope cl C X.env) fp) W.nx elt fe) (hy : X.N[i]? = some y := by rfl) (hyl : X.env.scope.names.lookup y = some .local := by rfl) (hs : ∀ x, foldedSetIterable iter X.env x = pure x := by intro _; rfl) :
    AS X W (.Assign [.Name y py] (.ListComp elt [⟨tg, iter, ifs, 0⟩] scope pos) spos) (sAsg (.nm i) (eLc fi t ft fe (own.map (·.2)))) := (ps_setLc (tt := tG (X.gx W.Tb) W.nx relB ft) (te := tG (X.gx W.Tb) W.nx Is fe) hc hN hy hyl hsw hi ok hg ht he hs).pre fun D σ H h => by
  have h1 := asg_tK h
  refine lc_tK ho (h1.imp fun x H1 q => ?_)
  obtain ⟨a, τ, ρ, τ', ia, rs, e, q⟩ := q
  simp only [Tgt.set] at e
  cases e
  refine q _ (rs.set ia i) ⟨by simp, fun j hj => ?_⟩
  rw [List.getElem?_set_ne (by intro z; exact hj (by simp [Tgt.own, z]))]
/-! ### calls of defs -/
/-- what a def promises that does F -/
def spA (G : Gx) (n : Nat) (F : On') : Sp := fun vs H Q E => ∃ as M ρ, IsAll ρ H as vs ∧ RM G.w ρ H M ∧ as.length = n ∧ RE G ⟨fun cls d _ H' => E cls d H', G.w.Tb, [], fun _ => none⟩ [] ρ H Is (F as M) Q
def eCall (n : Nat) (F : On') (fs : EFs) : EF := fun τ M => (fs τ M).bind fun as M1 => if as.length = n then F as M1 else .bad
theorem ae_call {k n : Nat} {fa : Addr} {fd : FuncData} {ps : List Str} {F : On'} {x : Str} {p : Pos} {e : Expr} {es : List Expr} {fs : EFs} (G : FnOk X.prog X.w X.K X.mg X.base (L2.CX X.prog X.w) k fa fd ps (spA (X.gx W.Tb) n F)) (hr : Room k X.A) (hm : X.mg x = some (.ref fa)) (hk : PySem.W.keepIn X.K (.ref fa) = true) (hb : Binds X.K fd ps []) (tk : Takes X W.w)
    (ha : AA X W (e :: es) fs) (hg : Gl X x := by rfl) (hdb : (x == ("__debug__" : Str)) = false := by decide) (he : starEach (e :: es) X.env = (false, eval e X.env) :: starEach es X.env := by rfl) (hpl : (backTo pos (starEach es X.env)).any (·.1) = false := by rfl) :
    AE X W (.Call (.Name x p) (e :: es) [] pos) (eCall n F fs) := (pe_callS (E := WE W) G hr hg hm hk hb (fun σ => passAt tk σ) ha hdb he hpl).pre fun σ H Q h => by
  refine (seqG IsAll h).imp fun vs H1 h1 => ?_
  obtain ⟨τ, M, ρ, as, rs, rm, i, r⟩ := h1
  have r : RE (X.gx W.Tb) W σ ρ H1 Is (if as.length = n then F as M else .bad) Q := r
  split at r
  · rename_i hn
    refine ⟨as, M, ρ, i, rm, hn, ?_⟩
    cases e : F as M with
    | ok a M1 => rw [e] at r; exact r
    | ex en M1 => rw [e] at r; exact r
    | bad => rw [e] at r; exact r
  · exact r.elim
/-- what a body's end is to the caller -/
def retOf (o : SO) : EO A := match o with
  | .nx _ M => .ok .non M
  | .rt a M => .ok a M
  | .ex e _ M => .ex e M
  | _ => .bad
def startA (n : Nat) (as : List A) : Sl := as.map some ++ List.replicate (n - as.length) none
def defA (n : Nat) (s : SF) : On' := fun as M => retOf (s (startA n as) M)
theorem start_ok {ρ : List Addr} {H : Hp} {as : List A} {vs : List V} (r : IsAll ρ H as vs) (N : List Str) : RS0 ρ H (startA N.length as) (L2.start N vs) := by
  unfold startA L2.start
  rw [r.length]
  have rep : ∀ n, RS0 ρ H (List.replicate n none) (List.replicate n none) := by
    intro n
    induction n with
    | zero => exact .nil
    | succ n ih => rw [List.replicate_succ, List.replicate_succ]; exact .no ih
  generalize N.length - vs.length = n
  induction as generalizing vs with
  | nil => cases r; exact rep n
  | cons a as ih =>
    cases r with
    | cons i is => exact .yes i (ih is)
section
variable {P : Program} {w : World} {K : PySem.W.Frag} {mg : Str → Option Value} {base : Heap}
/-- a def's body, its errors let out -/
theorem fn_A {x qual : Str} {st : Stmt} {fa : Addr} {fd : FuncData} {N ps : List Str} {k : Nat} {s : SF} (F : Fun K x qual st fa fd) (S : FnScope N ps (defScope st))
    (hbody : ∀ (cdv : Value) (A : Around) (outer : List Env) (s₀ : Shared) (H : Hp) (E : XK), Room k (A.deeper (envOfC qual (defScope st) s₀.heap.objs.size fa cdv)) →
      ASs (cxOf (L2.CX P w) P w K mg base N qual (defScope st) fa cdv A outer s₀ H E) ⟨fun cls d _ H => E cls d H, Tb, [], fun _ => none⟩ (defBody st) s) :
    FnOk P w K mg base (L2.CX P w) (k + 1) fa fd ps (spA ⟨mg, ⟨w, K, mg, Tb⟩⟩ ps.length (defA N.length s)) := by
  refine F.okX S (fun vs H Q E h => ?_) (fun cdv A outer s₀ H vs Q E hr h => ⟨_, hbody cdv A outer s₀ H E hr, ?_⟩)
  · obtain ⟨as, M, ρ, i, rm, hn, _⟩ := h
    rw [← i.length]; exact hn
  · obtain ⟨as, M, ρ, i, rm, hn, r⟩ := h
    refine ⟨startA N.length as, M, ρ, ⟨⟨ρ, rfl⟩, fun _ _ _ z => (nomatch z), start_ok i N⟩, rm, ?_⟩
    unfold defA at r
    cases e : s (startA N.length as) M with
    | nx τ M1 => rw [e] at r; exact fun σ' H' ρ' x g m _ => r .non H' ρ' x g m .non
    | rt a M1 => rw [e] at r; exact r
    | ex en τ M1 => rw [e] at r; exact fun c d σ' H' ρ' x g m _ ix => r c d H' ρ' x g m ix
    | bk τ M1 => rw [e] at r; exact r.elim
    | ct τ M1 => rw [e] at r; exact r.elim
    | bad => rw [e] at r; exact r.elim
/-- nothing is promised of what ends badly -/
theorem fn_bad {fa : Addr} {fd : FuncData} {ps : List Str} {n k : Nat} : FnOk P w K mg base (L2.CX P w) k fa fd ps (spA ⟨mg, ⟨w, K, mg, Tb⟩⟩ n fun _ _ => .bad) :=
  ⟨fun vs H Q E h => by obtain ⟨_, _, _, _, _, _, r⟩ := h; exact r.elim, fun A outer s H args us vs Q E _ _ _ _ h => by obtain ⟨_, _, _, _, _, _, r⟩ := h; exact r.elim⟩
end
end
end AB
/-! AB6: built-ins -/
namespace AB
open PySem PySem.Spec PyProof.Rows L2
section
variable {X : Cx} {W : WR} {pos : Pos} {a b e : Expr} {es : List Expr} {f g : EF} {fs : EFs}
/-! ### isinstance -/
def tyOf? (M : Store) : A → Option String
  | .non => some "NoneType"
  | .bl _ => some "bool"
  | .int _ => some "int"
  | .str _ => some "str"
  | .tup _ => some "tuple"
  | .lst l => (listAt M l).map fun _ => "list"
  | .dct d => match M[d]? with
    | some (.dK _) => some "dict"
    | some (.dT _) => some "dict"
    | _ => none
  | .ty _ => none
  | .obj _ => none
  | .rng _ _ => none
theorem tyOf_ok {ρ : List Addr} {H : Hp} {M : Store} (m : RM w ρ H M) {a : A} {v : V} {n : String} (i : Is ρ H a v) (e : tyOf? M a = some n) : TyX w.K H v (.type n) := by
  cases i with
  | non => cases e; exact .base .non
  | bl b => cases e; exact .base (.bl b)
  | int b => cases e; exact .base (.int b)
  | str b => cases e; exact .base (.str b)
  | tup h _ => cases e; exact .base (.tup h)
  | lst h =>
    simp only [tyOf?] at e
    cases el : listAt M _ with
    | none => rw [el] at e; cases e
    | some xs =>
      rw [el] at e; cases e
      unfold listAt at el
      split at el
      · rename_i c ec
        have r := m.at_ _ _ c h ec
        cases c with
        | lst ys => obtain ⟨vs, q, _⟩ := r; exact .base (.lst q)
        | frz ys =>
          obtain ⟨vs, q, _⟩ := r
          rcases q with (⟨o, q⟩ | q) | ⟨o, its, n, q1, q2, _⟩
          · exact .base (.frz q)
          · exact .base (.lst q)
          · exact .kList q1 q2
        | _ => cases el
      · cases el
  | dct h =>
    simp only [tyOf?] at e
    split at e
    · rename_i kvs ec; cases e; obtain ⟨vs, q, _⟩ := m.at_ _ _ _ h ec; exact .base (.dK q)
    · rename_i kvs ec; cases e; obtain ⟨vs, q, _⟩ := m.at_ _ _ _ h ec; exact .base (.dT q)
    · cases e
  | ty n => cases e
  | obj h => cases e
  | rng h => cases e
/-- the answer by the types' names (kitB's own, tabled) -/
def isiT (t c : String) : Option Bool :=
  if t = c then some true else
  if ["NoneType", "bool", "int", "str", "tuple", "list", "dict"].contains t = true ∧ ["bool", "int", "str", "tuple", "list", "dict"].contains c = true then some (t == "bool" && c == "int") else none
theorem isiT_ok {t c : String} {b : Bool} (h : isiT t c = some b) : kitB t c = some b := by
  unfold isiT at h
  split at h
  · rename_i e; subst e; cases h
    unfold kitB
    rw [if_pos (beq_self_eq_true _)]
  · split at h
    · rename_i ne hh
      obtain ⟨h1, h2⟩ := hh
      simp only [List.contains_eq_mem, List.mem_cons, List.not_mem_nil, or_false, decide_eq_true_eq] at h1 h2
      cases h
      rcases h1 with rfl | rfl | rfl | rfl | rfl | rfl | rfl <;> rcases h2 with rfl | rfl | rfl | rfl | rfl | rfl <;> first | exact absurd rfl ne | decide +kernel
    · cases h
def isiAny (t : String) : List A → Option Bool
  | [] => some false
  | .ty c :: cs => match isiT t c, isiAny t cs with
    | some a, some b => some (a || b)
    | _, _ => none
  | _ :: _ => none
def oIsi : On := fun as M => match as with
  | [x, .ty c] => match tyOf? M x with
    | some t => (isiT t c).map fun b => (.bl b, M)
    | none => none
  | [x, .tup cs] => match tyOf? M x with
    | some t => (isiAny t cs).map fun b => (.bl b, M)
    | none => none
  | _ => none
theorem isiAny_ok {ρ : List Addr} {H : Hp} {K : PySem.W.Frag} {t : String} : ∀ {cs : List A} {vs : List V} {b : Bool}, IsAll ρ H cs vs → isiAny t cs = some b → ∃ us, Paired ClsV vs us ∧ PySem.W.kitAny K (.type t) us = some b
  | [], _, b, .nil, e => by cases e; exact ⟨[], .nil, kitAny_nil⟩
  | c :: cs, _, b, .cons r rs, e => by
    cases r with
    | ty n =>
      simp only [isiAny] at e
      split at e
      · rename_i a b2 e1 e2; cases e
        obtain ⟨us, p, q⟩ := isiAny_ok rs e2
        exact ⟨_, .cons (.ty n) p, kitAny_cons (kit_ty (isiT_ok e1)) (fun z => by subst z; simpa using q) fun z => by subst z; rfl⟩
      · cases e
    | _ => simp only [isiAny] at e; cases e
theorem cr_isi : CallR X (.builtin "isinstance") (rn (X.am W.Tb) oIsi) := by
  intro pins s σ H xs us Q I r h
  obtain ⟨as, M, ρ, is, m, ro⟩ := h
  unfold oIsi at ro
  split at ro
  · rename_i x c
    cases is with
    | cons i1 is =>
      cases is with
      | cons i2 is =>
        cases is; cases i2
        split at ro
        · rename_i t et
          cases e1 : isiT t c with
          | none => rw [e1] at ro; exact ro.elim
          | some b =>
            rw [e1] at ro
            exact call_isi pins s σ H _ us Q I r ⟨_, _, _, _, b, rfl, .ty c, tyOf_ok m i1 et, kit_ty (isiT_ok e1), RO.val (ρ := ρ) (M := M) ro m (.bl _)⟩
        · exact ro.elim
  · rename_i x cs
    cases is with
    | cons i1 is =>
      cases is with
      | cons i2 is =>
        cases is
        cases i2 with
        | tup ht it =>
          split at ro
          · rename_i t et
            cases e1 : isiAny t cs with
            | none => rw [e1] at ro; exact ro.elim
            | some b =>
              rw [e1] at ro
              obtain ⟨ws, p, q⟩ := isiAny_ok (K := X.K) it e1
              exact call_isiT pins s σ H _ us Q I r ⟨_, _, _, _, ws, b, rfl, ht, p, tyOf_ok m i1 et, q, RO.val (ρ := ρ) (M := M) ro m (.bl _)⟩
          · exact ro.elim
  · exact ro.elim
/-- a built-in class as a value -/
theorem ae_type {x : Str} {n : String} (hm : X.mg x = none) (hg : Gl X x := by rfl) (hv : bootBuiltins x = some (.type n) := by decide +kernel) (hn : x ≠ "__name__" := by decide) (hd : (x == ("__debug__" : Str)) = false := by decide) : AE X W (.Name x pos) (eC (.ty n)) :=
  const_ok (fun _ _ => .ty n) (pe_bltn hg hm hv rfl hn hd)
/-! ### len -/
def oLen : On := fun as M => match as with
  | [.tup xs] => some (.int (xs.length : Nat), M)
  | [.lst l] => (listAt M l).map fun xs => (.int (xs.length : Nat), M)
  | [.str x] => if x.length ≤ sizeLine then some (.int (x.length : Nat), M) else none
  | [.dct d] => match M[d]? with
    | some (.dK kvs) => some (.int (kvs.length : Nat), M)
    | some (.dT kvs) => some (.int (kvs.length : Nat), M)
    | _ => none
  | _ => none
theorem cr_len : CallR X (.builtin "len") (rn (X.am W.Tb) oLen) := by
  intro pins s σ H xs us Q I r h
  obtain ⟨as, M, ρ, is, m, ro⟩ := h
  unfold oLen at ro
  split at ro
  · cases is with
    | cons i1 is =>
      cases is
      cases i1 with
      | tup ht it => exact call_len pins s σ H _ us Q I r ⟨_, _, rfl, .inr ⟨_, .inl (.inl ht), it.length⟩, ro.val m (.int _)⟩
  · rename_i l
    cases is with
    | cons i1 is =>
      cases is
      cases i1 with
      | lst hl =>
        cases el : listAt M l with
        | none => rw [el] at ro; exact ro.elim
        | some ys =>
          rw [el] at ro
          obtain ⟨vs, hq, iv⟩ := m.list hl el
          exact call_len pins s σ H _ us Q I r ⟨_, _, rfl, .inl ⟨_, hq, iv.length⟩, RO.val (ρ := ρ) (M := M) ro m (.int _)⟩
  · cases is with
    | cons i1 is =>
      cases is
      cases i1
      split at ro
      · rename_i hz
        exact call_len pins s σ H _ us Q I r ⟨_, _, rfl, ⟨hz, rfl⟩, ro.val m (.int _)⟩
      · exact ro.elim
  · rename_i d
    cases is with
    | cons i1 is =>
      cases is
      cases i1 with
      | dct hd =>
        split at ro
        · rename_i kvs ec
          obtain ⟨vs, q, iv⟩ := m.at_ _ _ _ hd ec
          refine call_lenD pins s σ H _ us Q I r ⟨_, _, rfl, q, ?_⟩
          have : ((kvs.map (·.1)).zip vs).length = kvs.length := by have := iv.length; simp only [List.length_zip, List.length_map] at this ⊢; omega
          rw [this]
          exact ro.val m (.int _)
        · rename_i kvs ec
          obtain ⟨vs, q, iv⟩ := m.at_ _ _ _ hd ec
          refine call_len_dT pins s σ H _ us Q I r ⟨_, _, rfl, q, ?_⟩
          have : ((kvs.map (·.1)).zip vs).length = kvs.length := by have := iv.length; simp only [List.length_zip, List.length_map] at this ⊢; omega
          rw [this]
          exact ro.val m (.int _)
        · exact ro.elim
  · exact ro.elim
/-! ### int, min, max, abs, tuple, list, all, any -/
def oInt1 : On := fun as M => match as with
  | [.int i] => some (.int i, M)
  | [.bl k] => some (.int (if k then 1 else 0), M)
  | _ => none
theorem cr_int : CallR X (.type "int") (rn (X.am W.Tb) oInt1) := by
  intro pins s σ H xs us Q I r h
  obtain ⟨as, M, ρ, is, m, ro⟩ := h
  unfold oInt1 at ro
  split at ro
  · cases is with
    | cons i1 is => cases is; cases i1; exact call_int1 pins s σ H _ us Q I r (.inl ⟨_, rfl, ro.val m (.int _)⟩)
  · cases is with
    | cons i1 is => cases is; cases i1; exact call_int1 pins s σ H _ us Q I r (.inr ⟨_, rfl, ro.val m (.int _)⟩)
  · exact ro.elim
def oMin2 : On := fun as M => match as with
  | [.int i, .int j] => some (.int (if j < i then j else i), M)
  | _ => none
theorem cr_min2 (hc : X.calm = true) : CallR X (.builtin "min") (rn (X.am W.Tb) oMin2) := by
  intro pins s σ H xs us Q I r h
  obtain ⟨as, M, ρ, is, m, ro⟩ := h
  unfold oMin2 at ro
  split at ro
  · cases is with
    | cons i1 is => cases is with
      | cons i2 is => cases is; cases i1; cases i2; exact call_min2 hc pins s σ H _ us Q I r ⟨_, _, rfl, ro.val m (.int _)⟩
  · exact ro.elim
def oMax2 : On := fun as M => match as with
  | [.int i, .int j] => some (.int (if j > i then j else i), M)
  | _ => none
theorem cr_max2 (hc : X.calm = true) : CallR X (.builtin "max") (rn (X.am W.Tb) oMax2) := by
  intro pins s σ H xs us Q I r h
  obtain ⟨as, M, ρ, is, m, ro⟩ := h
  unfold oMax2 at ro
  split at ro
  · cases is with
    | cons i1 is => cases is with
      | cons i2 is => cases is; cases i1; cases i2; exact call_max2 hc pins s σ H _ us Q I r ⟨_, _, rfl, ro.val m (.int _)⟩
  · exact ro.elim
def oTuple : On := fun as M => match as with
  | [.tup xs] => some (.tup xs, M)
  | [.lst l] => (listAt M l).map fun xs => (.tup xs, M)
  | _ => none
theorem cr_tuple : CallR X (.type "tuple") (rn (X.am W.Tb) oTuple) := by
  intro pins s σ H xs us Q I r h
  obtain ⟨as, M, ρ, is, m, ro⟩ := h
  unfold oTuple at ro
  split at ro
  · cases is with
    | cons i1 is =>
      cases is
      cases i1 with
      | tup ht it => exact call_tuple_of pins s σ H _ us Q I r ⟨_, _, rfl, .inr ⟨.inl (.inl ht), ro.val m (.tup ht it)⟩⟩
  · rename_i l
    cases is with
    | cons i1 is =>
      cases is
      cases i1 with
      | lst hl =>
        cases el : listAt M l with
        | none => rw [el] at ro; exact ro.elim
        | some ys =>
          rw [el] at ro
          obtain ⟨vs, hq, iv⟩ := m.list hl el
          exact call_tuple_of pins s σ H _ us Q I r ⟨_, _, rfl, .inl ⟨hq, fun p hp => RO.newT (M := M) ro m iv hp⟩⟩
  · exact ro.elim
/-- the keys of a dict of tuples -/
def keyA : Key → A
  | .inl i => .int i
  | .inr x => .str x
def oList : On := fun as M => match as with
  | [.tup xs] => some (.lst M.length, M ++ [.lst xs])
  | [.lst l] => (listAt M l).map fun xs => (.lst M.length, M ++ [.lst xs])
  | [.dct d] => match M[d]? with
    | some (.dK kvs) => some (.lst M.length, M ++ [.lst (kvs.map fun kv => keyA kv.1)])
    | some (.dT kvs) => some (.lst M.length, M ++ [.lst (kvs.map fun kv => .tup (kv.1.map keyA))])
    | _ => none
  | _ => none
theorem keyA_is {ρ : List Addr} {H : Hp} (k : Key) : Is ρ H (keyA k) (kV k) := by
  cases k with
  | inl i => exact .int i
  | inr x => exact .str x
theorem keysA_is {ρ : List Addr} {H : Hp} : ∀ ks : List Key, IsAll ρ H (ks.map keyA) (ks.map kV)
  | [] => .nil
  | k :: ks => .cons (keyA_is k) (keysA_is ks)
theorem map_zip_fst {κ β : Type} {ks : List κ} {vs : List β} (h : ks.length = vs.length) : (ks.zip vs).map (·.1) = ks := by
  induction ks generalizing vs with
  | nil => rfl
  | cons k ks ih =>
    cases vs with
    | nil => cases h
    | cons v vs => simp only [List.zip_cons_cons, List.map_cons]; rw [ih (by simpa using h)]
theorem isKeys_all {ρ : List Addr} {H : Hp} : ∀ {ks : List (List Key)} {vs : List V} {bs : List Addr}, ks.length = vs.length → IsKeys H (ks.zip vs) bs → IsAll ρ H (ks.map fun k => .tup (k.map keyA)) (bs.map V.ref)
  | [], _, bs, _, h => by
    cases h
    exact .nil
  | k :: ks, [], _, hl, _ => by cases hl
  | k :: ks, v :: vs, _, hl, h => by
    cases h with
    | cons h1 h2 => exact .cons (.tup h1 (keysA_is k)) (isKeys_all (by simpa using hl) h2)
theorem cr_list (hc : X.calm = true) : CallR X (.type "list") (rn (X.am W.Tb) oList) := by
  intro pins s σ H xs us Q I r h
  obtain ⟨as, M, ρ, is, m, ro⟩ := h
  unfold oList at ro
  split at ro
  · cases is with
    | cons i1 is =>
      cases is
      cases i1 with
      | tup ht it => exact call_list_of pins s σ H _ us Q I r ⟨_, _, rfl, .inr (.inl (.inl ht)), fun p hp => ro.newL m it hp⟩
  · rename_i l
    cases is with
    | cons i1 is =>
      cases is
      cases i1 with
      | lst hl =>
        cases el : listAt M l with
        | none => rw [el] at ro; exact ro.elim
        | some ys =>
          rw [el] at ro
          obtain ⟨vs, hq, iv⟩ := m.list hl el
          exact call_list_of pins s σ H _ us Q I r ⟨_, _, rfl, .inl hq, fun p hp => RO.newL (M := M) ro m iv hp⟩
  · rename_i d
    cases is with
    | cons i1 is =>
      cases is
      cases i1 with
      | dct hd =>
        split at ro
        · rename_i kvs ec
          obtain ⟨vs, q, iv⟩ := m.at_ _ _ _ hd ec
          have hl : (kvs.map (·.1)).length = vs.length := by have := iv.length; simpa using this
          refine call_list_dK hc pins s σ H _ us Q I r ⟨_, _, rfl, q, fun p hp => ?_⟩
          have e : ((kvs.map (·.1)).zip vs).map (fun kv => kV kv.1) = (kvs.map (·.1)).map kV := by
            rw [show (fun kv : Key × V => kV kv.1) = kV ∘ (·.1) from rfl, ← List.map_map, map_zip_fst hl]
          rw [e]
          have e2 : (kvs.map fun kv => keyA kv.1) = (kvs.map (·.1)).map keyA := by rw [List.map_map]; rfl
          rw [e2] at ro
          exact ro.newL m (keysA_is _) hp
        · rename_i kvs ec
          obtain ⟨vs, q, iv⟩ := m.at_ _ _ _ hd ec
          have hl : (kvs.map (·.1)).length = vs.length := by have := iv.length; simpa using this
          refine call_list_dT hc pins s σ H _ us Q I r ⟨_, _, rfl, .inl q, fun p bs hp hk => ?_⟩
          have e2 : (kvs.map fun kv => A.tup (kv.1.map keyA)) = (kvs.map (·.1)).map fun k => .tup (k.map keyA) := by rw [List.map_map]; rfl
          rw [e2] at ro
          exact ro.newL m (isKeys_all hl hk) hp
        · exact ro.elim
  · exact ro.elim
def bls? : List A → Option (List Bool)
  | [] => some []
  | .bl b :: r => (bls? r).map (b :: ·)
  | _ :: _ => none
theorem bls_ok {ρ : List Addr} {H : Hp} : ∀ {as : List A} {vs : List V} {bs : List Bool}, IsAll ρ H as vs → bls? as = some bs → vs = bs.map V.bl
  | [], _, bs, .nil, e => by cases e; rfl
  | a :: as, _, bs, .cons r rs, e => by
    cases r with
    | bl b =>
      simp only [bls?] at e
      cases e1 : bls? as with
      | none => rw [e1] at e; cases e
      | some bs' => rw [e1] at e; cases e; rw [bls_ok rs e1]; rfl
    | _ => simp only [bls?] at e; cases e
def oAll : On := fun as M => match as with
  | [.lst l] => ((listAt M l).bind bls?).map fun bs => (.bl (bs.all id), M)
  | _ => none
def oAny : On := fun as M => match as with
  | [.lst l] => ((listAt M l).bind bls?).map fun bs => (.bl (bs.any id), M)
  | _ => none
theorem cr_allA (hc : X.calm = true) : CallR X (.builtin "all") (rn (X.am W.Tb) oAll) := by
  intro pins s σ H xs us Q I r h
  obtain ⟨as, M, ρ, is, m, ro⟩ := h
  unfold oAll at ro
  split at ro
  · rename_i l
    cases is with
    | cons i1 is =>
      cases is
      cases i1 with
      | lst hl =>
        cases el : listAt M l with
        | none => rw [el] at ro; exact ro.elim
        | some ys =>
          obtain ⟨vs, hq, iv⟩ := m.list hl el
          cases eb : bls? ys with
          | none => rw [el, Option.bind_some, eb] at ro; exact ro.elim
          | some bs =>
            rw [el, Option.bind_some, eb] at ro
            rw [bls_ok iv eb] at hq
            exact cr_all hc pins s σ H _ us Q I r ⟨_, _, rfl, hq, RO.val (ρ := ρ) (M := M) ro m (.bl _)⟩
  · exact ro.elim
theorem cr_anyA (hc : X.calm = true) : CallR X (.builtin "any") (rn (X.am W.Tb) oAny) := by
  intro pins s σ H xs us Q I r h
  obtain ⟨as, M, ρ, is, m, ro⟩ := h
  unfold oAny at ro
  split at ro
  · rename_i l
    cases is with
    | cons i1 is =>
      cases is
      cases i1 with
      | lst hl =>
        cases el : listAt M l with
        | none => rw [el] at ro; exact ro.elim
        | some ys =>
          obtain ⟨vs, hq, iv⟩ := m.list hl el
          cases eb : bls? ys with
          | none => rw [el, Option.bind_some, eb] at ro; exact ro.elim
          | some bs =>
            rw [el, Option.bind_some, eb] at ro
            rw [bls_ok iv eb] at hq
            exact cr_any hc pins s σ H _ us Q I r ⟨_, _, rfl, hq, RO.val (ρ := ρ) (M := M) ro m (.bl _)⟩
  · exact ro.elim
end
end AB
/-! AB7: methods of lists, ranges as values -/
namespace AB
open PySem PySem.Spec PyProof.Rows L2
section
variable {X : Cx} {W : WR} {pos : Pos} {a b e : Expr} {es : List Expr} {f g : EF} {fs : EFs}
/-! ### list methods -/
abbrev OM := A → List A → Store → Option (A × Store)
def rm (w : Amb) (o : OM) : V → List V → Hp → VK → Prop := fun x xs H Q => ∃ a as M ρ, Is ρ H a x ∧ IsAll ρ H as xs ∧ RM w ρ H M ∧ RO w ρ H (o a as M) Q
def isL (M : Store) : A → Bool
  | .lst l => (listAt M l).isSome
  | _ => false
def eMeth (o : OM) (f : EF) (fs : EFs) : EF := fun τ M => (f τ M).bind fun a M1 => if isL M1 a = true then (fs τ M1).bind fun as M2 => toE (o a as M2) else .bad
def eMeth0 (o : OM) (f : EF) : EF := fun τ M => (f τ M).bind fun a M1 => if isL M1 a = true then toE (o a [] M1) else .bad
theorem isL_ok {ρ : List Addr} {H : Hp} {M : Store} (m : RM w ρ H M) {a : A} {v : V} (i : Is ρ H a v) (h : isL M a = true) : tyV w.K "list" v H := by
  cases i with
  | lst hl =>
    simp only [isL] at h
    cases el : listAt M _ with
    | none => rw [el] at h; cases h
    | some xs =>
      obtain ⟨vs, q, _⟩ := m.list hl el
      exact .inl ⟨rfl, vs, q⟩
  | _ => simp only [isL] at h; cases h
theorem ae_meth {o : OM} {name : Str} {id : String} {apos cpos : Pos} (slot : Slot "list" name id) (hty : typeOf (.builtin id) = pure (.type "method_descriptor")) (hm : MtR X id (rm (X.am W.Tb) o)) (ho : AE X W a f) (ha : AA X W (e :: es) fs)
    (hbase : attributeBase a name X.env (eval a X.env) = eval a X.env := by rfl)
    (hfew : ((backTo cpos (starEach (e :: es) X.env)).all (fun x => !x.1) && (backToKw cpos (keywordEach [] X.env)).all (fun x => x.1.isSome)
      && decide ((e :: es).length + ([] : List Keyword).length + (if ([] : List Keyword).isEmpty then 0 else 1) < 30)) = true := by rfl)
    (hline : (apos.endLine == cpos.line) = true := by rfl) (hs : starEach (e :: es) X.env = (false, eval e X.env) :: starEach es X.env := by rfl) (hplain : (backTo cpos (starEach es X.env)).any (·.1) = false := by rfl) :
    AE X W (.Call (.Attribute a name apos) (e :: es) [] cpos) (eMeth o f fs) := (pe_bm PySem.F.plainAttrs_list slot hty hm ho ha hbase hfew hline hs hplain).pre fun σ H Q h => by
  refine (seqG Is h).imp fun x H1 h1 => ?_
  obtain ⟨τ, M, ρ, c, rs, rm', i, r⟩ := h1
  have r : RE (X.gx W.Tb) W σ ρ H1 Is (if isL M c = true then (fs τ M).bind fun as M2 => toE (o c as M2) else .bad) Q := r
  split at r
  · rename_i hl
    refine ⟨isL_ok rm' i hl, τ, M, ρ, rs, rm', ?_⟩
    cases e2 : fs τ M with
    | ok as M2 =>
      rw [e2] at r
      intro vs H2 ρ2 x g m is
      have r := RE.mono r x g
      exact ⟨c, as, M2, ρ2, i.mono x g, is, m, RO.of r⟩
    | ex en M2 => rw [e2] at r; exact r
    | bad => rw [e2] at r; exact r
  · exact r.elim
theorem ae_meth0 {o : OM} {name : Str} {id : String} {apos cpos : Pos} (slot : Slot "list" name id) (hty : typeOf (.builtin id) = pure (.type "method_descriptor")) (hm : MtR X id (rm (X.am W.Tb) o)) (ho : AE X W a f)
    (hbase : attributeBase a name X.env (eval a X.env) = eval a X.env := by rfl) (hline : (apos.endLine == cpos.line) = true := by rfl) : AE X W (.Call (.Attribute a name apos) [] [] cpos) (eMeth0 o f) := (pe_bm0 PySem.F.plainAttrs_list slot hty hm ho hbase hline).pre fun σ H Q h => by
  refine (seqG Is h).imp fun x H1 h1 => ?_
  obtain ⟨τ, M, ρ, c, rs, rm', i, r⟩ := h1
  have r : RE (X.gx W.Tb) W σ ρ H1 Is (if isL M c = true then toE (o c [] M) else .bad) Q := r
  split at r
  · rename_i hl
    exact ⟨isL_ok rm' i hl, c, [], M, ρ, i, .nil, rm', RO.of r⟩
  · exact r.elim
def oAppend : OM := fun x as M => match x, as with
  | .lst l, [y] => match M[l]? with
    | some (.lst xs) => if xs.length < sizeLine then some (.non, M.set l (.lst (xs ++ [y]))) else none
    | _ => none
  | _, _ => none
theorem mt_appendA : MtR X "list.append" (rm (X.am W.Tb) oAppend) := by
  intro pins s σ H x xs v us Q I rx rxs h
  obtain ⟨a, as, M, ρ, ia, is, m, ro⟩ := h
  unfold oAppend at ro
  split at ro
  · rename_i l y
    cases is with
    | cons i1 is =>
      cases is
      cases ia with
      | lst hl =>
        split at ro
        · rename_i ys ec
          split at ro
          · rename_i hz
            obtain ⟨vs, hh, iv⟩ := m.lstM hl ec
            exact mt_append pins s σ H _ _ v us Q I rx rxs ⟨_, _, _, rfl, rfl, hh, by rw [← iv.length]; exact hz, ro.setL m hl ec (iv.append (.cons i1 .nil)) .non⟩
          · exact ro.elim
        · exact ro.elim
  · exact ro.elim
theorem IsAll.dropLast {ρ : List Addr} {H : Hp} {ts : List A} {vs : List V} (r : IsAll ρ H ts vs) : IsAll ρ H ts.dropLast vs.dropLast := by
  rw [List.dropLast_eq_take, List.dropLast_eq_take, r.length]
  exact r.take _
def oPop : OM := fun x as M => match x, as with
  | .lst l, [] => match M[l]? with
    | some (.lst xs) => match xs[xs.length - 1]? with
      | some y => some (y, M.set l (.lst xs.dropLast))
      | none => none
    | _ => none
  | .lst l, [.int i] => match M[l]? with
    | some (.lst xs) => if -(2 ^ 63) ≤ i ∧ i < 2 ^ 63 then match seqIndex? i xs.length with
        | some k => match xs[k]? with
          | some y => some (y, M.set l (.lst (xs.eraseIdx k)))
          | none => none
        | none => none
      else none
    | _ => none
  | _, _ => none
theorem mt_popA : MtR X "list.pop" (rm (X.am W.Tb) oPop) := by
  intro pins s σ H x xs v us Q I rx rxs h
  obtain ⟨a, as, M, ρ, ia, is, m, ro⟩ := h
  unfold oPop at ro
  split at ro
  · cases is
    cases ia with
    | lst hl =>
      split at ro
      · rename_i ys ec
        split at ro
        · rename_i y ey
          obtain ⟨vs, hh, iv⟩ := m.lstM hl ec
          obtain ⟨w, hw, iw⟩ := iv.get ey
          exact mt_pop pins s σ H _ _ v us Q I rx rxs ⟨_, _, w, rfl, rfl, hh, by rw [← iv.length]; exact hw, ro.setL m hl ec iv.dropLast iw⟩
        · exact ro.elim
      · exact ro.elim
  · rename_i l i
    cases is with
    | cons i1 is =>
      cases is; cases i1
      cases ia with
      | lst hl =>
        split at ro
        · rename_i ys ec
          split at ro
          · rename_i hb
            split at ro
            · rename_i k ek
              split at ro
              · rename_i y ey
                obtain ⟨vs, hh, iv⟩ := m.lstM hl ec
                obtain ⟨w, hw, iw⟩ := iv.get ey
                exact mt_popAt pins s σ H _ _ v us Q I rx rxs ⟨_, _, _, k, w, rfl, rfl, hh, hb.1, hb.2, by rw [← iv.length]; exact ek, hw, ro.setL m hl ec (iv.eraseIdx k) iw⟩
              · exact ro.elim
            · exact ro.elim
          · exact ro.elim
        · exact ro.elim
  · exact ro.elim
/-- the first place of an equal flat item -/
def ixFlat (y : V) : List V → Nat → Option Nat
  | [], _ => none
  | x :: xs, j => if eqV x y = true then some j else ixFlat y xs (j + 1)
theorem ixFlat_ok {y : V} : ∀ {xs : List V} {j n : Nat}, ixFlat y xs j = some n → ∃ k z, n = j + k ∧ xs[k]? = some z ∧ eqV z y = true ∧ ∀ (m : Nat) (z' : V), m < k → xs[m]? = some z' → eqV z' y = false
  | [], _, _, e => by cases e
  | x :: xs, j, n, e => by
    unfold ixFlat at e
    split at e
    · rename_i h; cases e
      exact ⟨0, x, rfl, rfl, h, fun m z' hm => absurd hm (Nat.not_lt_zero m)⟩
    · rename_i h
      obtain ⟨k, z, e1, e2, e3, e4⟩ := ixFlat_ok e
      refine ⟨k + 1, z, by omega, by simpa using e2, e3, fun m z' hm hz => ?_⟩
      cases m with
      | zero => simp at hz; subst hz; simpa using h
      | succ m => exact e4 m z' (by omega) (by simpa using hz)
def oIndex : OM := fun x as M => match x, as with
  | .lst l, [y] => match listAt M l with
    | some xs => match flat? y, xs.mapM flat? with
      | some w, some ws => (ixFlat w ws 0).map fun j => (.int (j : Nat), M)
      | _, _ => none
    | none => none
  | _, _ => none
theorem mt_indexA : MtR X "list.index" (rm (X.am W.Tb) oIndex) := by
  intro pins s σ H x xs v us Q I rx rxs h
  obtain ⟨a, as, M, ρ, ia, is, m, ro⟩ := h
  unfold oIndex at ro
  split at ro
  · rename_i l y
    cases is with
    | cons i1 is =>
      cases is
      cases ia with
      | lst hl =>
        split at ro
        · rename_i ys el
          split at ro
          · rename_i w ws e1 e2
            obtain ⟨vs, hq, iv⟩ := m.list hl el
            obtain ⟨rfl, f1⟩ := flat_ok i1 e1
            obtain ⟨rfl, f2⟩ := flats_ok iv e2
            cases e3 : ixFlat _ vs 0 with
            | none => rw [e3] at ro; exact ro.elim
            | some j =>
              rw [e3] at ro
              obtain ⟨k, z, h1, h2, h3, h4⟩ := ixFlat_ok e3
              have : j = k := by omega
              subst this
              exact mt_index pins s σ H _ _ v us Q I rx rxs ⟨_, _, _, j, z, rfl, rfl, hq, f1, f2, h2, h3, h4, RO.val (ρ := ρ) (M := M) ro m (.int _)⟩
          · exact ro.elim
        · exact ro.elim
  · exact ro.elim
def oExtend : OM := fun x as M => match x, as with
  | .lst l, [.lst k] => match M[l]?, M[k]? with
    | some (.lst xs), some (.lst ys) => if xs.length + ys.length ≤ sizeLine then some (.non, M.set l (.lst (xs ++ ys))) else none
    | _, _ => none
  | _, _ => none
theorem mt_extendA : MtR X "list.extend" (rm (X.am W.Tb) oExtend) := by
  intro pins s σ H x xs v us Q I rx rxs h
  obtain ⟨a, as, M, ρ, ia, is, m, ro⟩ := h
  unfold oExtend at ro
  split at ro
  · rename_i l k
    cases is with
    | cons i1 is =>
      cases is
      cases ia with
      | lst hl =>
        cases i1 with
        | lst hk =>
          split at ro
          · rename_i ys zs e1 e2
            split at ro
            · rename_i hz
              obtain ⟨vs, hh, iv⟩ := m.lstM hl e1
              obtain ⟨ws, hh2, iw⟩ := m.lstM hk e2
              exact mt_extend pins s σ H _ _ v us Q I rx rxs ⟨_, _, _, _, rfl, rfl, hh, hh2, by rw [← iv.length, ← iw.length]; exact hz, ro.setL m hl e1 (iv.append iw) .non⟩
            · exact ro.elim
          · exact ro.elim
  · exact ro.elim
theorem ae_append {apos cpos : Pos} (ho : AE X W a f) (ha : AA X W [e] fs) (hbase : attributeBase a "append" X.env (eval a X.env) = eval a X.env := by rfl)
    (hfew : ((backTo cpos (starEach [e] X.env)).all (fun x => !x.1) && (backToKw cpos (keywordEach [] X.env)).all (fun x => x.1.isSome)
      && decide ([e].length + ([] : List Keyword).length + (if ([] : List Keyword).isEmpty then 0 else 1) < 30)) = true := by rfl)
    (hline : (apos.endLine == cpos.line) = true := by rfl) (hs : starEach [e] X.env = (false, eval e X.env) :: starEach [] X.env := by rfl) (hplain : (backTo cpos (starEach [] X.env)).any (·.1) = false := by rfl) :
    AE X W (.Call (.Attribute a "append" apos) [e] [] cpos) (eMeth oAppend f fs) := ae_meth PySem.F.slot_list_append PySem.F.type_list_append mt_appendA ho ha hbase hfew hline hs hplain
theorem ae_pop1 {apos cpos : Pos} (ho : AE X W a f) (ha : AA X W [e] fs) (hbase : attributeBase a "pop" X.env (eval a X.env) = eval a X.env := by rfl)
    (hfew : ((backTo cpos (starEach [e] X.env)).all (fun x => !x.1) && (backToKw cpos (keywordEach [] X.env)).all (fun x => x.1.isSome)
      && decide ([e].length + ([] : List Keyword).length + (if ([] : List Keyword).isEmpty then 0 else 1) < 30)) = true := by rfl)
    (hline : (apos.endLine == cpos.line) = true := by rfl) (hs : starEach [e] X.env = (false, eval e X.env) :: starEach [] X.env := by rfl) (hplain : (backTo cpos (starEach [] X.env)).any (·.1) = false := by rfl) :
    AE X W (.Call (.Attribute a "pop" apos) [e] [] cpos) (eMeth oPop f fs) := ae_meth PySem.F.slot_list_pop PySem.F.type_list_pop mt_popA ho ha hbase hfew hline hs hplain
theorem ae_pop0 {apos cpos : Pos} (ho : AE X W a f) (hbase : attributeBase a "pop" X.env (eval a X.env) = eval a X.env := by rfl) (hline : (apos.endLine == cpos.line) = true := by rfl) :
    AE X W (.Call (.Attribute a "pop" apos) [] [] cpos) (eMeth0 oPop f) := ae_meth0 PySem.F.slot_list_pop PySem.F.type_list_pop mt_popA ho hbase hline
theorem ae_index {apos cpos : Pos} (ho : AE X W a f) (ha : AA X W [e] fs) (hbase : attributeBase a "index" X.env (eval a X.env) = eval a X.env := by rfl)
    (hfew : ((backTo cpos (starEach [e] X.env)).all (fun x => !x.1) && (backToKw cpos (keywordEach [] X.env)).all (fun x => x.1.isSome)
      && decide ([e].length + ([] : List Keyword).length + (if ([] : List Keyword).isEmpty then 0 else 1) < 30)) = true := by rfl)
    (hline : (apos.endLine == cpos.line) = true := by rfl) (hs : starEach [e] X.env = (false, eval e X.env) :: starEach [] X.env := by rfl) (hplain : (backTo cpos (starEach [] X.env)).any (·.1) = false := by rfl) :
    AE X W (.Call (.Attribute a "index" apos) [e] [] cpos) (eMeth oIndex f fs) := ae_meth PySem.F.slot_list_index PySem.F.type_list_index mt_indexA ho ha hbase hfew hline hs hplain
theorem ae_extend {apos cpos : Pos} (ho : AE X W a f) (ha : AA X W [e] fs) (hbase : attributeBase a "extend" X.env (eval a X.env) = eval a X.env := by rfl)
    (hfew : ((backTo cpos (starEach [e] X.env)).all (fun x => !x.1) && (backToKw cpos (keywordEach [] X.env)).all (fun x => x.1.isSome)
      && decide ([e].length + ([] : List Keyword).length + (if ([] : List Keyword).isEmpty then 0 else 1) < 30)) = true := by rfl)
    (hline : (apos.endLine == cpos.line) = true := by rfl) (hs : starEach [e] X.env = (false, eval e X.env) :: starEach [] X.env := by rfl) (hplain : (backTo cpos (starEach [] X.env)).any (·.1) = false := by rfl) :
    AE X W (.Call (.Attribute a "extend" apos) [e] [] cpos) (eMeth oExtend f fs) := ae_meth PySem.F.slot_list_extend PySem.F.type_list_extend mt_extendA ho ha hbase hfew hline hs hplain
/-! ### list(range(..)), tuple(range(..)) -/
def rgA (a b : Int) : List A := (List.range (b - a).toNat).map fun i => A.int (a + (i : Nat))
theorem rgA_is {ρ : List Addr} {H : Hp} (a b : Int) : IsAll ρ H (rgA a b) (rgV a b) := by
  unfold rgA rgV
  generalize List.range (b - a).toNat = l
  induction l with
  | nil => exact .nil
  | cons i l ih => exact .cons (.int _) ih
def rgOk (a b : Int) : Bool := decide (-(2 ^ 62) ≤ a ∧ a < 2 ^ 62 ∧ -(2 ^ 62) ≤ b ∧ b < 2 ^ 62 ∧ (b - a).toNat ≤ 2 ^ 24)
abbrev ER := Sl → Store → EO (Int × Int)
def g1 (f : EF) : ER := fun τ M => (f τ M).bind fun a M1 => match a with
  | .int n => .ok (0, n) M1
  | _ => .bad
abbrev relR : Rel (Int × Int) (Int × Int) := fun _ _ a b => a = b
def AR (X : Cx) (W : WR) (e : Expr) (f : ER) : Prop := PRg X e (fun σ H R => tG (X.gx W.Tb) W relR f σ H fun p H1 => R p.1 p.2 H1)
theorem ar_1 {p pos : Pos} (hm : X.mg "range" = none) (ha : AE X W a f) (hg : Gl X "range" := by rfl) (na : starEach [a] X.env = (false, eval a X.env) :: starEach [] X.env := by rfl) : AR X W (.Call (.Name "range" p) [a] [] pos) (g1 f) := by
  intro pins s σ H Q I h
  refine prg_1 hg hm ha na pins s σ H Q I ((seqG Is h).imp fun x H1 h1 => ?_)
  obtain ⟨τ, M, ρ, c, rs, rm', i, r⟩ := h1
  cases c with
  | int n => cases i; exact ⟨n, rfl, RE.okv (a := (0, n)) (M := M) (rel := relR) (b := (0, n)) r (.refl _) (.refl _) rm' rfl⟩
  | _ => exact r.elim
def eLrg (f : ER) : EF := fun τ M => (f τ M).bind fun p M1 => if rgOk p.1 p.2 = true then .ok (.lst M1.length) (M1 ++ [.lst (rgA p.1 p.2)]) else .bad
def eTrg (f : ER) : EF := fun τ M => (f τ M).bind fun p M1 => if rgOk p.1 p.2 = true then .ok (.tup (rgA p.1 p.2)) M1 else .bad
theorem ae_lrg {p pos : Pos} {fr : ER} (hc : X.calm = true) (hm : X.mg "list" = none) (he : AR X W e fr) (hg : Gl X "list" := by rfl) (na : starEach [e] X.env = (false, eval e X.env) :: starEach [] X.env := by rfl) : AE X W (.Call (.Name "list" p) [e] [] pos) (eLrg fr) := (pe_listRg hc hg hm he na).pre fun σ H Q h => by
  refine (seqG relR h).imp fun x H1 h1 => ?_
  obtain ⟨τ, M, ρ, c, rs, rm', i, r⟩ := h1
  have i : c = x := i
  subst i
  have r : RE (X.gx W.Tb) W σ ρ H1 Is (if rgOk c.1 c.2 = true then .ok (.lst M.length) (M ++ [.lst (rgA c.1 c.2)]) else .bad) Q := r
  split at r
  · rename_i hz
    refine ⟨by unfold rgOk at hz; unfold RgOk; exact of_decide_eq_true hz, fun q hq => ?_⟩
    exact r.okv (.snoc _ q) (.new hq) (rm'.push hq ⟨_, upd_same, rgA_is _ _⟩) (.lst (by rw [← rm'.len]; simp))
  · exact r.elim
theorem ae_trg {p pos : Pos} {fr : ER} (hc : X.calm = true) (hm : X.mg "tuple" = none) (he : AR X W e fr) (hg : Gl X "tuple" := by rfl) (na : starEach [e] X.env = (false, eval e X.env) :: starEach [] X.env := by rfl) : AE X W (.Call (.Name "tuple" p) [e] [] pos) (eTrg fr) := (pe_tupRg hc hg hm he na).pre fun σ H Q h => by
  refine (seqG relR h).imp fun x H1 h1 => ?_
  obtain ⟨τ, M, ρ, c, rs, rm', i, r⟩ := h1
  have i : c = x := i
  subst i
  have r : RE (X.gx W.Tb) W σ ρ H1 Is (if rgOk c.1 c.2 = true then .ok (.tup (rgA c.1 c.2)) M else .bad) Q := r
  split at r
  · rename_i hz
    refine ⟨by unfold rgOk at hz; unfold RgOk; exact of_decide_eq_true hz, fun q hq => ?_⟩
    exact r.okv (.refl _) (.new hq) (rm'.new hq) (.tup upd_same (rgA_is _ _))
  · exact r.elim
end
end AB
/-! AB8: enumerate of a tuple -/
namespace ET
open PySem PySem.Spec PyProof.Rows L2
open AutoSeq1 (wpAny_loadPart')
theorem meets_enumerate_newT (l : Addr) (items : Array Value) (n : Nat) (dct : Option Addr) (sl : Array (Option Value)) :
    Meets (Builtin.«enumerate.__new__» ⟨[.type "enumerate", .ref l], []⟩) (fun _ R s => s.heap.get? l = some { cls := .type "tuple", dict := dct, data := .seq items n, slots := sl } ∧
      R (.ok (.ret (.ref (s.heap.push { cls := .type "tuple_iterator", data := .fields #[.ref l, .int 0 0] }).objs.size)))
        { s with heap := (s.heap.push { cls := .type "tuple_iterator", data := .fields #[.ref l, .int 0 0] }).push { cls := .type "enumerate", data := .fields #[.none, .bool false, .ref s.heap.objs.size, rawInt 0, .none, .none] } }) :=
  .of_wp fun prog w A R s h => by
    obtain ⟨hp, g, d, tk, os⟩ := s; obtain ⟨hl, h⟩ := h
    have hsub := sub_enumerate
    have hL : Heap.IsTuple (Shared.heap ⟨hp, g, d, tk, os⟩) l items := ⟨_, hl, rfl, n, rfl⟩
    wp_walk using wpAny_loadPart' hl
    refine wpAny_stack_any fun st => wpAny_pure ?_
    split
    · rename_i c _ _ _ _ _
      cases (c == Value.type "enumerate")
      · wp_walk using wpAny_loadPart' hl, wpAny_pyIter_tuple hL
        exact ⟨_, rfl, h⟩
      · wp_walk using wpAny_loadPart' hl, wpAny_pyIter_tuple hL
        exact ⟨_, rfl, h⟩
    · wp_walk using wpAny_loadPart' hl, wpAny_pyIter_tuple hL
      exact ⟨_, rfl, h⟩
section
variable {prog : Program} {w : World} {A : Around} {E : Value → Shared → Prop} {s : Shared}
theorem call_enumerate_tup {l : Addr} {items : Array Value} {Q : Value → Shared → Prop} (hL : s.heap.IsTuple l items)
    (h : ∀ h', IsEnum h' (s.heap.objs.size + 1) s.heap.objs.size 0 .none → h'.IsTupleIter s.heap.objs.size l 0 → h'.objs.size = s.heap.objs.size + 2 →
      (∀ b o, s.heap.get? b = some o → h'.get? b = some o) → Q (.ref (s.heap.objs.size + 1)) { s with heap := h' }) :
    wpAny (model prog w) A (call (.type "enumerate") [.ref l]) Q E s := by
  obtain ⟨⟨c, dct, dt, sl⟩, hl, hc, n, hd⟩ := hL
  replace hc : c = .type "tuple" := hc
  replace hd : dt = .seq items n := hd
  subst hc hd
  refine callType_new F.called_enumerate (by decide) (F.typeCall_enumerate_1 _) (F.newCall_enumerate_1 _) (fun obj => F.args_object_init_2 obj _) F.entry_enumerate_new
    (meets_enumerate_newT l items n dct sl) ⟨hl, ?_⟩
  have hz : (s.heap.push { cls := .type "tuple_iterator", data := .fields #[.ref l, .int 0 0] }).objs.size = s.heap.objs.size + 1 := Heap.size_push ..
  show _ ∧ _
  rw [hz]
  have he : IsEnum ((s.heap.push { cls := .type "tuple_iterator", data := .fields #[.ref l, .int 0 0] }).push
      { cls := .type "enumerate", data := .fields #[.none, .bool false, .ref s.heap.objs.size, rawInt 0, .none, .none] }) (s.heap.objs.size + 1) s.heap.objs.size 0 .none := by
    have := Heap.get?_push_size (s.heap.push { cls := .type "tuple_iterator", data := .fields #[.ref l, .int 0 0] })
      (o := { cls := .type "enumerate", data := .fields #[.none, .bool false, .ref s.heap.objs.size, rawInt 0, .none, .none] }) rfl
    rw [hz] at this; exact this
  refine ⟨⟨_, he, rfl⟩, h _ he ⟨_, Heap.get?_push_of_some _ (Heap.get?_push_size _ rfl), rfl, rfl⟩ (by rw [Heap.size_push, hz]) fun b o x => Heap.get?_push_of_some _ (Heap.get?_push_of_some _ x)⟩
end
theorem enum_end_tup {prog : Program} {w : World} {A : Around} {E : Value → Shared → Prop} {s : Shared} {e it l : Addr} {i : Nat} {items : Array Value} {old : Value} {Q : Option Value → Shared → Prop} (hh : A.handled = none)
    (he : IsEnum s.heap e it i old) (hit : s.heap.IsTupleIter it l i) (hl : s.heap.IsTuple l items) (hx : items[i]? = none)
    (hQ : ∀ h', Heap.ExtBut it s.heap h' → Q none { s with heap := h' }) : wpAny (model prog w) A (pyNext (.ref e)) Q E s := by
  have hT : s.TypeIs (.ref e) "enumerate" := ⟨_, he, rfl⟩
  unfold pyNext
  refine wpAny_bind (wpAny_attempt (wpAny_callSpecial?_slot (name := Str.ofString "__next__") hT F.slot_enumerate_next
    (wpAny_call_entry F.slot_enumerate_next hT F.entry_enumerate_next ?_ (F.args_enumerate_next_1 _))))
  show wpAny _ _ (field (.ref e) 2 >>= _) _ _ _
  refine wpAny_bind (wpAny_field he rfl (x := .ref it) rfl ?_)
  refine wpAny_bind (wpAny_nextOf_tuple_end (by first | exact hh | (show A.in1.handled = none; exact hh)) hit hl hx fun h' x he' hx' => ?_)
  obtain ⟨o, ho, hc⟩ := hx'
  refine wpAny_bind (wpAny_isInstance (T := "StopIteration") (b := true) ⟨o, ho, hc⟩ isSubtype_stop ?_)
  exact wpAny_pure (hQ _ he')
/-- each item of the tuple at a in a new pair -/
def ItE (K : PySem.W.Frag) (a : Addr) : It :=
  ⟨fun i H => ∃ (xs : List V) (x : V), SqT K H a xs ∧ xs[i]? = some x, fun i H v H' => ∃ T x, v = .ref T ∧ H T = none ∧ H' = upd H T (.tup [.int (i : Nat), x]) ∧ ∀ xs, SqT K H a xs → xs[i]? = some x, fun i H => ∃ xs : List V, SqT K H a xs ∧ xs.length ≤ i⟩
theorem turn_enumT {P : Program} {w : World} {K : PySem.W.Frag} {elts : List Expr} {kk : Nat} {tpos : Pos} (a e it : Addr) :
    Turn P w K (.Tuple elts kk tpos) (ItE K a) [e, it] e (fun i h => (∃ old, IsEnum h e it ((i : Nat) : Int) old) ∧ h.IsTupleIter it a i ∧ e ≠ it) where
  mem := by simp
  obj := fun i h st b hb => by
    obtain ⟨⟨old, he⟩, ⟨o, ho, hc, hd⟩, _⟩ := st
    have e' : b = e ∨ b = it := by simpa using hb
    rcases e' with z | z
    · rw [z]; exact ⟨_, he, fun v q => nomatch q⟩
    · rw [z]; exact ⟨o, ho, fun v q => by rw [hd] at q; cases q⟩
  keep := fun i h h' st k => let ⟨⟨old, he⟩, hi, hne⟩ := st; ⟨⟨old, k e (by simp) _ he⟩, hi.at fun o q => k it (by simp) o q, hne⟩
  item := by
    intro X hP hw hK hc i pins s σ H E I hf st hg
    subst hP hw hK
    obtain ⟨⟨old, he⟩, hit, hne⟩ := st
    obtain ⟨xs, x, hq, hx⟩ := hg
    obtain ⟨its, rv, p, hz⟩ := I.tuple hq
    obtain ⟨u, hu, ru⟩ := rv.get hx
    have hel : e < s.heap.objs.size := Heap.lt_size he
    have hil : it < s.heap.objs.size := by obtain ⟨_, q, _⟩ := hit; exact Heap.lt_size q
    obtain ⟨ob, hob, hcb, nb, hdb⟩ := id (show s.heap.IsTuple a its.toArray from p)
    have hae : a ≠ e := fun z => by
      subst z
      rw [he] at hob; cases hob; exact absurd (Value.type.inj hcb) (by decide)
    have hai : a ≠ it := fun z => by
      subst z
      obtain ⟨o2, q1, q2, _⟩ := hit
      rw [q1] at hob; cases hob; rw [q2] at hcb; exact absurd (Value.type.inj hcb) (by decide)
    have D := Draws.tuple (prog := X.prog) (w := X.w) (A := X.A.in1) (I.ok.hd hc) it a hai its.toArray
    have hlt : i < its.toArray.size := by
      have := (List.getElem?_eq_some_iff.mp hu).1
      simpa using this
    refine wpAny_pyNext_enum_itemD (i := i) D he ⟨hit, show s.heap.IsTuple a its.toArray from p⟩ hlt hne (by simp [hne, Ne.symm hae]) fun u' h' tk hu' ho hit' hT hsz hk => ?_
    have hu' : its.toArray[i]? = some u' := hu'
    have eu : u' = u := by
      have q : its.toArray[i]? = some u := by simpa using hu
      rw [q] at hu'; exact (Option.some.inj hu').symm
    subst eu
    refine ⟨_, rfl, wpAny_letOwnedTupleGo_enum (s := { s with heap := h', toks := tk + 1 }) ho fun h'' he' sb => ?_⟩
    have hT2 : h''.get? s.heap.objs.size = some { cls := .type "tuple", data := .seq #[.int i tk, u'] } := (sb.2 _ (Nat.ne_of_gt hel)).trans hT
    have new : ObjOk X.prog X.w (upd H s.heap.objs.size (.tup [.int (i : Nat), x])) h'' s.heap.objs.size (.tup [.int (i : Nat), x]) :=
      ⟨by show 2 ≤ sizeLine; decide, [.int i tk, u'], .cons ⟨_, rfl⟩ (.cons ru .nil), ⟨_, hT2, rfl, _, rfl⟩⟩
    have I1 : Inv X pins σ (upd H s.heap.objs.size (.tup [.int (i : Nat), x])) { s with heap := h'', toks := tk + 1 } :=
      I.turnedNew (ch := [e, it]) (fun b ob hb q => (sb.2 b (fun z => hb (by simp [z]))).trans (hk b ob (fun z => hb (by simp [z])) (fun z => hb (by simp [z])) q)) hf (Nat.le_refl _) new
    refine ⟨.ref s.heap.objs.size, _, I1, rfl, ⟨_, x, rfl, I.hok.fresh (Nat.le_refl _), rfl, fun ys hy => by rw [I.tuple_inj hy hq]; exact hx⟩, ⟨⟨u', ?_⟩, hit'.1.at fun o q => (sb.2 it (Ne.symm hne)).trans q, hne⟩, fun b hb => ?_⟩
    · have e1 : ((i + 1 : Nat) : Int) = (i : Int) + 1 := by omega
      rw [e1]; exact he'
    · have hb' : b < s.heap.objs.size := by
        have e' : b = e ∨ b = it := by simpa using hb
        rcases e' with z | z
        · rw [z]; exact hel
        · rw [z]; exact hil
      rw [upd_ne (Nat.ne_of_lt hb')]
      exact (hf b hb).1
  done := by
    intro X hP hw hK hc i pins s σ H E I hf st hg
    subst hP hw hK
    obtain ⟨⟨old, he⟩, hit, hne⟩ := st
    obtain ⟨xs, hq, hx⟩ := hg
    obtain ⟨its, rv, p, hz⟩ := I.tuple hq
    obtain ⟨f0, f1, f2, f3, f4, f5⟩ := hf it (by simp)
    obtain ⟨ob, hob, hcb, nb, hdb⟩ := id (show s.heap.IsTuple a its.toArray from p)
    have hai : a ≠ it := fun z => by
      subst z
      obtain ⟨o2, q1, q2, _⟩ := hit
      rw [q1] at hob; cases hob; rw [q2] at hcb; exact absurd (Value.type.inj hcb) (by decide)
    have D := Draws.tuple (prog := X.prog) (w := X.w) (A := X.A.in1) (I.ok.hd hc) it a hai its.toArray
    have hl := rv.length
    -- the iterator's own place lies at the end or beyond: both read as its end
    exact enum_end_tup (I.ok.hd hc) he hit (show s.heap.IsTuple a its.toArray from p) (by simp; omega) fun h' eb => ⟨rfl, I.turned (t' := s.toks) (fun b o hb q => eb b o hb q) f0 f1 f3 f4 f5⟩
  self := fun A i s Q E st h => let ⟨⟨_, he⟩, _⟩ := st; wpAny_pyIter_enum he h
end ET
namespace ET
open PySem PySem.Spec PyProof.Rows L2
def iEnumT (K : PySem.W.Frag) (ta : TA) : TI := fun σ H R => ta σ H fun vs H1 => ∃ a xs, vs = [.ref a] ∧ SqT K H1 a xs ∧ R (ItE K a) H1
theorem pi_enumT {X : Cx} {e : Expr} {ta : TA} {p pos tpos : Pos} {elts : List Expr} {kk : Nat} (hg : Gl X "enumerate") (hm : X.mg "enumerate" = none) (ha : PA X [e] ta) (hs : starEach [e] X.env = [(false, eval e X.env)] := by rfl) :
    PI X (.Tuple elts kk tpos) (.Call (.Name "enumerate" p) [e] [] pos) (iEnumT X.K ta) := by
  refine ⟨fun pins s σ H R I h => ?_⟩
  refine Call_ (ld_blt I hg hm boot_enumerate (PyProof.Rows.callWith_type1 (thn (ha.run pos pins s σ H _ I h) fun us s1 ⟨vs, H1, I1, r1, q1⟩ => ?_) hs rfl))
  obtain ⟨a, xs, ex, hq, q⟩ := q1
  subst ex
  cases r1 with
  | cons r rr =>
    cases rr
    cases r
    obtain ⟨its, rv, p', hz⟩ := I1.tuple hq
    refine call_enumerate_tup (show s1.heap.IsTuple a its.toArray from p') fun h' he hit hsz hk => wpAny_pyIter_enum he ?_
    have I2 : Inv X pins σ H1 { s1 with heap := h' } := I1.kept (t' := s1.toks) hk
    refine ⟨s1.heap.objs.size + 1, [s1.heap.objs.size + 1, s1.heap.objs.size], _, _, H1, rfl, I2, turn_enumT a (s1.heap.objs.size + 1) s1.heap.objs.size, ⟨⟨.none, he⟩, hit, Nat.succ_ne_self _⟩, fun b hb => ?_, q⟩
    have e' : b = s1.heap.objs.size + 1 ∨ b = s1.heap.objs.size := by simpa using hb
    have hle : s1.heap.objs.size ≤ b := by
      rcases e' with z | z
      · rw [z]; exact Nat.le_add_right _ _
      · rw [z]; exact Nat.le_refl _
    exact I1.fpOk hle (I1.hok.fresh hle)
end ET
namespace AB
open PySem PySem.Spec PyProof.Rows L2
def pairsFrom : Nat → List A → List A
  | _, [] => []
  | n, x :: xs => .tup [.int (n : Nat), x] :: pairsFrom (n + 1) xs
theorem pairsFrom_get : ∀ (xs : List A) (n i : Nat), (pairsFrom n xs)[i]? = xs[i]?.map fun x => .tup [.int ((n + i : Nat) : Int), x]
  | [], _, _ => by simp [pairsFrom]
  | x :: xs, n, 0 => by simp [pairsFrom]
  | x :: xs, n, i + 1 => by
    simp only [pairsFrom, List.getElem?_cons_succ]
    rw [pairsFrom_get xs (n + 1) i]
    have : n + 1 + i = n + (i + 1) := by omega
    rw [this]
def enumOf (as : List A) (M : Store) : EO Src := match as with
  | [.tup xs] => .ok (.snap (pairsFrom 0 xs)) M
  | [.lst l] => match listAt M l with
    | some _ => .ok (.enl l) M
    | none => .bad
  | _ => .bad
def iEnumA (f : EFs) : EI := fun τ M => (f τ M).bind enumOf
section
variable {X : Cx} {W : WR} {pos : Pos}
theorem srcJ_enl {w : Amb} {ρ : List Addr} {H : Hp} {l : Nat} {a : Addr} (ha : ρ[l]? = some a) : SrcJ w ρ H (.enl l) (Ite w.K a) := by
  intro ρ2 H2 M2 i x g m
  cases el : listAt M2 l with
  | none => simp only [Src.at, el]; trivial
  | some xs =>
    obtain ⟨vs, q, is⟩ := m.list (x.get ha) el
    cases e : xs[i]? with
    | none =>
      simp only [Src.at, el, Option.map_some, e, Option.map_none]
      exact ⟨vs, q, by rw [← is.length]; exact List.getElem?_eq_none_iff.mp e⟩
    | some t =>
      simp only [Src.at, el, Option.map_some, e]
      obtain ⟨v, hv, iv⟩ := is.get e
      refine ⟨⟨vs, v, q, hv⟩, fun w H3 ⟨T, y, e1, hT, e2, hy⟩ => ?_⟩
      have := hy vs q
      rw [hv] at this
      obtain rfl := Option.some.inj this
      subst e1 e2
      exact ⟨.new hT, m.new hT, .tup upd_same (.cons (.int _) (.cons (iv.mono (.refl _) (.new hT)) .nil))⟩
theorem srcJ_ent {K : PySem.W.Frag} {ρ : List Addr} {H : Hp} {xs : List A} {vs : List V} {a : Addr} (ha : H a = some (.tup vs)) (is : IsAll ρ H xs vs) : SrcJ w ρ H (.snap (pairsFrom 0 xs)) (ET.ItE K a) := by
  intro ρ2 H2 M2 i x g m
  have h2 : SqT K H2 a vs := .inl (.inl (g _ _ (.tup _) ha))
  cases e : xs[i]? with
  | none =>
    simp only [Src.at, pairsFrom_get, e, Option.map_none]
    exact ⟨vs, h2, by rw [← is.length]; exact List.getElem?_eq_none_iff.mp e⟩
  | some t =>
    simp only [Src.at, pairsFrom_get, e, Option.map_some]
    obtain ⟨v, hv, iv⟩ := is.get e
    refine ⟨⟨vs, v, h2, hv⟩, fun w H3 ⟨T, y, e1, hT, e2, hy⟩ => ?_⟩
    have := hy vs h2
    rw [hv] at this
    obtain rfl := Option.some.inj this
    subst e1 e2
    refine ⟨.new hT, m.new hT, .tup upd_same (.cons ?_ (.cons ((iv.mono x g).mono (.refl _) (.new hT)) .nil))⟩
    have : (0 + i : Nat) = i := by omega
    rw [this]
    exact .int _
theorem ai_enum {e : Expr} {fs : EFs} {p tpos : Pos} {elts : List Expr} {kk : Nat} (hm : X.mg "enumerate" = none) (ha : AA X W [e] fs) (hg : Gl X "enumerate" := by rfl) (hs : starEach [e] X.env = [(false, eval e X.env)] := by rfl) :
    AI X W (.Tuple elts kk tpos) (.Call (.Name "enumerate" p) [e] [] pos) (iEnumA fs) := ((pi_enum hg hm ha hs).or (ET.pi_enumT hg hm ha hs)).pre fun σ H R h => by
  obtain ⟨τ, M, ρ, rs, rm, r⟩ := h
  unfold iEnumA at r
  cases ef : fs τ M with
  | ok as M1 =>
    rw [ef] at r
    have r : RE (X.gx W.Tb) W σ ρ H (relJ (X.am W.Tb)) (enumOf as M1) R := r
    unfold enumOf at r
    split at r
    · refine .inr ⟨τ, M, ρ, rs, rm, ?_⟩
      rw [ef]
      intro vs H1 ρ1 x g m i
      cases i with
      | cons i1 i =>
        cases i
        cases i1 with
        | tup ht it => exact ⟨_, _, rfl, .inl (.inl ht), r.okv x g m (srcJ_ent ht it)⟩
    · rename_i l
      refine .inl ⟨τ, M, ρ, rs, rm, ?_⟩
      rw [ef]
      intro vs H1 ρ1 x g m i
      cases i with
      | cons i1 i =>
        cases i
        cases i1 with
        | lst hl =>
          split at r
          · rename_i xs el
            obtain ⟨ws, q, _⟩ := m.list hl el
            exact ⟨_, _, rfl, q, r.okv x g m (srcJ_enl hl)⟩
          · exact r.elim
    · exact r.elim
  | ex en M1 => rw [ef] at r; exact .inl ⟨τ, M, ρ, rs, rm, by rw [ef]; exact r⟩
  | bad => rw [ef] at r; exact r.elim
end
end AB
/-! AB9: dicts of nested keys; lengths of sets; three names at once -/
namespace AB
open PySem PySem.Spec PyProof.Rows L2
mutual
def nkey? : A → Option NestedKey
  | .non => some .none
  | .int i => some (.num i)
  | .str x => some (.text x)
  | .tup xs => (nkeys? xs).map .tup
  | _ => none
def nkeys? : List A → Option (List NestedKey)
  | [] => some []
  | x :: xs => match nkey? x, nkeys? xs with
    | some k, some ks => some (k :: ks)
    | _, _ => none
end
mutual
theorem nkey_of : ∀ (a : A) (k : NestedKey), nkey? a = some k → ofN k = a
  | .non, k, e => by simp only [nkey?] at e; cases e; rfl
  | .int i, k, e => by simp only [nkey?] at e; cases e; rfl
  | .str i, k, e => by simp only [nkey?] at e; cases e; rfl
  | .tup xs, k, e => by
    simp only [nkey?] at e
    cases e1 : nkeys? xs with
    | none => rw [e1] at e; cases e
    | some ks =>
      rw [e1] at e; cases e
      simp only [ofN]
      rw [nkeys_of xs ks e1]
  | .bl _, k, e => by simp only [nkey?] at e; cases e
  | .lst _, k, e => by simp only [nkey?] at e; cases e
  | .dct _, k, e => by simp only [nkey?] at e; cases e
  | .ty _, k, e => by simp only [nkey?] at e; cases e
theorem nkeys_of : ∀ (as : List A) (ks : List NestedKey), nkeys? as = some ks → ofN.ofNs ks = as
  | [], ks, e => by simp only [nkeys?] at e; cases e; rfl
  | x :: xs, ks, e => by
    simp only [nkeys?] at e
    cases e1 : nkey? x with
    | none => rw [e1] at e; cases e
    | some k =>
      cases e2 : nkeys? xs with
      | none => rw [e1, e2] at e; cases e
      | some ks' =>
        rw [e1, e2] at e; cases e
        simp only [ofN.ofNs]
        rw [nkey_of x k e1, nkeys_of xs ks' e2]
end
section
variable {P : Program} {w : World} {ρ : List Addr} {H : Hp} {h : Heap}
mutual
theorem nested_of (ok : HOk P w H h) : ∀ (k : NestedKey) (v : V) (u : Value), Is ρ H (ofN k) v → RelV v u → NestedIs h k u
  | .none, _, _, i, r => by simp only [ofN] at i; cases i; cases r; exact .none
  | .num j, _, _, i, r => by simp only [ofN] at i; cases i; obtain ⟨t, rfl⟩ := r; exact .int _ _
  | .text j, _, _, i, r => by simp only [ofN] at i; cases i; obtain ⟨t, rfl⟩ := r; exact .text _ _
  | .tup ks, _, _, i, r => by
    simp only [ofN] at i
    cases i with
    | tup hp is =>
      cases r
      obtain ⟨_, its, rv, o, h1, h2, n, h3⟩ := ok _ _ hp
      exact .tup h1 h2 h3 (nesteds_of ok ks _ _ is (by simpa using rv))
theorem nesteds_of (ok : HOk P w H h) : ∀ (ks : List NestedKey) (vs : List V) (us : List Value), IsAll ρ H (ofN.ofNs ks) vs → Vals vs us → NestedAll h ks us
  | [], _, _, i, r => by simp only [ofN.ofNs] at i; cases i; cases r; exact .nil
  | k :: ks, _, _, i, r => by
    simp only [ofN.ofNs] at i
    cases i with
    | cons i1 i2 =>
      cases r with
      | cons r1 r2 => exact .cons (nested_of ok k _ _ i1 r1) (nesteds_of ok ks _ _ i2 r2)
end
/-- the rows of such a dict -/
def rowsN : List NestedKey → List Addr → List Value → List (NestedKey × Addr × Value)
  | k :: ks, b :: bs, u :: us => (k, b, u) :: rowsN ks bs us
  | _, _, _ => []
theorem rowsN_keys : ∀ {ks : List NestedKey} {bs : List Addr} {us : List Value}, ks.length = bs.length → ks.length = us.length → (rowsN ks bs us).map (·.1) = ks
  | [], _, _, _, _ => by simp [rowsN]
  | k :: ks, [], _, h, _ => by simp at h
  | k :: ks, b :: bs, [], _, h => by simp at h
  | k :: ks, b :: bs, u :: us, h1, h2 => by simp only [rowsN, List.map_cons]; rw [rowsN_keys (by simpa using h1) (by simpa using h2)]
theorem rowsN_len {ks : List NestedKey} {bs : List Addr} {us : List Value} (h1 : ks.length = bs.length) (h2 : ks.length = us.length) : (rowsN ks bs us).length = ks.length := by
  have := congrArg List.length (rowsN_keys h1 h2)
  simpa using this
theorem rowsN_entries {prog : Program} : ∀ {ks : List NestedKey} {bs : List Addr} {us : List Value}, (((ks.zip bs).zip us).map fun p => ({ hash := p.1.1.hash w, key := .ref p.1.2, val := p.2 } : DictEntry)) = (rowsN ks bs us).map (entryOfKey (nestedKind prog w))
  | [], _, _ => by simp [rowsN]
  | k :: ks, [], _ => by simp [rowsN]
  | k :: ks, b :: bs, [] => by simp [rowsN]
  | k :: ks, b :: bs, u :: us => by
    simp only [rowsN, List.zip_cons_cons, List.map_cons]
    rw [rowsN_entries (prog := prog) (ks := ks) (bs := bs) (us := us)]
    rfl
theorem rowsN_append : ∀ {ks : List NestedKey} {bs : List Addr} {us : List Value} {k : NestedKey} {b : Addr} {u : Value}, ks.length = bs.length → ks.length = us.length → rowsN (ks ++ [k]) (bs ++ [b]) (us ++ [u]) = rowsN ks bs us ++ [(k, b, u)]
  | [], [], [], _, _, _, _, _ => by simp [rowsN]
  | [], _ :: _, _, _, _, _, h, _ => by simp at h
  | [], [], _ :: _, _, _, _, _, h => by simp at h
  | k :: ks, [], _, _, _, _, h, _ => by simp at h
  | k :: ks, b :: bs, [], _, _, _, _, h => by simp at h
  | k :: ks, b :: bs, u :: us, _, _, _, h1, h2 => by simp only [List.cons_append, rowsN]; rw [rowsN_append (by simpa using h1) (by simpa using h2)]
theorem rowsN_is (ok : HOk P w H h) : ∀ {ks : List NestedKey} {bs : List Addr} {us : List Value}, IsAll ρ H (ks.map ofN) (bs.map V.ref) → (∀ k ∈ ks, k.depth ≤ 8) → ∀ x ∈ rowsN ks bs us, (nestedKind P w).is h x.1 x.2.1
  | [], _, _, _, _, x, hx => by simp [rowsN] at hx
  | k :: ks, [], _, _, _, x, hx => by simp [rowsN] at hx
  | k :: ks, b :: bs, [], _, _, x, hx => by simp [rowsN] at hx
  | k :: ks, b :: bs, u :: us, i, d, x, hx => by
    simp only [rowsN, List.mem_cons] at hx
    cases i with
    | cons i1 i2 =>
      rcases hx with rfl | hx
      · exact ⟨nested_of ok k _ _ i1 rfl, d k List.mem_cons_self⟩
      · exact rowsN_is ok i2 (fun k' hk => d k' (List.mem_cons_of_mem _ hk)) x hx
theorem rowsN_at {k : NestedKey} : ∀ {kvs : List (NestedKey × A)} {bs : List Addr} {vs : List V} {us : List Value}, kvs.length = bs.length → IsAll ρ H (kvs.map (·.2)) vs → Vals vs us →
    (valA kvs k = none ∧ atKey (rowsN (kvs.map (·.1)) bs us) k = none) ∨ ∃ a v b u, valA kvs k = some a ∧ atKey (rowsN (kvs.map (·.1)) bs us) k = some (b, u) ∧ Is ρ H a v ∧ RelV v u
  | [], _, _, _, _, _, _ => .inl ⟨rfl, by simp [rowsN, atKey]⟩
  | (j, a) :: kvs, [], _, _, h, _, _ => by simp at h
  | (j, a) :: kvs, b :: bs, v :: vs, us0, h, .cons i is, rv => by
    obtain ⟨u, us, rfl, r, rs⟩ : ∃ u us, us0 = u :: us ∧ RelV v u ∧ Vals vs us := by
      cases rv with
      | cons r rs => exact ⟨_, _, rfl, r, rs⟩
    by_cases e : j = k
    · subst e
      exact .inr ⟨a, v, b, u, by simp [valA], by simp [rowsN, atKey], i, r⟩
    · have ih := rowsN_at (k := k) (by simpa using h) is rs
      have e1 : valA ((j, a) :: kvs) k = valA kvs k := by simp [valA, List.find?_cons, e]
      rw [e1]
      rcases ih with ⟨h1, h2⟩ | ⟨a', v', b', u', h1, h2, h3⟩
      · exact .inl ⟨h1, by simpa [rowsN, atKey, List.find?_cons, e] using h2⟩
      · exact .inr ⟨a', v', b', u', h1, by simpa [rowsN, atKey, List.find?_cons, e] using h2, h3⟩
end
section
variable {X : Cx} {W : WR} {pos : Pos} {a b e : Expr} {es : List Expr} {f g : EF} {fs : EFs}
/-- such a dict in the state -/
theorem nest_dict {pins : List (Addr × Obj)} {σ : L2.St} {H : Hp} {s : Shared} {ρ : List Addr} {M : Store} (I : L2.Inv X pins σ H s) (m : RM (X.am W.Tb) ρ H M) {d : Nat} {p : Addr} {kvs : List (NestedKey × A)} (hp : ρ[d]? = some p) (hc : M[d]? = some (.dN kvs)) :
    ∃ bs vs us, H p = some (nestO X.w p ((kvs.map (·.1)).zip bs) vs) ∧ IsAll ρ H (kvs.map fun kv => ofN kv.1) (bs.map V.ref) ∧ IsAll ρ H (kvs.map (·.2)) vs ∧ (∀ kv ∈ kvs, kv.1.depth ≤ 8) ∧ Vals vs us ∧
      kvs.length = bs.length ∧ kvs.length = us.length ∧ kvs.length ≤ sizeLine ∧ (p == sysModules) = false ∧ (kvs.map (·.1)).Nodup ∧ s.heap.DictOfH (nestedKind X.prog X.w) p (rowsN (kvs.map (·.1)) bs us) := by
  obtain ⟨bs, vs, h, ik, iv, dp⟩ := m.at_ _ _ _ hp hc
  obtain ⟨⟨hz, hd, hl, hn, us, rv, o, es, ep, ho, hx, hdt, he⟩, _, _⟩ := I.hok _ _ h
  have l1 : kvs.length = bs.length := by have := ik.length; simpa using this
  have l2 : kvs.length = vs.length := by have := iv.length; simpa using this
  have l3 : kvs.length = us.length := l2.trans rv.length
  have hk : ((kvs.map (·.1)).zip bs).map (·.1) = kvs.map (·.1) := map_zip_fst (by simpa using l1)
  refine ⟨bs, vs, us, h, ik, iv, dp, rv, l1, l3, ?_, hd, by rw [← hk]; exact hn, ?_⟩
  · have := hz; simp only [List.length_zip, List.length_map] at this; omega
  · refine ⟨o, es, ep, ho, hx, hdt, he.trans rowsN_entries, ?_, ?_⟩
    · refine rowsN_is (ρ := ρ) (H := H) I.hok (by rw [List.map_map]; exact ik) fun k hk => ?_
      obtain ⟨kv, h1, rfl⟩ := List.mem_map.mp hk
      exact dp kv h1
    · rw [rowsN_keys (by simpa using l1) (by simpa using l3), ← hk]; exact hn
def eNewN : EF := fun _ M => .ok (.dct M.length) (M ++ [.dN []])
theorem ae_newN : AE X W (.Dict [] [] pos) eNewN := ⟨fun pins s σ H Q I h => by
  obtain ⟨τ, M, ρ, rs, rm', r⟩ := h
  have hn := I.hok.fresh (Nat.le_refl s.heap.objs.size)
  have new : ObjOk X.prog X.w (upd H s.heap.objs.size (nestO X.w s.heap.objs.size [] [])) (s.heap.push { cls := .type "dict", data := .dict #[] }) s.heap.objs.size (nestO X.w s.heap.objs.size [] []) := by
    refine ⟨⟨Nat.zero_le _, beq_eq_false_iff_ne.mpr (Ne.symm (Nat.ne_of_lt I.big)), rfl, List.nodup_nil, [], .nil, _, #[], 0, Heap.get?_push_size _ rfl, ⟨rfl, rfl, rfl⟩, rfl, rfl⟩, ⟨_, Heap.get?_push_size _ rfl⟩, ?_⟩
    rintro h1 h2 ⟨q1, q2, q3, q4, us, q5, o, es, ep, q6, q7⟩ k
    exact ⟨q1, q2, q3, q4, us, q5, o, es, ep, k o q6, q7⟩
  exact wpAny_Dict_empty ⟨.ref s.heap.objs.size, _, I.laid (a := s.heap.objs.size) (t' := s.toks) (fun _ _ q => Heap.get?_push_of_some _ q) (Nat.le_refl _) new, rfl,
    r.okv (.snoc _ _) (.new hn) (rm'.push hn ⟨[], [], upd_same, .nil, .nil, fun _ z => by cases z⟩) (.dct (by rw [← rm'.len]; simp))⟩⟩
def oSetd : OM := fun x as M => match x, as with
  | .dct d, [k, y] => match M[d]? with
    | some (.dN kvs) => match nkey? k with
      | some (.tup js) => if (NestedKey.tup js).depth ≤ 8 ∧ kvs.length < sizeLine then match valA kvs (.tup js) with
          | some z => some (z, M)
          | none => some (y, M.set d (.dN (kvs ++ [(.tup js, y)])))
        else none
      | _ => none
    | _ => none
  | _, _ => none
theorem mt_setd (hu : X.A.units + 9 < cLine) : MtR X "dict.setdefault" (rm (X.am W.Tb) oSetd) := by
  intro pins s σ H x xs v us Q I rx rxs h
  obtain ⟨a, as, M, ρ, ia, is, m, ro⟩ := h
  unfold oSetd at ro
  split at ro
  · rename_i d k y
    split at ro
    · rename_i kvs ec
      split at ro
      · rename_i js ek
        split at ro
        · rename_i hz
          cases ia with
          | dct hp =>
            cases rx
            cases is with
            | @cons _ kv _ _ i1 is =>
              cases is with
              | @cons _ yv _ _ i2 is =>
                cases is
                cases rxs with
                | cons r1 rxs =>
                  cases rxs with
                  | cons r2 rxs =>
                    cases rxs
                    rename_i pa u1 u2
                    have ik : Is ρ H (ofN (.tup js)) kv := by rw [nkey_of _ _ ek]; exact i1
                    obtain ⟨kb, rfl⟩ : ∃ kb, kv = .ref kb := by simp only [ofN] at ik; cases ik with | tup h1 h2 => exact ⟨_, rfl⟩
                    cases r1
                    obtain ⟨bs, vs, us', hh, iks, ivs, dp, rv, l1, l3, hsz, hsm, hnd, D⟩ := nest_dict I m hp ec
                    have hin : Around.units X.A.in1 + 8 < cLine := by show X.A.units + 1 + 8 < cLine; omega
                    have keyIs : (nestedKind X.prog X.w).is s.heap (.tup js) kb := ⟨nested_of I.hok _ _ _ ik rfl, hz.1⟩
                    have rl : (rowsN (kvs.map (·.1)) bs us').length = kvs.length := by rw [rowsN_len (by simpa using l1) (by simpa using l3)]; simp
                    refine call_setdefault_heap (hsz := by rw [rl]; exact hsz) hin keyIs hsm D (fun p hpk => ?_) (fun hno h' D' sb => ?_)
                    · rcases rowsN_at (k := .tup js) l1 ivs rv with ⟨_, e2⟩ | ⟨z, zv, b', u', e1, e2, iz, rz⟩
                      · rw [e2] at hpk; cases hpk
                      · rw [e2] at hpk; cases hpk
                        rw [e1] at ro
                        exact ⟨zv, H, I.tok _, rz, ro.val m iz⟩
                    · rcases rowsN_at (k := .tup js) l1 ivs rv with ⟨e1, e2⟩ | ⟨z, zv, b', u', e1, e2, _⟩
                      · rw [e1] at ro
                        have hk1 : (kvs.map (·.1)).length = bs.length := by simpa using l1
                        have hv1 : (kvs.map (·.1)).length = us'.length := by simpa using l3
                        rw [storedH_new hno, ← rowsN_append hk1 hv1] at D'
                        obtain ⟨o, es, ep, ho, hx, hdt, he, _, hn2⟩ := D'
                        have zk : (kvs.map (·.1) ++ [NestedKey.tup js]).zip (bs ++ [kb]) = ((kvs ++ [(NestedKey.tup js, y)]).map (·.1)).zip (bs ++ [kb]) := by rw [List.map_append]; rfl
                        have lk : (kvs.map (·.1) ++ [NestedKey.tup js]).length = (bs ++ [kb]).length := by simp [l1]
                        have fstk : ((kvs.map (·.1) ++ [NestedKey.tup js]).zip (bs ++ [kb])).map (·.1) = kvs.map (·.1) ++ [NestedKey.tup js] := map_zip_fst lk
                        have new : ObjOk X.prog X.w (upd H pa (nestO X.w pa ((kvs.map (·.1) ++ [NestedKey.tup js]).zip (bs ++ [kb])) (vs ++ [yv]))) h' pa (nestO X.w pa ((kvs.map (·.1) ++ [NestedKey.tup js]).zip (bs ++ [kb])) (vs ++ [yv])) := by
                          refine ⟨⟨?_, hsm, ?_, ?_, us' ++ [u2], rv.append (.cons r2 .nil), o, es, ep, ho, hx, hdt, he.trans rowsN_entries.symm⟩, ⟨o, ho⟩, ?_⟩
                          · simp only [List.length_zip, List.length_append, List.length_map, List.length_singleton]; omega
                          · have := rv.length
                            simp only [List.length_zip, List.length_append, List.length_map, List.length_singleton]; omega
                          · rw [fstk]
                            rw [rowsN_keys lk (by simp [l3])] at hn2
                            exact hn2
                          · rintro h1 h2 ⟨q1, q2, q3, q4, us, q5, o, es, ep, q6, q7⟩ k
                            exact ⟨q1, q2, q3, q4, us, q5, o, es, ep, k o q6, q7⟩
                        have I2 := I.write (e := pa) (t' := s.toks + (nestedKind X.prog X.w).draws (.tup js)) (by rw [hh]; trivial) (.inl rfl) (fun b u hb hu' => (sb.2 b hb).trans hu') ⟨o, ho⟩ new
                        have g := m.growSet (o := nestO X.w pa ((kvs.map (·.1) ++ [NestedKey.tup js]).zip (bs ++ [kb])) (vs ++ [yv])) hp ec
                        refine ⟨yv, _, I2, r2, ro _ _ ρ (.refl _) g (m.set hp ec ⟨bs ++ [kb], vs ++ [yv], by rw [upd_same, zk], ?_, ?_, ?_⟩) (i2.mono (.refl _) g)⟩
                        · rw [List.map_append, List.map_append]
                          exact (iks.mono (.refl _) g).append (.cons (ik.mono (.refl _) g) .nil)
                        · rw [List.map_append]
                          exact (ivs.mono (.refl _) g).append (.cons (i2.mono (.refl _) g) .nil)
                        · intro kv hkv
                          rcases List.mem_append.mp hkv with q | q
                          · exact dp kv q
                          · simp at q; subst q; exact hz.1
                      · rw [e2] at hno; cases hno
        · exact ro.elim
      · exact ro.elim
    · exact ro.elim
  · exact ro.elim
def isN (M : Store) : A → Bool
  | .dct d => match M[d]? with
    | some (.dN _) => true
    | _ => false
  | _ => false
def eMethN (o : OM) (f : EF) (fs : EFs) : EF := fun τ M => (f τ M).bind fun a M1 => if isN M1 a = true then (fs τ M1).bind fun as M2 => toE (o a as M2) else .bad
theorem ae_methN {o : OM} {name : Str} {id : String} {apos cpos : Pos} (slot : Slot "dict" name id) (hty : typeOf (.builtin id) = pure (.type "method_descriptor")) (hm : MtR X id (rm (X.am W.Tb) o)) (ho : AE X W a f) (ha : AA X W (e :: es) fs)
    (hbase : attributeBase a name X.env (eval a X.env) = eval a X.env := by rfl)
    (hfew : ((backTo cpos (starEach (e :: es) X.env)).all (fun x => !x.1) && (backToKw cpos (keywordEach [] X.env)).all (fun x => x.1.isSome)
      && decide ((e :: es).length + ([] : List Keyword).length + (if ([] : List Keyword).isEmpty then 0 else 1) < 30)) = true := by rfl)
    (hline : (apos.endLine == cpos.line) = true := by rfl) (hs : starEach (e :: es) X.env = (false, eval e X.env) :: starEach es X.env := by rfl) (hplain : (backTo cpos (starEach es X.env)).any (·.1) = false := by rfl) :
    AE X W (.Call (.Attribute a name apos) (e :: es) [] cpos) (eMethN o f fs) := by
  refine ⟨fun pins s σ H Q I h => ?_⟩
  have h2 := seqG (G := (X.gx W.Tb)) (W := W) Is h
  refine wpAny_Call_method_late hbase hfew hline rfl (thn (ho.run pins s σ H _ I h2) fun v s1 ⟨x, H1, I1, r1, q1⟩ => ?_)
  obtain ⟨τ, M, ρ, c, rs, rm', i, r⟩ := q1
  have r : RE (X.gx W.Tb) W σ ρ H1 Is (if isN M c = true then (fs τ M).bind fun as M2 => toE (o c as M2) else .bad) Q := r
  split at r
  · rename_i hN
    have ty : s1.TypeIs v "dict" ∧ ∀ p, v = .ref p → ∃ ob, s1.heap.get? p = some ob ∧ ob.dict = none := by
      cases i with
      | dct hp =>
        simp only [isN] at hN
        split at hN
        · rename_i kvs ec
          cases r1
          obtain ⟨bs, vs, us, _, _, _, _, _, _, _, _, _, _, o', es, ep, h1, hx, _⟩ := nest_dict I1 rm' hp ec
          exact ⟨⟨o', h1, hx.1⟩, fun p ep => by cases ep; exact ⟨o', h1, hx.2.1⟩⟩
        · cases hN
      | _ => simp only [isN] at hN; cases hN
    refine ⟨"dict", id, PySem.F.plainAttrs_dict, slot, hty, ty.1, ty.2, ?_⟩
    have hA := ha.run cpos pins s1 σ H1 (fun xs H2 => (rm (X.am W.Tb) o) x xs H2 Q) I1 ⟨τ, M, ρ, rs, rm', by
      cases e2 : fs τ M with
      | ok as M2 =>
        rw [e2] at r
        intro vs H2 ρ2 x2 g m is
        have r := RE.mono r x2 g
        exact ⟨c, as, M2, ρ2, i.mono x2 g, is, m, RO.of r⟩
      | ex en M2 => rw [e2] at r; exact r
      | bad => rw [e2] at r; exact r⟩
    rw [hs] at hA ⊢
    refine Calls.callWith_builtin (by show (false || (backTo cpos (starEach es X.env)).any (·.1)) = false; rw [hplain] <;> rfl) (Calls.evalArgs_plain ?_)
    exact thn hA fun us s2 ⟨vs, H2, I2, r2, q2⟩ => hm pins s2 σ H2 x vs v us Q I2 r1 r2 q2
  · exact r.elim
theorem ae_setd {e2 : Expr} {apos cpos : Pos} (hu : X.A.units + 9 < cLine) (ho : AE X W a f) (ha : AA X W [e, e2] fs) (hbase : attributeBase a "setdefault" X.env (eval a X.env) = eval a X.env := by rfl)
    (hfew : ((backTo cpos (starEach [e, e2] X.env)).all (fun x => !x.1) && (backToKw cpos (keywordEach [] X.env)).all (fun x => x.1.isSome)
      && decide ([e, e2].length + ([] : List Keyword).length + (if ([] : List Keyword).isEmpty then 0 else 1) < 30)) = true := by rfl)
    (hline : (apos.endLine == cpos.line) = true := by rfl) (hs : starEach [e, e2] X.env = (false, eval e X.env) :: starEach [e2] X.env := by rfl) (hplain : (backTo cpos (starEach [e2] X.env)).any (·.1) = false := by rfl) :
    AE X W (.Call (.Attribute a "setdefault" apos) [e, e2] [] cpos) (eMethN oSetd f fs) := ae_methN PySem.F.slot_dict_setdefault PySem.F.type_dict_setdefault (mt_setd hu) ho ha hbase hfew hline hs hplain
/-- len, of such dicts too -/
def oLenN : On := fun as M => match as with
  | [.dct d] => match M[d]? with
    | some (.dN kvs) => some (.int (kvs.length : Nat), M)
    | _ => oLen as M
  | _ => oLen as M
theorem cr_lenN : CallR X (.builtin "len") (rn (X.am W.Tb) oLenN) := by
  intro pins s σ H xs us Q I r h
  obtain ⟨as, M, ρ, is, m, ro⟩ := h
  unfold oLenN at ro
  split at ro
  · rename_i d
    split at ro
    · rename_i kvs ec
      cases is with
      | cons i1 is =>
        cases is
        cases i1 with
        | dct hp =>
          obtain ⟨u, rfl, rx⟩ := vals1 r
          obtain rfl : u = .ref _ := rx
          obtain ⟨bs, vs, us', hh, iks, ivs, dp, rv, l1, l3, hsz, hsm, hnd, D⟩ := nest_dict I m hp ec
          have rl : (rowsN (kvs.map (·.1)) bs us').length = kvs.length := by rw [rowsN_len (by simpa using l1) (by simpa using l3)]; simp
          refine call_len_dictH hsm D (by rw [rl]; rw [sizeLine_eq] at hsz; omega) ?_
          rw [rl]
          exact ⟨.int (kvs.length : Nat), H, I.tok _, ⟨_, rfl⟩, ro.val m (.int _)⟩
    · exact cr_len pins s σ H xs us Q I r ⟨_, M, ρ, is, m, ro⟩
  · exact cr_len pins s σ H xs us Q I r ⟨_, M, ρ, is, m, ro⟩
end
end AB
/-! AB10: sorted -/
namespace SX
open PySem PySem.Spec PyProof.Rows
/-- the order of tuples of ints -/
def ltL : List Int → List Int → Bool
  | [], [] => false
  | [], _ :: _ => true
  | _ :: _, [] => false
  | x :: xs, y :: ys => if x = y then ltL xs ys else decide (x < y)
theorem ltL_asym : ∀ {xs ys : List Int}, ltL xs ys = true → ltL ys xs = false
  | [], [], h => by simp [ltL] at h
  | [], _ :: _, _ => rfl
  | _ :: _, [], h => by simp [ltL] at h
  | x :: xs, y :: ys, h => by
    unfold ltL at h ⊢
    by_cases e : x = y
    · rw [if_pos e] at h; rw [if_pos e.symm]; exact ltL_asym h
    · rw [if_neg e] at h; rw [if_neg (Ne.symm e)]
      have := of_decide_eq_true h
      exact decide_eq_false (by omega)
theorem ltL_ntr : ∀ {xs ys zs : List Int}, ltL xs ys = false → ltL ys zs = false → ltL xs zs = false
  | [], [], [], _, _ => rfl
  | [], [], _ :: _, _, h => by simp [ltL] at h
  | [], _ :: _, _, h, _ => by simp [ltL] at h
  | _ :: _, _, [], _, _ => by simp [ltL]
  | _ :: _, [], _ :: _, _, h => by simp [ltL] at h
  | x :: xs, y :: ys, z :: zs, h1, h2 => by
    unfold ltL at h1 h2 ⊢
    by_cases e1 : x = y
    · rw [if_pos e1] at h1
      by_cases e2 : y = z
      · rw [if_pos e2] at h2; rw [if_pos (e1.trans e2)]; exact ltL_ntr h1 h2
      · rw [if_neg e2] at h2; rw [if_neg (fun q => e2 (e1.symm.trans q))]
        have := of_decide_eq_false h2
        exact decide_eq_false (by omega)
    · rw [if_neg e1] at h1
      have a := of_decide_eq_false h1
      by_cases e2 : y = z
      · rw [if_pos e2] at h2; rw [if_neg (fun q => e1 (q.trans e2.symm))]
        exact decide_eq_false (by omega)
      · rw [if_neg e2] at h2
        have b := of_decide_eq_false h2
        by_cases e3 : x = z
        · omega
        · rw [if_neg e3]; exact decide_eq_false (by omega)
theorem ltL_anti : ∀ {xs ys : List Int}, ltL xs ys = false → ltL ys xs = false → xs = ys
  | [], [], _, _ => rfl
  | [], _ :: _, h, _ => by simp [ltL] at h
  | _ :: _, [], _, h => by simp [ltL] at h
  | x :: xs, y :: ys, h1, h2 => by
    unfold ltL at h1 h2
    by_cases e : x = y
    · rw [if_pos e] at h1; rw [if_pos e.symm] at h2
      rw [e, ltL_anti h1 h2]
    · rw [if_neg e] at h1; rw [if_neg (Ne.symm e)] at h2
      have a := of_decide_eq_false h1
      have b := of_decide_eq_false h2
      omega
theorem swo_L (k : Value → List Int) : SrtO.Swo fun v u => ltL (k v) (k u) := ⟨fun _ _ h => ltL_asym h, fun _ _ _ h1 h2 => ltL_ntr h2 h1⟩
theorem ltL_yes {x y : Int} {xs ys : List Int} (e : x = y) : ltL (x :: xs) (y :: ys) = ltL xs ys := by
  conv => lhs; unfold ltL
  rw [if_pos e]
theorem ltL_no {x y : Int} {xs ys : List Int} (e : ¬ x = y) : ltL (x :: xs) (y :: ys) = decide (x < y) := by
  conv => lhs; unfold ltL
  rw [if_neg e]
section
variable {prog : Program} {w : World} {A : Around} {E : Value → Shared → Prop} {s : Shared}
/-- a tuple of ints -/
def IsTI (h : Heap) (v : Value) (ns : List Int) : Prop := ∃ a o xs n, v = .ref a ∧ h.get? a = some o ∧ o.cls = .type "tuple" ∧ o.data = .seq xs n ∧ IntsAre xs.toList ns
theorem IsTI.keeps {h h' : Heap} {v : Value} {ns : List Int} (x : IsTI h v ns) (k : ∀ b o, h.get? b = some o → o.cls = .type "tuple" → h'.get? b = some o) : IsTI h' v ns := by
  obtain ⟨a, o, xs, n, e, ho, hc, hd, i⟩ := x
  exact ⟨a, o, xs, n, e, k a o ho hc, hc, hd, i⟩
theorem lex_ints (b : Bool) : ∀ {xs ys : List Value} {ns ms : List Int} (i : Nat) (fin : Bool), IntsAre xs ns → IntsAre ys ms → (fin = decide (xs.length < ys.length)) →
    PySem.W.KatLex prog w A b fin (fun r s' => s' = s ∧ r = ltL ns ms) (xs.zip ys) i s
  | _, _, _, _, _, _, .nil, .nil, e => by
    subst e; exact PySem.W.kat_nil ⟨rfl, rfl⟩
  | _, _, _, _, _, _, .nil, .cons _ _ _, e => by
    subst e; exact PySem.W.kat_nil ⟨rfl, rfl⟩
  | _, _, _, _, _, _, .cons _ _ _, .nil, e => by
    subst e; exact PySem.W.kat_nil ⟨rfl, rfl⟩
  | _, _, _, _, i, fin, .cons x t r1, .cons y u r2, e => by
    refine PySem.W.kat_cons (SeqAt.EqAt.int_int x t y u prog w _ _ ?_)
    refine PySem.W.kat_go (fun e1 => ?_) (fun e1 => ?_)
    · have ex : x = y := by simpa using e1
      refine PySem.W.kat_yes ?_
      rw [ltL_yes ex]
      exact lex_ints b (i + 1) fin r1 r2 (by rw [e]; simp)
    · have ex : ¬ x = y := by simpa using e1
      rw [ltL_no ex]
      refine PySem.W.kat_no ?_
      cases hb : (b && i == 0) with
      | true => exact oneLt_int ⟨rfl, rfl⟩
      | false => exact PySem.W.kat_one _ _ (PyProof.Rows.lt_int (show s = s ∧ decide (x < y) = decide (x < y) from ⟨rfl, rfl⟩))
theorem ti_cmp {vs : List Value} {k : Value → List Int} (hp : ∀ v ∈ vs, IsTI s.heap v (k v)) : SrtO.Cmp prog w A s (tuples' true) (fun p => p.1 ∈ vs) (SrtO.lt2 fun v u => ltL (k v) (k u)) := by
  intro p q hm hm'
  show wpAny (model prog w) A (keyLt' (tuples' true) p.1 q.1) (fun r s' => s' = s ∧ r = ltL (k p.1) (k q.1)) (fun _ _ => False) s
  obtain ⟨a, o, xs, n, e, ho, hc, hd, i1⟩ := hp _ hm
  obtain ⟨a', o', xs', n', e', ho', hc', hd', i2⟩ := hp _ hm'
  generalize k p.1 = ns at i1 ⊢
  generalize k q.1 = ms at i2 ⊢
  rw [e, e']
  exact PySem.W.kat_lt ho hd ho' hd' (lex_ints true 0 _ i1 i2 (by simp))
theorem ti_firsts {k : Value → List Int} : ∀ {vs : List Value} {h : Heap}, (∀ v ∈ vs, IsTI h v (k v) ∧ k v ≠ []) → ∃ fs, PySem.W.KatTups h vs fs ∧ fs.length = vs.length ∧ ∀ f ∈ fs, ∃ x t, f = Value.int x t
  | [], h, _ => ⟨[], .nil, rfl, fun _ z => by cases z⟩
  | v :: vs, h, hp => by
    obtain ⟨fs, h1, h2, h3⟩ := ti_firsts (vs := vs) fun u hu => hp u (List.mem_cons_of_mem _ hu)
    obtain ⟨⟨a, o, xs, n, e, ho, hc, hd, i⟩, hne⟩ := hp v List.mem_cons_self
    subst e
    generalize k (.ref a) = ns at i hne
    cases hxs : xs.toList with
    | nil => rw [hxs] at i; cases i; exact absurd rfl hne
    | cons f r =>
      rw [hxs] at i
      cases i with
      | cons x t i =>
        refine ⟨Value.int x t :: fs, .cons ho hc hd (by rw [← Array.getElem?_toList, hxs]; rfl) h1, by simp [h2], fun g hg => ?_⟩
        rcases List.mem_cons.mp hg with rfl | hg
        · exact ⟨x, t, rfl⟩
        · exact h3 g hg
theorem ti_sortable {a : Addr} {vs : List Value} {k : Value → List Int} (h0 : 0 < vs.length) (hp : ∀ v ∈ vs, IsTI s.heap v (k v) ∧ k v ≠ []) (ha : ∀ o, s.heap.get? a = some o → o.cls ≠ .type "tuple") : SrtO.SortableO prog w A s a vs fun v u => ltL (k v) (k u) := by
  intro h' keep
  have hp' : ∀ v ∈ vs, IsTI h' v (k v) ∧ k v ≠ [] := fun v hm => ⟨(hp v hm).1.keeps fun b o e c => keep b o (fun z => by subst z; exact ha o e c) e, (hp v hm).2⟩
  obtain ⟨fs, h1, h2, h3⟩ := ti_firsts hp'
  refine ⟨tuples' true, fun Q E hq => ?_, ti_cmp fun v hm => (hp' v hm).1⟩
  refine PySem.W.kat_kind (T := .type "int") h1 (by omega) (fun f hm => ?_) (by rfl) ?_
  · obtain ⟨x, t, rfl⟩ := h3 f hm
    exact PySem.W.Looks.now
  · have e : (Value.type "int" != Value.type "tuple") = true := by first | decide +kernel | rfl | decide
    rw [e]
    exact hq
end
/-- put into a rising list -/
def ins (x : List Int) : List (List Int) → List (List Int)
  | [] => [x]
  | y :: ys => if ltL y x = true then y :: ins x ys else x :: y :: ys
def sortL : List (List Int) → List (List Int)
  | [] => []
  | x :: xs => ins x (sortL xs)
theorem ins_perm (x : List Int) : ∀ ys, (ins x ys).Perm (x :: ys)
  | [] => .refl _
  | y :: ys => by
    unfold ins
    split
    · exact ((ins_perm x ys).cons y).trans (.swap x y ys)
    · exact .refl _
theorem sortL_perm : ∀ xs, (sortL xs).Perm xs
  | [] => .refl _
  | x :: xs => (ins_perm x _).trans ((sortL_perm xs).cons x)
def Up (l : List (List Int)) : Prop := l.Pairwise fun a b => ltL b a = false
theorem ins_up (x : List Int) : ∀ {ys}, Up ys → Up (ins x ys)
  | [], _ => List.pairwise_singleton _ _
  | y :: ys, h => by
    unfold ins
    obtain ⟨h1, h2⟩ := List.pairwise_cons.mp h
    split
    · rename_i e
      refine List.pairwise_cons.mpr ⟨fun z hz => ?_, ins_up x h2⟩
      rcases List.mem_cons.mp ((ins_perm x ys).mem_iff.mp hz) with rfl | hz
      · exact ltL_asym e
      · exact h1 z hz
    · rename_i e
      have e : ltL y x = false := by simpa using e
      refine List.pairwise_cons.mpr ⟨fun z hz => ?_, h⟩
      rcases List.mem_cons.mp hz with rfl | hz
      · exact e
      · exact ltL_ntr (h1 z hz) e
theorem sortL_up : ∀ xs, Up (sortL xs)
  | [] => .nil
  | x :: xs => ins_up x (sortL_up xs)
theorem up_unique : ∀ {xs ys : List (List Int)}, Up xs → Up ys → xs.Perm ys → xs = ys
  | [], ys, _, _, p => (List.Perm.nil_eq p)
  | x :: xs, [], _, _, p => by have := p.length_eq; simp at this
  | x :: xs, y :: ys, h1, h2, p => by
    obtain ⟨a1, a2⟩ := List.pairwise_cons.mp h1
    obtain ⟨b1, b2⟩ := List.pairwise_cons.mp h2
    have e : x = y := by
      have mx : x ∈ y :: ys := p.mem_iff.mp List.mem_cons_self
      have my : y ∈ x :: xs := p.mem_iff.mpr List.mem_cons_self
      rcases List.mem_cons.mp mx with e | mx
      · exact e
      · rcases List.mem_cons.mp my with e | my
        · exact e.symm
        · exact ltL_anti (b1 x mx) (a1 y my) |>.symm ▸ rfl
    subst e
    rw [up_unique a2 b2 (List.Perm.cons_inv p)]
end SX
namespace AB
open PySem PySem.Spec PyProof.Rows L2
def ints? : List A → Option (List Int)
  | [] => some []
  | .int i :: r => (ints? r).map (i :: ·)
  | _ :: _ => none
theorem ints_of : ∀ {as : List A} {is : List Int}, ints? as = some is → as = is.map A.int
  | [], _, e => by cases e; rfl
  | a :: as, is, e => by
    cases a with
    | int i =>
      simp only [ints?] at e
      cases e1 : ints? as with
      | none => rw [e1] at e; cases e
      | some r => rw [e1] at e; cases e; rw [ints_of e1]; rfl
    | _ => simp only [ints?] at e; cases e
theorem ints_map (is : List Int) : ints? (is.map A.int) = some is := by
  induction is with
  | nil => rfl
  | cons i is ih => simp only [List.map_cons, ints?, ih]; rfl
def tups? : List A → Option (List (List Int))
  | [] => some []
  | .tup xs :: r => match ints? xs, tups? r with
    | some (i :: is), some q => some ((i :: is) :: q)
    | _, _ => none
  | _ :: _ => none
def tupI (ns : List Int) : A := .tup (ns.map A.int)
theorem tups_of : ∀ {as : List A} {q : List (List Int)}, tups? as = some q → as = q.map tupI ∧ ∀ x ∈ q, x ≠ []
  | [], _, e => by cases e; exact ⟨rfl, fun _ z => by cases z⟩
  | a :: as, q, e => by
    cases a with
    | tup xs =>
      simp only [tups?] at e
      split at e
      · rename_i i is q' e1 e2
        cases e
        obtain ⟨h1, h2⟩ := tups_of e2
        refine ⟨by rw [h1, ints_of e1]; rfl, fun x hx => ?_⟩
        rcases List.mem_cons.mp hx with rfl | hx
        · simp
        · exact h2 x hx
      · cases e
    | _ => simp only [tups?] at e; cases e
/-- sorted: whole numbers, or tuples of them -/
def oSorted : On := fun as M => match as with
  | [.lst l] => match listAt M l with
    | some xs => match tups? xs with
      | some q => some (.lst M.length, M ++ [.lst ((SX.sortL q).map tupI)])
      | none => none
    | none => none
  | _ => none
/-- the ints that a tracked tuple holds -/
def kOf (H : Hp) : Value → List Int
  | .ref a => match H a with
    | some (.tup vs) => vs.filterMap fun v => match v with
      | .int i => some i
      | _ => none
    | _ => []
  | _ => []
theorem kOf_tup {H : Hp} {a : Addr} {ns : List Int} (h : H a = some (.tup (ns.map V.int))) : kOf H (.ref a) = ns := by
  unfold kOf
  simp only [h]
  clear h
  induction ns with
  | nil => rfl
  | cons n ns ih => simp [ih]
theorem tupI_is {ρ : List Addr} {H : Hp} {ns : List Int} {v : V} (i : Is ρ H (tupI ns) v) : ∃ a, v = .ref a ∧ H a = some (.tup (ns.map V.int)) := by
  cases i with
  | tup h is => rw [IsAll.ints is] at h; exact ⟨_, rfl, h⟩
theorem is_tupI {ρ : List Addr} {H : Hp} {ns : List Int} {a : Addr} (h : H a = some (.tup (ns.map V.int))) : Is ρ H (tupI ns) (.ref a) := by
  refine .tup h ?_
  clear h
  induction ns with
  | nil => exact .nil
  | cons n ns ih => exact .cons (.int n) ih
section
variable {X : Cx}
theorem cr_sortedTI : CallR X (.builtin "sorted") (rn (X.am Tb) oSorted) := by
  intro pins s σ H xs us Q I r h
  obtain ⟨as, M, ρ, is, m, ro⟩ := h
  unfold oSorted at ro
  split at ro
  · rename_i l
    cases is with
    | cons i1 is =>
      cases is
      cases i1 with
      | lst hl =>
        split at ro
        · rename_i ys el
          split at ro
          · rename_i q eq
            obtain ⟨rfl, hne⟩ := tups_of eq
            obtain ⟨vs, hs, iv⟩ := m.list hl el
            obtain ⟨its, rv, hL, hz⟩ := I.list hs
            rw [Vals.ref1 r]
            -- each item is a reference to a tuple of ints
            have items : ∀ (q : List (List Int)) (vs : List V) (its : List Value), IsAll ρ H (q.map tupI) vs → Vals vs its → (∀ x ∈ q, x ≠ []) → (∀ u ∈ its, SX.IsTI s.heap u (kOf H u) ∧ kOf H u ≠ []) ∧ its.map (kOf H) = q ∧ ∀ u ∈ its, ∃ a, u = .ref a ∧ H a = some (.tup ((kOf H u).map V.int)) := by
              intro q
              induction q with
              | nil => intro vs its i r _; cases i; cases r; exact ⟨fun _ z => (by cases z), rfl, fun _ z => (by cases z)⟩
              | cons n q ih =>
                intro vs its i r hne
                cases i with
                | cons i1 i2 =>
                  cases r with
                  | cons r1 r2 =>
                    obtain ⟨a1, a2, a3⟩ := ih _ _ i2 r2 fun x hx => hne x (List.mem_cons_of_mem _ hx)
                    obtain ⟨a, rfl, ha⟩ := tupI_is i1
                    cases r1
                    have ek := kOf_tup ha
                    obtain ⟨_, tv, trv, o, h1, h2, nn, h3⟩ := I.hok _ _ ha
                    have ti : SX.IsTI s.heap (.ref a) (kOf H (.ref a)) := by
                      rw [ek]
                      exact ⟨a, o, tv.toArray, nn, rfl, h1, h2, h3, by simpa using intsAre_of trv⟩
                    refine ⟨fun u hu => ?_, by simp [ek, a2], fun u hu => ?_⟩
                    · rcases List.mem_cons.mp hu with rfl | hu
                      · exact ⟨ti, by rw [ek]; exact hne n List.mem_cons_self⟩
                      · exact a1 u hu
                    · rcases List.mem_cons.mp hu with rfl | hu
                      · exact ⟨a, rfl, by rw [ek]; exact ha⟩
                      · exact a3 u hu
            obtain ⟨hp, hk, hr⟩ := items q vs its iv rv hne
            refine SrtO.sorted_ord (SX.swo_L (kOf H)) hL.isList (by rw [← rv.length]; exact hz) (fun h2 h₁ a' ha kk => ?_) fun out h1 h2 => ?_
            · refine SX.ti_sortable (s := { s with heap := h₁ }) (by omega) (fun v hm => ⟨(hp v hm).1.keeps fun b o e _ => (kk b o e).2, (hp v hm).2⟩) fun o e => ?_
              have e' : some o = some (seqObj "list" its.toArray 0) := e.symm.trans ha
              cases e'
              intro c
              exact absurd (Value.type.inj c) (by decide)
            · obtain ⟨ep, he'⟩ := PyProof.Rows.sortedAll_at s.heap its out.toArray
              -- what comes out: the same references in order
              have mem : ∀ u ∈ out, ∃ a, u = .ref a ∧ H a = some (.tup ((kOf H u).map V.int)) := fun u hu => hr u (h2.perm.mem_iff.mp hu)
              have outs : ∀ (l : List Value), (∀ u ∈ l, ∃ a, u = .ref a ∧ H a = some (.tup ((kOf H u).map V.int))) → ∃ vs : List V, Vals vs l ∧ IsAll ρ H ((l.map (kOf H)).map tupI) vs := by
                intro l
                induction l with
                | nil => intro _; exact ⟨[], .nil, .nil⟩
                | cons u l ih =>
                  intro hm
                  obtain ⟨vs, v1, v2⟩ := ih fun x hx => hm x (List.mem_cons_of_mem _ hx)
                  obtain ⟨a, rfl, ha⟩ := hm u List.mem_cons_self
                  exact ⟨.ref a :: vs, .cons rfl v1, .cons (is_tupI ha) v2⟩
              obtain ⟨ws, w1, w2⟩ := outs out mem
              have esort : out.map (kOf H) = SX.sortL q := by
                refine SX.up_unique ?_ (SX.sortL_up q) ?_
                · exact List.pairwise_map.mpr h1
                · have := h2.perm.map (kOf H)
                  rw [hk] at this
                  exact this.trans (SX.sortL_perm q).symm
              rw [esort] at w2
              have hlen : ws.length ≤ sizeLine := by
                rw [w1.length, h2.perm.length_eq, ← rv.length]; exact hz
              have hnew : H (s.heap.objs.size + 1) = none := I.hok.fresh (Nat.le_succ _)
              exact ⟨.ref _, upd H (s.heap.objs.size + 1) (.lst ws), I.laid (t' := s.toks) (fun _ _ => PyProof.Rows.sortedAll_old) (Nat.le_succ _) ⟨hlen, out, ep, w1, he'⟩, rfl, ro.newL m w2 hnew⟩
          · exact ro.elim
        · exact ro.elim
  · exact ro.elim
end
end AB
/-! AB11: lengths of sets; several targets; displays of one pair -/
namespace AB
open PySem PySem.Spec PyProof.Rows L2
section
variable {X : Cx} {W : WR} {pos : Pos} {a b c e : Expr} {f g : EF} {fs : EFs}
/-! ### len(set(xs)) -/
def dedup (is : List Int) : List Int := is.foldl step_dedup []
theorem firstMet_all (ns : List Int) : PyProof.Rows.firstMet (fun i => ns.getD i 0) ns.length = dedup ns := by
  unfold PyProof.Rows.firstMet dedup
  congr 1
  apply List.ext_getElem
  · simp
  · intro i h1 h2
    simp [List.getElem_map, List.getD_eq_getElem?_getD, List.getElem?_eq_getElem h2]
def oLenSet : O1 := fun x M => match x with
  | .lst l => match listAt M l with
    | some xs => match ints? xs with
      | some is => if is.length ≤ 4000 then some (.int ((dedup is).length : Nat), M) else none
      | none => none
    | none => none
  | _ => none
theorem ae_lenSet {p p2 q : Pos} (hm : X.mg "len" = none) (hm2 : X.mg "set" = none) (ha : AE X W a f) (hc : X.calm = true := by rfl) (hg : Gl X "len" := by rfl) (hg2 : Gl X "set" := by rfl)
    (na : starEach [a] X.env = (false, eval a X.env) :: starEach [] X.env := by rfl) : AE X W (.Call (.Name "len" p) [.Call (.Name "set" p2) [a] [] q] [] pos) (eUn oLenSet f) := by
  refine ⟨fun pins s σ H Q I h => ?_⟩
  have h2 := seqG (G := (X.gx W.Tb)) (W := W) Is h
  refine Call_ (ld_blt I hg hm boot_len ?_)
  refine PyProof.Rows.callWith_builtin1 (PyProof.Rows.args_cons ?_ rfl) rfl rfl
  refine Call_ (ld_blt I hg2 hm2 boot_set ?_)
  refine PyProof.Rows.callWith_type1 (PyProof.Rows.args_cons (thn (ha.run pins s σ H _ I h2) fun v s1 ⟨x, H1, I1, r1, q1⟩ => PyProof.Rows.args_nil ?_) na) na rfl
  obtain ⟨τ, M, ρ, y, rs, rm', i, r⟩ := q1
  have ro : RO (X.am W.Tb) ρ H1 (oLenSet y M) Q := RO.of r
  unfold oLenSet at ro
  cases i with
  | lst hl =>
    dsimp only at ro
    split at ro
    · rename_i xs el
      split at ro
      · rename_i is ei
        split at ro
        · rename_i hz4
          obtain ⟨vs, hq, iv⟩ := rm'.list hl el
          rw [ints_of ei] at iv
          rw [iv.ints] at hq
          cases r1
          obtain ⟨its, r, pl, hz⟩ := I1.list hq
          have hlen : its.toArray.size = is.length := by rw [List.size_toArray, ← r.length, List.length_map]
          refine call_set_list (ns := is) (I1.ok.hd hc) pl.isList (by simpa using intsAre_of r) (by rw [hlen]; unfold scanBound; omega) fun h' tk hS hk => ?_
          refine PyProof.Rows.args_nil ?_
          rw [hlen, firstMet_all] at hS
          obtain ⟨o, es, ep, t, ho, hex, hd, _, _, _, hf, hn⟩ := hS
          have I2 : L2.Inv X pins σ H1 { s1 with heap := h', toks := tk } := I1.kept fun b o e => hk b o (Heap.lt_size e) e
          have hdl : (dedup is).length ≤ is.length := by rw [← firstMet_all]; exact PyProof.Rows.firstMet_length_le _ _
          exact call_len_set ho hex hd hf (by rw [hn] <;> omega) ⟨.int (dedup is).length, H1, I2.tok _, ⟨_, by rw [hn]⟩, ro.val rm' (.int _)⟩
        · exact ro.elim
      · exact ro.elim
    · exact ro.elim
  | _ => exact ro.elim
/-! ### a, b, c = x, y, z -/
def sPar3 (i j l : Nat) (f : EFs) : SF := fun τ M => (f τ M).bindS τ fun as M1 => match as with
  | [a, b, c] => .nx (((τ.set i (some a)).set j (some b)).set l (some c)) M1
  | _ => .bad
theorem as_par3 (i j l : Nat) {x y z : Str} {px py pz pt : Pos} {kt k2 pt2} (hc : X.calm = true) (hN : X.N.Nodup) (ha : AA X W [a, b, c] fs) (hi : X.N[i]? = some x := by rfl) (hj : X.N[j]? = some y := by rfl) (hl : X.N[l]? = some z := by rfl) (hij : i ≠ j := by decide) (hil : i ≠ l := by decide) (hjl : j ≠ l := by decide)
    (hx : X.env.scope.names.lookup x = some .local := by rfl) (hy : X.env.scope.names.lookup y = some .local := by rfl) (hz : X.env.scope.names.lookup z = some .local := by rfl)
    (hw : swappedStores [.Tuple [.Name x px, .Name y py, .Name z pz] kt pt] (.Tuple [a, b, c] k2 pt2) X.env = pure (some [x, y, z]) := by rfl)
    (hs : swapsWithSole [.Tuple [.Name x px, .Name y py, .Name z pz] kt pt] (.Tuple [a, b, c] k2 pt2) pos.line X.env = pure false := by rfl) :
    AS X W (.Assign [.Tuple [.Name x px, .Name y py, .Name z pz] kt pt] (.Tuple [a, b, c] k2 pt2) pos) (sPar3 i j l fs) := (ps_par3 hc hN hi hj hl hij hil hjl hx hy hz ha hw hs).pre fun D σ H h => (bindS_tK IsAll h).imp fun b H1 h1 => by
  obtain ⟨τ, M, ρ, as, rs, rm, i, r⟩ := h1
  cases i with
  | nil => exact r.elim
  | cons i1 i =>
    cases i with
    | nil => exact r.elim
    | cons i2 i =>
      cases i with
      | nil => exact r.elim
      | cons i3 i =>
        cases i with
        | nil => exact ⟨_, _, _, rfl, r _ _ ρ (.refl _) (.refl _) rm (((rs.set i1 _).set i2 _).set i3 _)⟩
        | cons _ _ => exact r.elim
/-! ### d[k], x = y, z -/
def tDset : TSet := fun o i v H Q => ∃ p H', o = .ref p ∧ DPut H p i v H' ∧ Q H'
theorem set_dct (hu : X.A.units + 1 < cLine) : PSet X tDset := by
  intro pins s σ H o i v ov iv u Q I ro ri rv h
  obtain ⟨p, H', rfl, dp, q⟩ := h
  cases ro
  exact d_setItem hu I dp ri rv fun s' I' => ⟨H', I', q⟩
def dputS (τ1 : Sl) (v d k : A) (M : Store) : SO := match d with
  | .dct l => match dPut M l k v with
    | some M4 => .nx τ1 M4
    | none => .bad
  | _ => .bad
def mixS (fd fk : EF) (j : Nat) (τ : Sl) (as : List A) (M1 : Store) : SO := match as with
  | [v, y] => (fd τ M1).bindS τ fun d M2 => (fk τ M2).bindS τ (dputS (τ.set j (some y)) v d)
  | _ => .bad
def sMix (fd fk : EF) (j : Nat) (fs : EFs) : SF := fun τ M => (fs τ M).bindS τ (mixS fd fk j τ)
theorem as_mix (j : Nat) {o i : Expr} {x : Str} {ps px pt : Pos} {kt k2 pt2} {fd fk : EF} (hu : X.A.units + 1 < cLine) (hc : X.calm = true) (hN : X.N.Nodup) (ho : AE X W o fd) (hk : AE X W i fk) (ha : AA X W [a, b] fs) (hj : X.N[j]? = some x := by rfl) (hx : Loc X.env.scope x := by first | exact Or.inl rfl | exact Or.inr rfl)
    (hs : swapsWithSole [.Tuple [.Subscript o i ps, .Name x px] kt pt] (.Tuple [a, b] k2 pt2) pos.line X.env = pure false := by rfl) (hw : swappedStores [.Tuple [.Subscript o i ps, .Name x px] kt pt] (.Tuple [a, b] k2 pt2) X.env = pure none := by rfl)
    (h1 : (assignEach [.Tuple [.Subscript o i ps, .Name x px] kt pt] X.env).map (·.2) = [assign (.Tuple [.Subscript o i ps, .Name x px] kt pt) X.env] := by rfl)
    (hn : (assignEach [.Subscript o i ps, .Name x px] X.env).length = 2 := by rfl) (hst : (assignEach [.Subscript o i ps, .Name x px] X.env).findIdx? (·.1) = none := by rfl)
    (hc1 : (assignEach [.Subscript o i ps, .Name x px] X.env).map (·.2) = assign (.Subscript o i ps) X.env :: (assignEach [.Name x px] X.env).map (·.2) := by rfl) (hc2 : (assignEach [.Name x px] X.env).map (·.2) = assign (.Name x px) X.env :: (assignEach [] X.env).map (·.2) := by rfl)
    (hf : X.fn x = true ∨ X.env.scope.names.lookup x = some .local := by first | exact .inl rfl | exact .inr rfl | assumption)
    (hsub : ∀ v, assign (.Subscript o i ps) X.env v = (do
      let ov ← holding [v] (eval o X.env)
      let iv ← holding [v, ov] (eval i X.env)
      standAt ps
      holding [v, ov, iv] (setItem ov iv v)
      release [v, ov, iv] []) := by intro _; rfl) :
    AS X W (.Assign [.Tuple [.Subscript o i ps, .Name x px] kt pt] (.Tuple [a, b] k2 pt2) pos) (sMix fd fk j fs) :=
  (ps_asg (pe_tup ha) (pg_tup (n := 2) hc (pgs_cons (pg_sub ho hk (set_dct hu) hsub) (pgs_cons (pg_name hN hj hx hf) pgs_nil hc2) hc1) hn hst) hs hw h1).pre fun D σ H h => (bindS_tK IsAll h).imp fun vs H1 h1 => by
  obtain ⟨τ, M, ρ, as, rs, rm, is, r⟩ := h1
  cases is with
  | nil => exact r.elim
  | @cons av v _ _ i1 is =>
    cases is with
    | nil => exact r.elim
    | @cons ay y _ _ i2 is =>
      cases is with
      | cons _ _ => exact r.elim
      | nil =>
        refine ⟨by show 2 ≤ sizeLine; decide, fun p hp => ⟨p, _, rfl, .inl (.inl upd_same), rfl, v, [y], rfl, ?_⟩⟩
        have gp : Grow H1 (upd H1 p (.tup [v, y])) := .new hp
        have r : RSO (X.gx W.Tb) W D ρ H1 ((fd τ M).bindS τ fun d M2 => (fk τ M2).bindS τ (dputS (τ.set j (some ay)) av d)) := r
        have r := RSO.mono r (.refl _) gp
        refine ⟨τ, M, ρ, rs.mono (.refl _) gp, rm.new hp, ?_⟩
        cases e1 : fd τ M with
        | ok d M2 =>
          rw [e1] at r
          intro dv H2 ρ2 x2 g2 m2 id2
          have r := RSO.mono r x2 g2
          have r : RSO (X.gx W.Tb) W D ρ2 H2 ((fk τ M2).bindS τ (dputS (τ.set j (some ay)) av d)) := r
          refine ⟨τ, M2, ρ2, (rs.mono (.refl _) gp).mono x2 g2, m2, ?_⟩
          cases e2 : fk τ M2 with
          | ok k M3 =>
            rw [e2] at r
            intro kv H3 ρ3 x3 g3 m3 ik
            have r := RSO.mono r x3 g3
            have r : RSO (X.gx W.Tb) W D ρ3 H3 (dputS (τ.set j (some ay)) av d k M3) := r
            have i1' := ((i1.mono (.refl _) gp).mono x2 g2).mono x3 g3
            have i2' := ((i2.mono (.refl _) gp).mono x2 g2).mono x3 g3
            unfold dputS at r
            split at r
            · rename_i l
              cases id2.mono x3 g3 with
              | dct hb =>
                split at r
                · rename_i M4 e3
                  obtain ⟨H4, dp, m4, g4⟩ := dPut_ok m3 hb ik i1' e3
                  exact ⟨_, H4, rfl, dp, y, [], rfl, rfl, r _ _ ρ3 (.refl _) g4 m4 (((((rs.mono (.refl _) gp).mono x2 g2).mono x3 g3).mono (.refl _) g4).set (i2'.mono (.refl _) g4) _)⟩
                · exact r.elim
            · exact r.elim
          | ex en M3 => rw [e2] at r; exact fun c d H3 ρ3 x g m i => r c d σ H3 ρ3 x g m (((rs.mono (.refl _) gp).mono x2 g2).mono x g) i
          | bad => rw [e2] at r; exact r
        | ex en M2 => rw [e1] at r; exact fun c d H2 ρ2 x g m i => r c d σ H2 ρ2 x g m ((rs.mono (.refl _) gp).mono x g) i
        | bad => rw [e1] at r; exact r
/-! ### {k: v} -/
def dispK (l : Nat) (k v : A) (M3 : Store) : EO A := match M3[l]?, key? k with
  | some (.dK []), some j => .ok (.dct l) (M3.set l (.dK [(j, v)]))
  | _, _ => .bad
def eDisp1 (fk fv : EF) : EF := fun τ M => (fk τ (M ++ [.dK []])).bind fun k M2 => (fv τ M2).bind (dispK M.length k)
theorem ae_disp1 {k v : Expr} {fk fv : EF} (hk : AE X W k fk) (hv : AE X W v fv) : AE X W (.Dict [some k] [v] pos) (eDisp1 fk fv) :=
  (pe_disp (pps_cons hk hv pps_nil) (by rfl) (by rfl) (fun z => by cases z) (by show 1 ≤ 15; decide)).pre fun σ H Q h => by
  obtain ⟨τ, M, ρ, rs, rm, r⟩ := h
  intro p hp
  have g0 : Grow H (upd H p (.dK [])) := .new hp
  have m0 : RM (X.am W.Tb) (ρ ++ [p]) (upd H p (.dK [])) (M ++ [.dK []]) := rm.push hp ⟨[], upd_same, .nil⟩
  have r := RE.mono r (.snoc ρ p) g0
  have hl0 : (ρ ++ [p])[M.length]? = some p := by rw [← rm.len]; simp
  unfold eDisp1 at r
  refine ⟨τ, _, _, rs.mono (.snoc ρ p) g0, m0, ?_⟩
  cases e1 : fk τ (M ++ [.dK []]) with
  | ok ka M2 =>
    rw [e1] at r
    intro kv H2 ρ2 x2 g2 m2 ik
    have r := RE.mono r x2 g2
    refine ⟨τ, M2, ρ2, (rs.mono (.snoc ρ p) g0).mono x2 g2, m2, ?_⟩
    have r : RE (X.gx W.Tb) W σ ρ2 H2 Is ((fv τ M2).bind (dispK M.length ka)) Q := r
    cases e2 : fv τ M2 with
    | ok va M3 =>
      rw [e2] at r
      intro vv H3 ρ3 x3 g3 m3 iv
      have r := RE.mono r x3 g3
      have hb : ρ3[M.length]? = some p := x3.get (x2.get hl0)
      have r : RE (X.gx W.Tb) W σ ρ3 H3 Is (dispK M.length ka va M3) Q := r
      unfold dispK at r
      split at r
      · rename_i j ec ej
        obtain ⟨vs, q, iz⟩ := m3.at_ _ _ _ hb ec
        have hH : H3 p = some (.dK []) := by
          cases iz; exact q
        have g4 := m3.growSet (o := .dK [(j, vv)]) hb ec
        refine ⟨hH, [(j, vv)], by rw [key_ok (ik.mono x3 g3) ej]; rfl, by show 1 ≤ 15; decide, ?_⟩
        exact r.okv (.refl _) g4 (m3.set hb ec ⟨[vv], upd_same, .cons (iv.mono (.refl _) g4) .nil⟩) (.dct hb)
      · exact r.elim
    | ex en M3 => rw [e2] at r; exact r
    | bad => rw [e2] at r; exact r
  | ex en M2 => rw [e1] at r; exact r
  | bad => rw [e1] at r; exact r
/-- .. of a tuple's key -/
def dispT (l : Nat) (k v : A) (M3 : Store) : EO A := match M3[l]?, k with
  | some (.dT []), .tup ks => match ks.mapM key? with
    | some j => .ok (.dct l) (M3.set l (.dT [(j, v)]))
    | none => .bad
  | _, _ => .bad
def eDispT (fk fv : EF) : EF := fun τ M => (fk τ (M ++ [.dT []])).bind fun k M2 => (fv τ M2).bind (dispT M.length k)
theorem ae_dispT {k v : Expr} {fk fv : EF} (hu : X.A.units + 1 < cLine) (hk : AE X W k fk) (hv : AE X W v fv) : AE X W (.Dict [some k] [v] pos) (eDispT fk fv) := ⟨fun pins s σ H Q I h => by
  obtain ⟨τ, M, ρ, rs, rm, r⟩ := h
  have hp := I.hok.fresh (Nat.le_refl s.heap.objs.size)
  generalize ep : s.heap.objs.size = p at hp
  have I1 : L2.Inv X pins σ (upd H p (.dT [])) { s with heap := s.heap.push { cls := .type "dict", data := .dict #[] } } := by
    subst ep
    exact I.laid (t' := s.toks) (fun _ _ q => Heap.get?_push_of_some _ q) (Nat.le_refl _) (dt_empty s.heap I.big)
  have g0 : Grow H (upd H p (.dT [])) := .new hp
  have m0 : RM (X.am W.Tb) (ρ ++ [p]) (upd H p (.dT [])) (M ++ [.dT []]) := rm.push hp ⟨[], upd_same, .nil⟩
  have r := RE.mono r (.snoc ρ p) g0
  have hl0 : (ρ ++ [p])[M.length]? = some p := by rw [← rm.len]; simp
  unfold eDispT at r
  refine wpAny_Dict_any (by rfl) (by rfl) (fun z => by cases z) (by show 1 ≤ 15; decide) ?_
  have hP : PPs X pos [some k] [v] [(tG (X.gx W.Tb) W Is fk, tG (X.gx W.Tb) W Is fv)] := pps_cons hk hv pps_nil
  refine thn (hP.run pins _ σ _ (fun ps H3 => ∃ kv vv, ps = [(kv, vv)] ∧ ∃ ks ts H4, kv = .ref ks ∧ H3 ks = some (.tup (ts.map kV)) ∧ H3 p = some (.dT []) ∧ H4 = upd H3 p (.dT [(ts, vv)]) ∧ Q (.ref p) H4) I1 ?_) fun vs s2 ⟨ps, H3, I3, rel, kv, vv, eps, ks, ts, H4, ekv, hks, hpd, e4, q⟩ => ?_
  · refine ⟨τ, _, _, rs.mono (.snoc ρ p) g0, m0, ?_⟩
    cases e1 : fk τ (M ++ [.dT []]) with
    | ok ka M2 =>
      rw [e1] at r
      intro kv H2 ρ2 x2 g2 m2 ik
      have r := RE.mono r x2 g2
      refine ⟨τ, M2, ρ2, (rs.mono (.snoc ρ p) g0).mono x2 g2, m2, ?_⟩
      have r : RE (X.gx W.Tb) W σ ρ2 H2 Is ((fv τ M2).bind (dispT M.length ka)) Q := r
      cases e2 : fv τ M2 with
      | ok va M3 =>
        rw [e2] at r
        intro vv H3 ρ3 x3 g3 m3 iv
        have r := RE.mono r x3 g3
        have hb : ρ3[M.length]? = some p := x3.get (x2.get hl0)
        have r : RE (X.gx W.Tb) W σ ρ3 H3 Is (dispT M.length ka va M3) Q := r
        have ik := ik.mono x3 g3
        unfold dispT at r
        split at r
        · have ec : M3[M.length]? = some (.dT []) := by assumption
          split at r
          · rename_i j ej
            obtain ⟨vs, q, iz⟩ := m3.at_ _ _ _ hb ec
            have hH : H3 p = some (.dT []) := by cases iz; exact q
            cases ik with
            | tup ht it =>
              rw [keys_ok it ej] at ht
              have g4 := m3.growSet (o := .dT [(j, vv)]) hb ec
              exact ⟨_, vv, rfl, _, j, _, rfl, ht, hH, rfl, r.okv (.refl _) g4 (m3.set hb ec ⟨[vv], upd_same, .cons (iv.mono (.refl _) g4) .nil⟩) (.dct hb)⟩
          · exact r.elim
        · exact r.elim
      | ex en M3 => rw [e2] at r; exact r
      | bad => rw [e2] at r; exact r
    | ex en M2 => rw [e1] at r; exact r
    | bad => rw [e1] at r; exact r
  · subst eps ekv
    obtain ⟨u1, u2, rfl, r1, r2⟩ : ∃ u1 u2, vs = [(u1, u2)] ∧ RelV (.ref ks) u1 ∧ RelV vv u2 := by
      cases rel with
      | cons h t => cases t; exact ⟨_, _, rfl, h.1, h.2⟩
    cases r1
    obtain ⟨z, hd, xs, rel2, dd⟩ := dt_of I3.hok hpd
    cases rel2
    show wpAny (model X.prog X.w) X.A (storeAll s.heap.objs.size [(Value.ref ks, u2)]) _ _ _
    rw [ep]
    unfold storeAll
    rw [List.forIn_cons]
    refine wpAny_bind (wpAny_bind ?_)
    refine wpAny_dictSet_heap (hsz := Nat.zero_le _) (knd := tupleKind (mixKind X.prog X.w)) (by show X.A.units < cLine; omega) (key_of I3.hok hks) dd fun h' dd' hs => ?_
    refine wpAny_pure ?_
    dsimp only
    rw [List.forIn_nil]
    refine wpAny_pure ?_
    obtain ⟨ob, es, ee, hq, h2, h3, h4, _, h5⟩ := dd'
    refine ⟨.ref p, H4, ?_, rfl, q⟩
    rw [e4]
    have rel0 : KT H3 ([] : List (List Key × V)) [] := .nil
    have relP := rel0.put ts hks r2
    have e0 : putK ([] : List (List Key × V)) ts vv = [(ts, vv)] := rfl
    rw [e0] at relP
    refine d_write I3 (by rw [hpd]; exact True.intro) hs ⟨ob, hq⟩ ⟨by show 1 ≤ sizeLine; decide, hd, _, relP.keeps fun c ys ec => ?_, ob, es, ee, hq, h2, h3, h4, h5⟩
    rw [upd_ne (ne_of ec hpd (fun z => nomatch z))]
    exact ec⟩
end
end AB
/-! AB12: n += e; the law's end -/
namespace AB
open PySem PySem.Spec PyProof.Rows L2
section
variable {X : Cx} {W : WR} {pos : Pos} {e : Expr} {f : EF}
def augK (i : Nat) (g : Int → Int → Int) (x : Int) (τ : Sl) (b : A) (M : Store) : SO := match b with
  | .int j => .nx (τ.set i (some (.int (g x j)))) M
  | _ => .bad
def sAug (i : Nat) (g : Int → Int → Int) (f : EF) : SF := fun τ M => match τ[i]? with
  | some (some (.int x)) => (f τ M).bindS τ (augK i g x τ)
  | _ => .bad
theorem as_aug (i : Nat) {x : Str} {op : Operator} {g : Int → Int → Int} {pos' : Pos} (hN : X.N.Nodup) (ho : PIp X op (ipI g)) (he : AE X W e f) (hi : X.N[i]? = some x := by rfl) (hx : Loc X.env.scope x := by first | exact Or.inl rfl | exact Or.inr rfl)
    (hf : X.fn x = true ∨ X.env.scope.names.lookup x = some .local := by first | exact .inl rfl | exact .inr rfl | assumption) : AS X W (.AugAssign (.Name x pos') op e pos) (sAug i g f) := (ps_aug hN hi hx he ho hf).pre fun D σ H h => by
  obtain ⟨τ, M, ρ, rs, rm, r⟩ := h
  unfold sAug at r
  split at r
  · rename_i a ea
    obtain ⟨v, hv, iv⟩ := rs.get ea
    cases iv
    refine ⟨_, hv, τ, M, ρ, rs, rm, ?_⟩
    cases e1 : f τ M with
    | ok b M1 =>
      rw [e1] at r
      intro w H1 ρ1 x1 g1 m1 iw
      have r := RSO.mono r x1 g1
      have r : RSO (X.gx W.Tb) W D ρ1 H1 (augK i g a τ b M1) := r
      cases b with
      | int j =>
        cases iw
        exact ⟨_, _, rfl, rfl, r _ _ ρ1 (.refl _) (.refl _) m1 ((rs.mono x1 g1).set (.int _) i)⟩
      | _ => exact r.elim
    | ex en M1 => rw [e1] at r; exact fun c d H1 ρ1 x g m i => r c d σ H1 ρ1 x g m (rs.mono x g) i
    | bad => rw [e1] at r; exact r
  · exact r.elim
end
/-- the law's store: the script alone -/
def scr (ns : List Int) : Store := [.frz (ns.map .int)]
end AB
namespace AB
open PySem PySem.Spec PyProof.Rows L2
abbrev fuel : Nat := 1000000
theorem hu64 {A : Around} {k : Nat} (hr : Room k A) : A.units + 64 < cLine := by have := hr.un; omega
theorem hu65 {A : Around} {k : Nat} (hr : Room k A) : A.units + 65 < cLine := by have := hr.un; omega
theorem hu9 {A : Around} {k : Nat} (hr : Room k A) : A.units + 9 < cLine := by have := hr.un; omega
theorem hu1 {A : Around} {k : Nat} (hr : Room k A) : A.units + 1 < cLine := by have := hr.un; omega
/-- a def of the text that does F -/
structure FnX (P : Program) (w : World) (K : PySem.W.Frag) (mg : Str → Option Value) (Tb : Tbl) (base : Heap) (x : Str) (k n : Nat) (F : On') : Prop where
  ex : ∃ fa fd ps, FnOk P w K mg base (L2.CX P w) k fa fd ps (spA ⟨mg, ⟨w, K, mg, Tb⟩⟩ n F) ∧ mg x = some (.ref fa) ∧ PySem.W.keepIn K (.ref fa) = true ∧ Binds K fd ps []
section
variable {X : Cx} {W : WR} {pos : Pos}
theorem ae_callX {k n : Nat} {F : On'} {x : Str} {p : Pos} {e : Expr} {es : List Expr} {fs : EFs} (G : FnX X.prog X.w X.K X.mg W.Tb X.base x k n F) (hr : Room k X.A) (tk : Takes X W.w)
    (ha : AA X W (e :: es) fs) (hg : Gl X x := by rfl) (hdb : (x == ("__debug__" : Str)) = false := by decide) (he : starEach (e :: es) X.env = (false, eval e X.env) :: starEach es X.env := by rfl) (hpl : (backTo pos (starEach es X.env)).any (·.1) = false := by rfl) :
    AE X W (.Call (.Name x p) (e :: es) [] pos) (eCall n F fs) := by
  obtain ⟨fa, fd, ps, G, hm, hk, hb⟩ := G.ex
  exact ae_call G hr hm hk hb tk ha hg hdb he hpl
end
/-- .. whose last parameters have the defaults ds -/
structure FnXD (P : Program) (w : World) (K : PySem.W.Frag) (mg : Str → Option Value) (Tb : Tbl) (base : Heap) (x : Str) (k n : Nat) (ds : List A) (F : On') : Prop where
  ex : ∃ fa fd ps, FnOk P w K mg base (L2.CX P w) k fa fd ps (spA ⟨mg, ⟨w, K, mg, Tb⟩⟩ n F) ∧ mg x = some (.ref fa) ∧ PySem.W.keepIn K (.ref fa) = true ∧ Binds K fd ps [] ∧ ∃ us, Binds K fd ps us ∧ ∃ vs, Vals vs us ∧ ∀ ρ H, IsAll ρ H ds vs
def eCallD (n : Nat) (F : On') (ds : List A) (fs : EFs) : EF := fun τ M => (fs τ M).bind fun as M1 => if (as ++ ds).length = n then F (as ++ ds) M1 else .bad
section
variable {X : Cx} {W : WR} {pos : Pos}
theorem FnXD.x {P : Program} {w : World} {K : PySem.W.Frag} {mg : Str → Option Value} {Tb : Tbl} {base : Heap} {x : Str} {k n : Nat} {ds : List A} {F : On'} (G : FnXD P w K mg Tb base x k n ds F) : FnX P w K mg Tb base x k n F := by
  obtain ⟨fa, fd, ps, G, hm, hk, hb, _⟩ := G.ex
  exact ⟨fa, fd, ps, G, hm, hk, hb⟩
theorem ae_callXD {k n : Nat} {F : On'} {x : Str} {p : Pos} {e : Expr} {es : List Expr} {fs : EFs} {ds : List A} (G : FnXD X.prog X.w X.K X.mg W.Tb X.base x k n ds F) (hr : Room k X.A) (tk : Takes X W.w)
    (ha : AA X W (e :: es) fs) (hg : Gl X x := by rfl) (hdb : (x == ("__debug__" : Str)) = false := by decide) (he : starEach (e :: es) X.env = (false, eval e X.env) :: starEach es X.env := by rfl) (hpl : (backTo pos (starEach es X.env)).any (·.1) = false := by rfl) :
    AE X W (.Call (.Name x p) (e :: es) [] pos) (eCallD n F ds fs) := by
  obtain ⟨fa, fd, ps, G, hm, hk, _, us, hb, vs, hv, hi⟩ := G.ex
  refine (pe_callSD (E := WE W.w) G hr hg hm hk hb hv (fun σ => passAt tk σ) ha hdb he hpl).pre fun σ H Q h => ?_
  refine (seqG IsAll h).imp fun ws H1 h1 => ?_
  obtain ⟨τ, M, ρ, as, rs, rm, i, r⟩ := h1
  have r : RE (X.gx W.Tb) W σ ρ H1 Is (if (as ++ ds).length = n then F (as ++ ds) M else .bad) Q := r
  split at r
  · rename_i hn
    refine ⟨as ++ ds, M, ρ, i.append (hi _ _), rm, hn, ?_⟩
    cases e : F (as ++ ds) M with
    | ok a M1 => rw [e] at r; exact r
    | ex en M1 => rw [e] at r; exact r
    | bad => rw [e] at r; exact r
  · exact r.elim
end
end AB
/-! AB13: the law's end, for any promise -/
namespace AB
open PySem PySem.Spec PyProof.Rows L2
theorem law_endT {mg : Str → Option Value} {w : World} {K : PySem.W.Frag} {Tb : Tbl} {F : On'} (hF : ∀ ns : List Int, ns.length ≤ 63 → ∃ M, F [.lst 0] (scr ns) = .ok (.bl true) M) {Q : VK} {E : XK} (H : Hp) (a : Addr) (ns : List Int) (hl : ns.length ≤ 63) (hS : SqL K H a (ns.map V.int)) (hT : LamX.Tabs Tb H) (q : ∀ H', Q (.bl true) H') :
    spA ⟨mg, ⟨w, K, mg, Tb⟩⟩ 1 F [.ref a] H Q E := by
  obtain ⟨M, e⟩ := hF ns hl
  have zero : ∀ {i : Nat} {b : Addr}, ([a] : List Addr)[i]? = some b → i = 0 := fun {i b} h => by
    have := (List.getElem?_eq_some_iff.mp h).1
    simp at this; omega
  refine ⟨[.lst 0], scr ns, [a], .cons (.lst rfl) .nil, ⟨rfl, fun i j b c d h1 h2 h3 h4 h5 h6 => ?_, fun i b c h1 h2 => ?_, hT, fun i j b c xs h1 h2 h3 h4 h5 => ?_⟩, rfl, ?_⟩
  · rw [zero h1, zero h2]
  · have hi := zero h1
    subst hi
    simp [scr] at h1 h2
    subst h1 h2
    have all : ∀ ns : List Int, IsAll [a] H (ns.map A.int) (ns.map V.int) := by
      intro ns
      induction ns with
      | nil => exact .nil
      | cons n ns ih => exact .cons (.int n) ih
    refine ⟨ns.map V.int, ?_, all ns⟩
    rcases hS with (h | ⟨o, h⟩) | h
    · exact .inl (.inr h)
    · exact .inl (.inl ⟨o, h⟩)
    · exact .inr h
  · have hi := zero h1
    subst hi
    simp [scr] at h3
    subst h3
    cases h5
  · rw [e]
    intro v H' ρ' x g m i
    cases i
    exact q _
theorem cx_false {P : Program} : ∀ (w : World) (H : Hp) (s : Shared) (e : Value) (s' : Shared), L2.CX P w [] H s (fun _ _ _ => False) e s' → False := fun _ _ _ _ _ ⟨_, _, _, _, _, _, _, _, _, _, _, _, h⟩ => h
end AB
/-! AB14: what an abstract run wants (backward steps) -/
namespace AB
open PySem PySem.Spec PyProof.Rows L2
@[irreducible] def EO.W {α : Type} (o : EO α) (Q : α → Store → Prop) : Prop := match o with
  | .ok a M => Q a M
  | _ => False
@[irreducible] def SO.W (o : SO) (N : Sl → Store → Prop) (R : A → Store → Prop) : Prop := match o with
  | .nx τ M => N τ M
  | .rt a M => R a M
  | _ => False
section
variable {α β : Type} {τ : Sl} {M : Store} {Q : A → Store → Prop} {Qs : List A → Store → Prop} {Qb : Bool → Store → Prop} {N : Sl → Store → Prop} {R : A → Store → Prop}
theorem EO.W.imp {o : EO α} {P P' : α → Store → Prop} (h : o.W P) (f : ∀ a M, P a M → P' a M) : o.W P' := by
  with_unfolding_all
    cases o with
    | ok a M => exact f _ _ h
    | _ => exact h
theorem SO.W.imp {o : SO} {N' : Sl → Store → Prop} {R' : A → Store → Prop} (h : o.W N R) (f : ∀ a M, N a M → N' a M) (g : ∀ a M, R a M → R' a M) : o.W N' R' := by
  with_unfolding_all
    cases o with
    | nx τ M => exact f _ _ h
    | rt τ M => exact g _ _ h
    | _ => exact h
theorem EO.W.out {o : EO α} {P : α → Store → Prop} (h : o.W P) : ∃ a M, o = .ok a M ∧ P a M := by
  with_unfolding_all
    cases o with
    | ok a M => exact ⟨_, _, rfl, h⟩
    | _ => exact h.elim
theorem w_of {o : EO α} {a : α} {M' : Store} {P : α → Store → Prop} (e : o = .ok a M') (h : P a M') : o.W P := by with_unfolding_all (rw [e]; exact h)
theorem w_bind {x : EO α} {g : α → Store → EO β} {P : β → Store → Prop} (h : x.W fun a M => (g a M).W P) : (x.bind g).W P := by
  with_unfolding_all
    cases x with
    | ok a M => exact h
    | _ => exact h
theorem w_bindS {x : EO α} {g : α → Store → SO} (h : x.W fun a M => (g a M).W N R) : (x.bindS τ g).W N R := by
  with_unfolding_all
    cases x with
    | ok a M => exact h
    | _ => exact h
theorem w_toE {o : Option (A × Store)} {a : A} {M' : Store} (e : o = some (a, M')) (h : Q a M') : (toE o).W Q := by with_unfolding_all (rw [e]; exact h)
theorem w_var {i : Nat} {a : A} (e : τ[i]? = some (some a)) (h : Q a M) : (eVar i τ M).W Q := by with_unfolding_all (unfold eVar; rw [e]; exact h)
theorem w_C {a : A} (h : Q a M) : (eC a τ M).W Q := by with_unfolding_all exact (h)
theorem w_nil (h : Qs [] M) : (eNil τ M).W Qs := by with_unfolding_all exact (h)
theorem w_cons {f : EF} {g : EFs} (h : (f τ M).W fun a M1 => (g τ M1).W fun as M2 => Qs (a :: as) M2) : (eCons f g τ M).W Qs := by with_unfolding_all exact (w_bind (h.imp fun _ _ h => w_bind (h.imp fun _ _ h => h)))
theorem w_op {o : O2} {f g : EF} (h : (f τ M).W fun a M1 => (g τ M1).W fun b M2 => (toE (o a b M2)).W Q) : (eOp o f g τ M).W Q := by with_unfolding_all exact (w_bind (h.imp fun _ _ h => w_bind h))
theorem w_un {o : O1} {f : EF} (h : (f τ M).W fun a M1 => (toE (o a M1)).W Q) : (eUn o f τ M).W Q := by with_unfolding_all exact (w_bind h)
theorem w_fn {o : On} {f : EFs} (h : (f τ M).W fun a M1 => (toE (o a M1)).W Q) : (eFn o f τ M).W Q := by with_unfolding_all exact (w_bind h)
theorem w_tup {f : EFs} (h : (f τ M).W fun as M1 => as.length ≤ sizeLine ∧ Q (.tup as) M1) : (eTup f τ M).W Q := by with_unfolding_all exact (w_bind (h.imp fun _ _ h => by rw [if_pos h.1]; exact h.2))
theorem w_lst {f : EFs} (h : (f τ M).W fun as M1 => as.length ≤ sizeLine ∧ Q (.lst M1.length) (M1 ++ [.lst as])) : (eLst f τ M).W Q := by with_unfolding_all exact (w_bind (h.imp fun _ _ h => by rw [if_pos h.1]; exact h.2))
theorem w_newK (h : Q (.dct M.length) (M ++ [.dK []])) : (eNewK τ M).W Q := by with_unfolding_all exact (h)
theorem w_newT (h : Q (.dct M.length) (M ++ [.dT []])) : (eNewT τ M).W Q := by with_unfolding_all exact (h)
theorem w_newN (h : Q (.dct M.length) (M ++ [.dN []])) : (eNewN τ M).W Q := by with_unfolding_all exact (h)
theorem w_B {f : EF} (h : (f τ M).W fun a M1 => ∃ k, a = .bl k ∧ Qb k M1) : (eB f τ M).W Qb := by with_unfolding_all exact (w_bind (h.imp fun _ _ ⟨k, e, h⟩ => by subst e; exact h))
theorem w_T {f : EF} (h : (f τ M).W fun a M1 => ∃ k, truA M1 a = some k ∧ Qb k M1) : (eT f τ M).W Qb := by with_unfolding_all exact (w_bind (h.imp fun _ _ ⟨k, e, h⟩ => by rw [e]; exact h))
theorem w_not {f : EFb} (h : (f τ M).W fun k M1 => Qb (!k) M1) : (bNot f τ M).W Qb := by with_unfolding_all exact (w_bind h)
theorem w_bor {f g : EFb} (h : (f τ M).W fun k M1 => if k = true then Qb true M1 else (g τ M1).W Qb) : (bOr f g τ M).W Qb := by with_unfolding_all exact (w_bind (h.imp fun k M1 h => by
  cases k with
  | true => exact h
  | false => exact h))
theorem w_band {f g : EFb} (h : (f τ M).W fun k M1 => if k = true then (g τ M1).W Qb else Qb false M1) : (bAnd f g τ M).W Qb := by with_unfolding_all exact (w_bind (h.imp fun k M1 h => by
  cases k with
  | true => exact h
  | false => exact h))
theorem w_yes (h : Qb true M) : (bYes τ M).W Qb := by with_unfolding_all exact (h)
theorem w_eAnd {f g : EF} (h : (f τ M).W fun a M1 => ∃ k, a = .bl k ∧ if k = true then (g τ M1).W Q else Q (.bl false) M1) : (eAnd f g τ M).W Q := by with_unfolding_all exact (w_bind (h.imp fun a M1 ⟨k, e, h⟩ => by
  subst e
  cases k with
  | true => exact h
  | false => exact h))
theorem w_eOr {f g : EF} (h : (f τ M).W fun a M1 => ∃ k, a = .bl k ∧ if k = true then Q (.bl true) M1 else (g τ M1).W Q) : (eOr f g τ M).W Q := by with_unfolding_all exact (w_bind (h.imp fun a M1 ⟨k, e, h⟩ => by
  subst e
  cases k with
  | true => exact h
  | false => exact h))
theorem w_eNot {f : EF} (h : (f τ M).W fun a M1 => ∃ k, a = .bl k ∧ Q (.bl (!k)) M1) : (eNot f τ M).W Q := by with_unfolding_all exact (w_bind (h.imp fun a M1 ⟨k, e, h⟩ => by subst e; exact h))
theorem w_eIf {t : EFb} {f g : EF} (h : (t τ M).W fun k M1 => if k = true then (f τ M1).W Q else (g τ M1).W Q) : (eIf t f g τ M).W Q := by with_unfolding_all exact (w_bind (h.imp fun k M1 h => by
  cases k with
  | true => exact h
  | false => exact h))
theorem w_call {n : Nat} {F : On'} {fs : EFs} (h : (fs τ M).W fun as M1 => as.length = n ∧ (F as M1).W Q) : (eCall n F fs τ M).W Q := by with_unfolding_all exact (w_bind (h.imp fun _ _ h => by rw [if_pos h.1]; exact h.2))
theorem w_callD {n : Nat} {F : On'} {ds : List A} {fs : EFs} (h : (fs τ M).W fun as M1 => (as ++ ds).length = n ∧ (F (as ++ ds) M1).W Q) : (eCallD n F ds fs τ M).W Q := by with_unfolding_all exact (w_bind (h.imp fun _ _ h => by rw [if_pos h.1]; exact h.2))
theorem w_chain {o o' : O2} {f g h : EF} (w : (f τ M).W fun a M1 => (g τ M1).W fun b M2 => (toE (o a b M2)).W fun k M3 => ∃ kk, k = .bl kk ∧ if kk = true then (h τ M3).W fun c M4 => (toE (o' b c M4)).W Q else Q (.bl false) M3) : (eChain o o' f g h τ M).W Q := by with_unfolding_all exact (w_bind (w.imp fun _ _ w => w_bind (w.imp fun b M2 w => w_bind (w.imp fun k M3 ⟨kk, e, w⟩ => by
    subst e
    cases kk with
    | true => exact w_bind w
    | false => exact w))))
theorem w_meth {o : OM} {f : EF} {fs : EFs} (h : (f τ M).W fun a M1 => isL M1 a = true ∧ (fs τ M1).W fun as M2 => (toE (o a as M2)).W Q) : (eMeth o f fs τ M).W Q := by with_unfolding_all exact (w_bind (h.imp fun _ _ h => by rw [if_pos h.1]; exact w_bind h.2))
theorem w_methN {o : OM} {f : EF} {fs : EFs} (h : (f τ M).W fun a M1 => isN M1 a = true ∧ (fs τ M1).W fun as M2 => (toE (o a as M2)).W Q) : (eMethN o f fs τ M).W Q := by with_unfolding_all exact (w_bind (h.imp fun _ _ h => by rw [if_pos h.1]; exact w_bind h.2))
theorem w_g1 {f : EF} {P : Int × Int → Store → Prop} (h : (f τ M).W fun a M1 => ∃ n, a = .int n ∧ P (0, n) M1) : (g1 f τ M).W P := by with_unfolding_all exact (w_bind (h.imp fun _ _ ⟨n, e, h⟩ => by subst e; exact h))
theorem w_lrg {f : ER} (h : (f τ M).W fun p M1 => rgOk p.1 p.2 = true ∧ Q (.lst M1.length) (M1 ++ [.lst (rgA p.1 p.2)])) : (eLrg f τ M).W Q := by with_unfolding_all exact (w_bind (h.imp fun _ _ h => by rw [if_pos h.1]; exact h.2))
theorem w_trg {f : ER} (h : (f τ M).W fun p M1 => rgOk p.1 p.2 = true ∧ Q (.tup (rgA p.1 p.2)) M1) : (eTrg f τ M).W Q := by with_unfolding_all exact (w_bind (h.imp fun _ _ h => by rw [if_pos h.1]; exact h.2))
/-! ### statements -/
theorem w_sNil (h : N τ M) : (sNil τ M).W N R := by with_unfolding_all exact (h)
theorem w_seq {s t : SF} (h : (s τ M).W (fun τ1 M1 => (t τ1 M1).W N R) R) : (sSeq s t τ M).W N R := by
  with_unfolding_all
    unfold sSeq
    cases e : s τ M with
    | nx τ1 M1 => rw [e] at h; exact h
    | rt a M1 => rw [e] at h; exact h
    | _ => rw [e] at h; exact h
theorem w_expr {f : EF} (h : (f τ M).W fun _ M1 => N τ M1) : (sExpr f τ M).W N R := by with_unfolding_all exact (w_bindS h)
theorem w_ret {f : EF} (h : (f τ M).W R) : (sRet f τ M).W N R := by with_unfolding_all exact (w_bindS h)
theorem w_retN (h : R .non M) : (sRetN τ M).W N R := by with_unfolding_all exact (h)
theorem w_if {c : EFb} {s t : SF} (h : (c τ M).W fun k M1 => if k = true then (s τ M1).W N R else (t τ M1).W N R) : (sIf c s t τ M).W N R := by with_unfolding_all exact (w_bindS (h.imp fun k M1 h => by
  cases k with
  | true => exact h
  | false => exact h))
theorem w_asg {t : Tgt} {f : EF} (h : (f τ M).W fun a M1 => ∃ τ1, t.set a τ = some τ1 ∧ N τ1 M1) : (sAsg t f τ M).W N R := by with_unfolding_all exact (w_bindS (h.imp fun a M1 ⟨τ1, e, h⟩ => by rw [e]; exact h))
theorem w_set {i : Nat} {f : EF} (h : (f τ M).W fun a M1 => N (τ.set i (some a)) M1) : (sAsg (.nm i) f τ M).W N R := by with_unfolding_all exact (w_asg (h.imp fun a M1 h => ⟨_, rfl, h⟩))
theorem w_par {i j : Nat} {f : EFs} (h : (f τ M).W fun as M1 => ∃ a b, as = [a, b] ∧ N ((τ.set i (some a)).set j (some b)) M1) : (sPar i j f τ M).W N R := by with_unfolding_all exact (w_bindS (h.imp fun _ _ ⟨a, b, e, h⟩ => by subst e; exact h))
theorem w_par3 {i j l : Nat} {f : EFs} (h : (f τ M).W fun as M1 => ∃ a b c, as = [a, b, c] ∧ N (((τ.set i (some a)).set j (some b)).set l (some c)) M1) : (sPar3 i j l f τ M).W N R := by with_unfolding_all exact (w_bindS (h.imp fun _ _ ⟨a, b, c, e, h⟩ => by subst e; exact h))
theorem w_dput {fd fk fv : EF} (h : (fv τ M).W fun v M1 => (fd τ M1).W fun d M2 => (fk τ M2).W fun k M3 => ∃ l M4, d = .dct l ∧ dPut M3 l k v = some M4 ∧ N τ M4) : (sDput fd fk fv τ M).W N R := by with_unfolding_all exact (w_bindS (h.imp fun _ _ h => w_bindS (h.imp fun _ _ h => w_bindS (h.imp fun k M3 ⟨l, M4, e, e2, h4⟩ => by subst e; dsimp only; rw [e2]; exact h4))))
theorem w_setL {fo fi fv : EF} (h : (fv τ M).W fun v M1 => (fo τ M1).W fun x M2 => (fi τ M2).W fun i M3 => ∃ M4, oSetL M3 x i v = some M4 ∧ N τ M4) : (sSetL fo fi fv τ M).W N R := by with_unfolding_all exact (w_bindS (h.imp fun _ _ h => w_bindS (h.imp fun _ _ h => w_bindS (h.imp fun k M3 ⟨M4, e2, h4⟩ => by rw [e2]; exact h4))))
theorem w_mix {fd fk : EF} {j : Nat} {fs : EFs} (h : (fs τ M).W fun as M1 => ∃ v y, as = [v, y] ∧ (fd τ M1).W fun d M2 => (fk τ M2).W fun k M3 => ∃ l M4, d = .dct l ∧ dPut M3 l k v = some M4 ∧ N (τ.set j (some y)) M4) : (sMix fd fk j fs τ M).W N R := by with_unfolding_all exact (w_bindS (h.imp fun _ _ ⟨v, y, e, h⟩ => by
    subst e
    exact w_bindS (h.imp fun _ _ h => w_bindS (h.imp fun k M3 ⟨l, M4, e, e2, h4⟩ => by subst e; unfold dputS; dsimp only; rw [e2]; exact h4))))
theorem w_aug {i : Nat} {g : Int → Int → Int} {x : Int} {f : EF} (e : τ[i]? = some (some (.int x))) (h : (f τ M).W fun b M1 => ∃ j, b = .int j ∧ N (τ.set i (some (.int (g x j)))) M1) : (sAug i g f τ M).W N R := by
  with_unfolding_all
    unfold sAug
    rw [e]
    exact w_bindS (h.imp fun _ _ ⟨j, e, h⟩ => by subst e; exact h)
theorem w_def {n : Nat} {s : SF} {as : List A} (h : (s (startA n as) M).W (fun _ M1 => Q .non M1) Q) : (defA n s as M).W Q := by
  with_unfolding_all
    unfold defA
    cases e : s (startA n as) M with
    | nx τ1 M1 => rw [e] at h; exact h
    | rt a M1 => rw [e] at h; exact h
    | _ => rw [e] at h; exact h.elim
/-! ### loops -/
theorem w_forA {src : Src} {t : Tgt} {b : SF} (xs : List A) (I : Nat → Sl → Store → Prop) (hat : ∀ i τ M, I i τ M → src.at M i = some xs[i]?)
    (hs : ∀ i x τ M, xs[i]? = some x → I i τ M → ∃ τ1, t.set x τ = some τ1 ∧ (b τ1 M).W (I (i + 1)) R) (he : ∀ τ M, I xs.length τ M → N τ M) :
    ∀ (n i : Nat) (τ : Sl) (M : Store), xs.length < i + n → i ≤ xs.length → I i τ M → (forA src t b n i τ M).W N R
  | 0, i, τ, M, h1, h2, _ => by omega
  | n + 1, i, τ, M, h1, h2, h0 => by
    with_unfolding_all
      unfold forA
      rw [hat i τ M h0]
      by_cases hi : i < xs.length
      · have ex : xs[i]? = some xs[i] := List.getElem?_eq_getElem hi
        rw [ex]
        obtain ⟨τ1, e1, h⟩ := hs i _ τ M ex h0
        dsimp only
        rw [e1]
        dsimp only
        cases eb : b τ1 M with
        | nx τ2 M2 =>
          rw [eb] at h
          exact w_forA xs I hat hs he n (i + 1) τ2 M2 (by omega) hi h
        | rt a M2 => rw [eb] at h; exact h
        | _ => rw [eb] at h; exact h.elim
      · rw [List.getElem?_eq_none (by omega)]
        have e : i = xs.length := by omega
        subst e
        exact he τ M h0
theorem w_for {f : EI} {t : Tgt} {b : SF} (h : (f τ M).W fun src M1 => ∃ xs : List A, ∃ I : Nat → Sl → Store → Prop, src.size M1 = xs.length + 1 ∧ I 0 τ M1 ∧ (∀ i τ M, I i τ M → src.at M i = some xs[i]?) ∧
    (∀ i x τ M, xs[i]? = some x → I i τ M → ∃ τ1, t.set x τ = some τ1 ∧ (b τ1 M).W (I (i + 1)) R) ∧ (∀ τ M, I xs.length τ M → N τ M)) : (sFor f t b τ M).W N R := by with_unfolding_all exact (w_bindS (h.imp fun src M1 ⟨xs, I, e, h0, h1, h2, h3⟩ => w_forA xs I h1 h2 h3 _ 0 _ _ (by rw [e]; omega) (Nat.zero_le _) h0))
theorem w_while {c : EFb} {b : SF} (I : Nat → Sl → Store → Prop) (hs : ∀ m τ M, I m τ M → (c τ M).W fun k M1 => if k = true then (b τ M1).W (fun τ2 M2 => ∃ m', m' < m ∧ I m' τ2 M2) R else N τ M1) :
    ∀ (n m : Nat) (τ : Sl) (M : Store), m < n → I m τ M → (whileA c b n τ M).W N R
  | 0, m, _, _, h, _ => by omega
  | n + 1, m, τ, M, h, h0 => by
    with_unfolding_all
      unfold whileA
      refine w_bindS ((hs m τ M h0).imp fun k M1 w => ?_)
      cases k with
      | false => exact w
      | true =>
        have w : (b τ M1).W (fun τ2 M2 => ∃ m', m' < m ∧ I m' τ2 M2) R := w
        rw [if_pos rfl]
        cases eb : b τ M1 with
        | nx τ2 M2 =>
          rw [eb] at w
          have w3 : ∃ m', m' < m ∧ I m' τ2 M2 := w
          obtain ⟨m', hm, h2⟩ := w3
          exact w_while I hs n m' τ2 M2 (by omega) h2
        | rt a M2 => rw [eb] at w; exact w
        | _ => rw [eb] at w; exact w.elim
theorem w_lcA {src : Src} {t : Tgt} {ft : EFb} {fe : EF} {l : Nat} {τw : Sl} (xs : List A) (I : Nat → List A → Store → Prop) (hat : ∀ i acc M, I i acc M → src.at M i = some xs[i]?)
    (hs : ∀ i x acc M, xs[i]? = some x → I i acc M → M[l]? = some (.lst acc) → acc.length ≤ i → ∃ τ1, t.set x τw = some τ1 ∧ (ft τ1 M).W fun k M1 => if k = true then (fe τ1 M1).W fun y M2 => M2[l]? = some (.lst acc) ∧ I (i + 1) (acc ++ [y]) (M2.set l (.lst (acc ++ [y]))) else M1[l]? = some (.lst acc) ∧ I (i + 1) acc M1)
    (hz : xs.length ≤ sizeLine) (he : ∀ acc M, I xs.length acc M → M[l]? = some (.lst acc) → Q (.lst l) M) :
    ∀ (n i : Nat) (acc : List A) (M : Store), xs.length < i + n → i ≤ xs.length → acc.length ≤ i → M[l]? = some (.lst acc) → I i acc M → (lcA src t ft fe l τw n i M).W Q
  | 0, i, acc, M, h1, h2, _, _, _ => by omega
  | n + 1, i, acc, M, h1, h2, h3, h4, h0 => by
    with_unfolding_all
      unfold lcA
      rw [hat i acc M h0]
      by_cases hi : i < xs.length
      · have ex : xs[i]? = some xs[i] := List.getElem?_eq_getElem hi
        rw [ex]
        obtain ⟨τ1, e1, h⟩ := hs i _ acc M ex h0 h4 h3
        dsimp only
        rw [e1]
        dsimp only
        cases ec : ft τ1 M with
        | ok k M1 =>
          rw [ec] at h
          cases k with
          | false => exact w_lcA xs I hat hs hz he n (i + 1) acc M1 (by omega) hi (by omega) h.1 h.2
          | true =>
            have h : (fe τ1 M1).W fun y M2 => M2[l]? = some (.lst acc) ∧ I (i + 1) (acc ++ [y]) (M2.set l (.lst (acc ++ [y]))) := h
            dsimp only
            cases ey : fe τ1 M1 with
            | ok y M2 =>
              rw [ey] at h
              have hl := h.1
              dsimp only
              rw [hl]
              dsimp only
              rw [if_pos (by omega)]
              have lt : l < M2.length := (List.getElem?_eq_some_iff.mp hl).1
              exact w_lcA xs I hat hs hz he n (i + 1) (acc ++ [y]) _ (by omega) hi (by rw [List.length_append, List.length_singleton]; omega) (by rw [List.getElem?_set_self lt]) h.2
            | _ => rw [ey] at h; exact h.elim
        | _ => rw [ec] at h; exact h.elim
      · rw [List.getElem?_eq_none (by omega)]
        have e : i = xs.length := by omega
        subst e
        exact he acc M h0 h4
theorem w_lc {fi : EI} {t : Tgt} {ft : EFb} {fe : EF} {own : List Nat} (h : (fi τ M).W fun src M1 => ∃ xs : List A, ∃ I : Nat → List A → Store → Prop, src.size M1 = xs.length + 1 ∧ xs.length ≤ sizeLine ∧ I 0 [] (M1 ++ [.lst []]) ∧ (∀ i acc M, I i acc M → src.at M i = some xs[i]?) ∧
    (∀ i x acc M, xs[i]? = some x → I i acc M → M[M1.length]? = some (.lst acc) → acc.length ≤ i → ∃ τ1, t.set x (wipeA τ own) = some τ1 ∧ (ft τ1 M).W fun k M2 => if k = true then (fe τ1 M2).W fun y M3 => M3[M1.length]? = some (.lst acc) ∧ I (i + 1) (acc ++ [y]) (M3.set M1.length (.lst (acc ++ [y]))) else M2[M1.length]? = some (.lst acc) ∧ I (i + 1) acc M2) ∧
    (∀ acc M, I xs.length acc M → M[M1.length]? = some (.lst acc) → Q (.lst M1.length) M)) : (eLc fi t ft fe own τ M).W Q := by with_unfolding_all exact (w_bind (h.imp fun src M1 ⟨xs, I, e, hz, h0, h1, h2, h3⟩ => w_lcA xs I h1 h2 hz h3 _ 0 [] _ (by rw [e]; omega) (Nat.zero_le _) (Nat.zero_le _) (by simp) h0))
theorem w_iSeqT {f : EF} {P : Src → Store → Prop} (h : (f τ M).W fun a M1 => ∃ xs, a = .tup xs ∧ P (.snap xs) M1) : (iSeq f τ M).W P := by with_unfolding_all exact (w_bind (h.imp fun _ _ ⟨xs, e, h⟩ => by subst e; exact h))
theorem w_iSeqL {f : EF} {P : Src → Store → Prop} (h : (f τ M).W fun a M1 => ∃ l xs, a = .lst l ∧ listAt M1 l = some xs ∧ P (.dyn l) M1) : (iSeq f τ M).W P := by with_unfolding_all exact (w_bind (h.imp fun _ _ ⟨l, xs, e, e2, h⟩ => by subst e; unfold srcOf; dsimp only; rw [e2]; exact h))
theorem w_rng1 {f : EFs} {P : Src → Store → Prop} (h : (f τ M).W fun as M1 => ∃ n : Nat, as = [.int n] ∧ n ≤ 1000000 ∧ P (.rng 0 n) M1) : (iRng1 f τ M).W P := by with_unfolding_all exact (w_bind (h.imp fun _ _ ⟨n, e, e2, h⟩ => by
  subst e
  unfold rngOf1
  dsimp only
  rw [if_pos (by constructor <;> omega)]
  exact h))
theorem w_enumT {f : EFs} {P : Src → Store → Prop} (h : (f τ M).W fun as M1 => ∃ xs, as = [.tup xs] ∧ P (.snap (pairsFrom 0 xs)) M1) : (iEnumA f τ M).W P := by with_unfolding_all exact (w_bind (h.imp fun _ _ ⟨xs, e, h⟩ => by subst e; exact h))
end
/-! ### stores -/
/-- M's cells stand in M', save at r -/
def Fr (r : Option Nat) (M M' : Store) : Prop := M.length ≤ M'.length ∧ ∀ i c, some i ≠ r → M[i]? = some c → M'[i]? = some c
abbrev Pre : Store → Store → Prop := Fr none
section
variable {r : Option Nat} {M M' M'' : Store} {c : Cell} {l : Nat}
theorem Fr.refl : Fr r M M := ⟨Nat.le_refl _, fun _ _ _ h => h⟩
theorem Fr.trans (a : Fr r M M') (b : Fr r M' M'') : Fr r M M'' := ⟨Nat.le_trans a.1 b.1, fun i c n h => b.2 i c n (a.2 i c n h)⟩
theorem Fr.of (a : Pre M M') : Fr r M M' := ⟨a.1, fun i c _ h => a.2 i c (by simp) h⟩
theorem Fr.app (a : Fr r M M') (t : List Cell) : Fr r M (M' ++ t) := ⟨by rw [List.length_append]; have := a.1; omega, fun i c n h => by
  have h := a.2 i c n h
  rw [List.getElem?_append_left (List.getElem?_eq_some_iff.mp h).1]
  exact h⟩
theorem Fr.set (a : Fr r M M') (h : M.length ≤ l) : Fr r M (M'.set l c) := ⟨by rw [List.length_set]; exact a.1, fun i d n e => by
  have : i < M.length := (List.getElem?_eq_some_iff.mp e).1
  rw [List.getElem?_set_ne (by omega)]
  exact a.2 i d n e⟩
theorem Fr.setr (a : Fr (some l) M M') : Fr (some l) M (M'.set l c) := ⟨by rw [List.length_set]; exact a.1, fun i d n e => by
  rw [List.getElem?_set_ne (fun z => n (by rw [z]))]
  exact a.2 i d n e⟩
theorem Pre.at (a : Pre M M') {i : Nat} {d : Cell} (h : M[i]? = some d) : M'[i]? = some d := a.2 i d (by simp) h
theorem Fr.at (a : Fr r M M') {i : Nat} {d : Cell} (h : M[i]? = some d) (n : some i ≠ r) : M'[i]? = some d := a.2 i d n h
theorem Fr.lt (a : Fr r M M') {l : Nat} (h : M'.length ≤ l) : M.length ≤ l := Nat.le_trans a.1 h
theorem at_new : (M ++ [c])[M.length]? = some c := by simp
theorem at_set {d : Cell} (h : M[l]? = some d) : (M.set l c)[l]? = some c := List.getElem?_set_self (List.getElem?_eq_some_iff.mp h).1
theorem at_ne {i : Nat} {d : Cell} (n : i ≠ l) (h : M[i]? = some d) : (M.set l c)[i]? = some d := by rw [List.getElem?_set_ne (fun z => n z.symm)]; exact h
theorem at_app {i : Nat} {d : Cell} {t : List Cell} (h : M[i]? = some d) : (M ++ t)[i]? = some d := by rw [List.getElem?_append_left (List.getElem?_eq_some_iff.mp h).1]; exact h
theorem at_lt {i : Nat} {d : Cell} (h : M[i]? = some d) : i < M.length := (List.getElem?_eq_some_iff.mp h).1
theorem listAt_of {xs : List A} (h : M[l]? = some (.lst xs)) : listAt M l = some xs := by unfold listAt; rw [h]; rfl
theorem listAt_frz {xs : List A} (h : M[l]? = some (.frz xs)) : listAt M l = some xs := by unfold listAt; rw [h]; rfl
end
/-! ### ops -/
section
variable {M : Store} {xs ys : List A} {x y : A} {l : Nat}
theorem atI_nat {α : Type} {xs : List α} {i : Nat} {x : α} (h : xs[i]? = some x) : atI xs (i : Int) = some x := by
  unfold atI ixN
  have : i < xs.length := (List.getElem?_eq_some_iff.mp h).1
  rw [if_pos (by omega), if_pos (by omega)]
  simpa using h
theorem ix_tup {i : Nat} (h : xs[i]? = some x) : oIx (.tup xs) (.int i) M = some (x, M) := by
  show (atI xs (i : Int)).map (·, M) = _
  rw [atI_nat h]
  rfl
theorem ix_lst {i : Nat} (hl : listAt M l = some xs) (h : xs[i]? = some x) : oIx (.lst l) (.int i) M = some (x, M) := by
  show (listAt M l).bind (fun xs => (atI xs (i : Int)).map (·, M)) = _
  rw [hl]
  show (atI xs (i : Int)).map (·, M) = _
  rw [atI_nat h]
  rfl
theorem append_ok (hl : M[l]? = some (.lst xs)) (h : xs.length < 16777216) : oAppend (.lst l) [y] M = some (.non, M.set l (.lst (xs ++ [y]))) := by
  unfold oAppend
  dsimp only
  rw [hl]
  dsimp only
  rw [if_pos (by rw [show sizeLine = 16777216 from rfl]; exact h)]
theorem isL_of (h : M[l]? = some (.lst xs)) : isL M (.lst l) = true := by
  show (listAt M l).isSome = true
  rw [listAt_of h]
  rfl
theorem len_lst (h : listAt M l = some xs) : oLenN [.lst l] M = some (.int (xs.length : Nat), M) := by
  show (listAt M l).map _ = _
  rw [h]
  rfl
theorem tuple_lst (h : listAt M l = some xs) : oTuple [.lst l] M = some (.tup xs, M) := by
  show (listAt M l).map _ = _
  rw [h]
  rfl
end
/-- a list of made things -/
theorem w_lc_map {fi : EI} {t : Tgt} {fe : EF} {own : List Nat} {τ : Sl} {M : Store} {Q : A → Store → Prop} (g : A → A)
    (h : (fi τ M).W fun src M1 => ∃ xs : List A, src.size M1 = xs.length + 1 ∧ xs.length ≤ sizeLine ∧ (∀ M2, Pre M1 M2 → ∀ i, src.at M2 i = some xs[i]?) ∧
      (∀ x M2, x ∈ xs → Pre M1 M2 → ∃ τ1, t.set x (wipeA τ own) = some τ1 ∧ (fe τ1 M2).W fun y M3 => y = g x ∧ Pre M2 M3) ∧
      (∀ l M2, M1.length ≤ l → Pre M1 M2 → M2[l]? = some (.lst (xs.map g)) → Q (.lst l) M2)) : (eLc fi t bYes fe own τ M).W Q := by
  refine w_lc (h.imp fun src M1 ⟨xs, e, hz, hat, hs, hq⟩ => ⟨xs, fun i acc M2 => acc = (xs.take i).map g ∧ Pre M1 M2, e, hz, ⟨by simp, Fr.refl.app _⟩, fun i acc M2 h => hat M2 h.2 i, fun i x acc M2 ex h hl _ => ?_, fun acc M2 h hl => ?_⟩)
  · obtain ⟨τ1, e1, w⟩ := hs x M2 (List.mem_of_getElem? ex) h.2
    refine ⟨τ1, e1, w_yes ?_⟩
    rw [if_pos rfl]
    refine w.imp fun y M3 hy => ⟨Pre.at hy.2 hl, ?_, (h.2.trans hy.2).set (Nat.le_refl _)⟩
    rw [hy.1, h.1, List.take_add_one, ex, List.map_append]
    rfl
  · obtain ⟨rfl, p⟩ := h
    rw [List.take_length] at hl
    exact hq _ _ (Nat.le_refl _) p hl
end AB
local macro_rules | `(tactic| walk_at "ws") => `(tactic| first
  | with_reducible refine AB.w_seq ?_ | with_reducible refine AB.w_sNil ?_ | with_reducible refine AB.w_set ?_ | with_reducible refine AB.w_cons ?_ | with_reducible refine AB.w_nil ?_ | with_reducible refine AB.w_op ?_ | with_reducible refine AB.w_fn ?_ | with_reducible refine AB.w_un ?_
  | ((with_reducible refine AB.w_var (a := ?aa) ?ee ?hh); (case ee => rfl)) | with_reducible refine AB.w_C ?_ | with_reducible refine AB.w_ret ?_ | with_reducible refine AB.w_if ?_ | with_reducible refine AB.w_expr ?_
  | with_reducible refine AB.w_eAnd ?_ | with_reducible refine AB.w_eOr ?_ | with_reducible refine AB.w_eNot ?_ | with_reducible refine AB.w_eIf ?_ | with_reducible refine AB.w_B ?_ | with_reducible refine AB.w_T ?_ | with_reducible refine AB.w_not ?_ | with_reducible refine AB.w_bor ?_ | with_reducible refine AB.w_band ?_ | with_reducible refine AB.w_yes ?_
  | with_reducible refine AB.w_meth ?_ | with_reducible refine AB.w_methN ?_ | with_reducible refine AB.w_chain ?_ | with_reducible refine AB.w_call ?_ | with_reducible refine AB.w_callD ?_ | with_reducible refine AB.w_tup ?_ | with_reducible refine AB.w_lst ?_ | with_reducible refine AB.w_newK ?_ | with_reducible refine AB.w_newT ?_ | with_reducible refine AB.w_newN ?_
  | with_reducible refine AB.w_setL ?_ | with_reducible refine AB.w_dput ?_ | with_reducible refine AB.w_par3 ?_ | with_reducible refine AB.w_par ?_ | with_reducible refine AB.w_mix ?_ | with_reducible refine AB.w_g1 ?_ | with_reducible refine AB.w_lrg ?_ | with_reducible refine AB.w_trg ?_ | with_reducible refine AB.w_retN ?_
  | with_reducible refine AB.w_asg ?_)
/-! AB15: raise of an own exception that bears no field -/
namespace AB
open PySem PySem.Spec PyProof.Rows L2
section
variable {X : Cx} {W : WR} {pos : Pos} {e : Expr}
def sRaise0 (x : Str) : SF := fun τ M => .ex ⟨x, none⟩ τ M
theorem as_raise0 {x : Str} {C : Addr} (hc : X.calm = true) (tk : Takes X W.w) (hm : PMk X e (fun _ H Q => Q (.ref C) none H)) (gC : X.mg x = some (.ref C)) : AS X W (.Raise (some e) none pos) (sRaise0 x) :=
  (ps_raise hc tk hm).pre fun D σ H h => by
    obtain ⟨τ, M, ρ, rs, rm, r⟩ := h
    exact r (.ref C) none σ H ρ (.refl _) (.refl _) rm rs ⟨C, gC, rfl, rfl⟩
end
end AB
/-! PM: itertools.permutations of range(n), as what a for walks over -/
namespace PM
open PySem PySem.Spec PyProof.Rows L2
open Sem (wp)
theorem mro_pm : mroOf (.type "itertools.permutations") = pure [.type "itertools.permutations", .type "object"] := by rw [mroOf_type]; kernel_rfl
theorem lookup_pm_new : typeLookup (.type "itertools.permutations") "__new__" = pure (some (.builtin "itertools.permutations.__new__")) := by rw [typeLookup_type, builtinLookup_eq_fast]; kernel_rfl
theorem slot_pm_init : Slot "itertools.permutations" "__init__" "object.__init__" :=
  .of (owner := "object") (n := "__init__") (by rw [typeLookup_type, builtinLookup_eq_fast]; kernel_rfl) (by decide +kernel) (by decide +kernel) (by decide +kernel)
    (by first | exact .inl (by decide +kernel) | exact .inr (by decide +kernel)) (by rw [isSubtype_type]; kernel_rfl)
theorem sub_pm : isSubtype (.type "itertools.permutations") (.type "itertools.permutations") = pure true := by rw [isSubtype_type]; kernel_rfl
theorem called_pm : TypeCalled "itertools.permutations" "itertools.permutations.__new__" "object.__init__" :=
  ⟨by decide +kernel, by decide +kernel, ⟨_, _, mro_pm⟩, madeBy_type mro_pm lookup_pm_new (by decide +kernel), by decide +kernel, sub_pm, slot_pm_init⟩
theorem typeCall_pm_1 (a : Value) : checkTypeCall "itertools.permutations" ⟨[a], []⟩ = pure () := by kernel_rfl
theorem newCall_pm_1 (a : Value) : checkBuiltinCall "itertools.permutations.__new__" ⟨[.type "itertools.permutations", a], []⟩ = pure () := by kernel_rfl
theorem entry_pm_new : entryFor table "itertools.permutations.__new__" = some Builtin.«itertools.permutations.__new__» := entryFor_of_tree (by kernel_rfl)
theorem slot_pm_iter : Slot "itertools.permutations" "__iter__" "itertools.permutations.__iter__" :=
  .of (owner := "itertools.permutations") (n := "__iter__") (by rw [typeLookup_type, builtinLookup_eq_fast]; kernel_rfl) (by decide +kernel) (by decide +kernel) (by decide +kernel)
    (by first | exact .inl (by decide +kernel) | exact .inr (by decide +kernel)) sub_pm
theorem slot_pm_next : Slot "itertools.permutations" "__next__" "itertools.permutations.__next__" :=
  .of (owner := "itertools.permutations") (n := "__next__") (by rw [typeLookup_type, builtinLookup_eq_fast]; kernel_rfl) (by decide +kernel) (by decide +kernel) (by decide +kernel)
    (by first | exact .inl (by decide +kernel) | exact .inr (by decide +kernel)) sub_pm
theorem entry_pm_iter : entryFor table "itertools.permutations.__iter__" = some Builtin.«dict_keyiterator.__iter__» :=
  entryFor_alias (id' := "dict_keyiterator.__iter__") (by kernel_rfl) (by first | rfl | decide +kernel | (unfold String.splitOn; simp +decide [String.splitOnAux])) (by decide +kernel) (by kernel_rfl)
theorem entry_pm_next : entryFor table "itertools.permutations.__next__" = some Builtin.«itertools.permutations.__next__» := entryFor_of_tree (by kernel_rfl)
theorem owner_pm : Manifest.owners.lookup (String.ofList ("itertools.permutations".toList.reverse).reverse) = some Manifest.sig_itertools_permutations := by kernel_rfl
theorem args_pm_iter (a : Value) : argsOk "itertools.permutations.__iter__" ⟨[a], []⟩ := by
  unfold argsOk; rw [signature?_of (id := "itertools.permutations.__iter__") (n := ['_', '_', 'r', 'e', 't', 'i', '_', '_']) (o := "itertools.permutations".toList.reverse) (by kernel_rfl) owner_pm]; kernel_rfl
theorem args_pm_next (a : Value) : argsOk "itertools.permutations.__next__" ⟨[a], []⟩ := by
  unfold argsOk; rw [signature?_of (id := "itertools.permutations.__next__") (n := ['_', '_', 't', 'x', 'e', 'n', '_', '_']) (o := "itertools.permutations".toList.reverse) (by kernel_rfl) owner_pm]; kernel_rfl
theorem noDict_pm : typeHasDict (.type "itertools.permutations") = false := by decide +kernel
/-- how many orders come -/
def fct : Nat → Nat
  | 1 => 1
  | 2 => 2
  | 3 => 6
  | _ => 0
/-- the places behind i steps -/
def ix : Nat → Nat → List Nat
  | 1, 0 => [0]
  | 2, 0 => [0, 1]
  | 2, 1 => [1, 0]
  | 3, 0 => [0, 1, 2]
  | 3, 1 => [0, 2, 1]
  | 3, 2 => [1, 0, 2]
  | 3, 3 => [1, 2, 0]
  | 3, 4 => [2, 0, 1]
  | 3, 5 => [2, 1, 0]
  | _, _ => []
def cy : Nat → Nat → List Nat
  | 1, 0 => [1]
  | 2, 0 => [2, 1]
  | 2, 1 => [1, 1]
  | 3, 0 => [3, 2, 1]
  | 3, 1 => [3, 1, 1]
  | 3, 2 => [2, 2, 1]
  | 3, 3 => [2, 1, 1]
  | 3, 4 => [1, 2, 1]
  | 3, 5 => [1, 1, 1]
  | _, _ => []
/-- the numbers that stand in the record -/
@[irreducible] def nums (n i : Nat) : List Value := ((ix n i).map fun j : Nat => rawInt (j : Int)) ++ ((cy n i).map fun j : Nat => rawInt (j : Int))
/-- the record, i orders having come -/
def rec (n i : Nat) (pool : Addr) (last : Value) : Array Value := ([.ref pool, rawInt (if i = 0 then 0 else 1), rawInt (n : Int), last] ++ nums n (i - 1)).toArray
/-- the pool: 0 to n - 1 -/
@[irreducible] def poolV (ts : List Tok) : List Value := (ts.zipIdx).map fun p => .int (p.2 : Int) p.1
def At (h : Heap) (it pool : Addr) (n i : Nat) : Prop := ∃ (last : Value) (ts : List Tok), ts.length = n ∧ pool ≠ it ∧ h.get? it = some { cls := .type "itertools.permutations", dict := none, data := .fields (rec n i pool last), slots := #[] } ∧
  h.get? pool = some { cls := .type "tuple", dict := none, data := .seq (poolV ts).toArray, slots := #[] }
section
variable {prog : Program} {w : World} {A : Around} {E : Value → Shared → Prop} {s : Shared}
theorem pm_iter {it pool : Addr} {n i : Nat} {Q : Value → Shared → Prop} (hit : At s.heap it pool n i) (h : Q (.ref it) s) : wpAny (model prog w) A (pyIter (.ref it)) Q E s := by
  obtain ⟨last, ts, _, _, hit, _⟩ := hit
  have hT : s.TypeIs (.ref it) "itertools.permutations" := ⟨_, hit, rfl⟩
  refine wpAny_pyIter_slot hT slot_pm_iter (wpAny_call_entry slot_pm_iter hT entry_pm_iter ?_ (args_pm_iter _))
  show wpAny _ _ (ret (.ref it)) _ _ s
  exact wpAny_pure ⟨_, rfl, "itertools.permutations", _, hT, slot_pm_next.lookup, h⟩
end
end PM
namespace PM
open PySem PySem.Spec PyProof.Rows L2
open Sem (wp)
section
variable {prog : Program} {w : World} {A : Around} {E : Value → Shared → Prop} {s : Shared}
/-- the order that comes next, as it is laid -/
def row (n i : Nat) (ts : List Tok) : List Value := (ix n i).map fun j => (poolV ts).toArray.getD j .none
theorem poolV_len (ts : List Tok) : (poolV ts).length = ts.length := by unfold poolV; simp
abbrev pmO (r : Array Value) : Obj := { cls := .type "itertools.permutations", dict := none, data := .fields r, slots := #[] }
theorem at_next {h' : Heap} {it pool t : Addr} {n i : Nat} {ts : List Tok} {r : Array Value} (hl : ts.length = n) (hne : pool ≠ it) (hr : r = rec n (i + 1) pool (.ref t))
    (h1 : h'.get? it = some (pmO r)) (h2 : h'.get? pool = some { cls := .type "tuple", dict := none, data := .seq (poolV ts).toArray, slots := #[] }) : At h' it pool n (i + 1) :=
  ⟨.ref t, ts, hl, hne, hr ▸ h1, h2⟩
theorem fin_row2 {it : Addr} {r : Array Value} {us us' : List Value} {last : Value} {Q : Option Value → Shared → Prop} (he : us = us') (hit : s.heap.get? it = some (pmO r)) (h3 : r[3]? = some last) (hu : us'.length ≤ 3)
    (hQ : ∀ h' t, t = s.heap.objs.size → h'.get? it = some (pmO (r.setIfInBounds 3 (.ref t))) → (∀ b o, b ≠ it → s.heap.get? b = some o → h'.get? b = some o) → h'.get? t = some { cls := .type "tuple", data := .seq us'.toArray } → Q (some (.ref t)) { s with heap := h' }) :
    wpAny (model prog w) A.in1 (newTuple us) (fun t s' => wpAny (model prog w) A.in1 (do
      let before ← field (.ref it) 3
      setField (.ref it) 3 t
      letGo [before] [t]
      ret t) (fun fin s' => ∃ v, fin = Fin.done (.ret v) ∧ Q (some v) s') E s') E s := by
  subst he
  obtain ⟨hp0, g, d, tk, os⟩ := s
  have h3s : 3 < r.size := (Array.getElem?_eq_some_iff.mp h3).1
  have nit : it ≠ hp0.objs.size := Nat.ne_of_lt (Heap.lt_size (show hp0.get? it = some (pmO r) from hit))
  unfold newTuple
  refine wpAny_newObj_type ?_ (by show us.toArray.size ≤ sizeLine; rw [List.size_toArray, sizeLine_eq]; omega)
  have hit1 := Heap.get?_push_of_some { cls := .type "tuple", data := .seq us.toArray } (show hp0.get? it = some (pmO r) from hit)
  refine wpAny_bind (wpAny_field hit1 rfl h3 ?_)
  refine wpAny_bind (wpAny_setField hit1 rfl h3s ?_)
  refine wpAny_bind (wpAny_letGo ?_)
  refine wpAny_pure ⟨_, rfl, hQ _ _ rfl (Heap.get?_update_self _ hit1 rfl) (fun b o hb ho => (Heap.get?_update_ne _ _ _ _ hb).trans (Heap.get?_push_of_some _ ho)) ?_⟩
  exact (Heap.get?_update_ne _ _ _ _ nit.symm).trans (Heap.get?_push_size _ rfl)
/-- what an order's coming brings -/
def Came (s : Shared) (it pool : Addr) (n i : Nat) (Q : Option Value → Shared → Prop) : Prop :=
  ∀ h' ts t, t = s.heap.objs.size → ts.length = n → At h' it pool n (i + 1) → (∀ b o, b ≠ it → s.heap.get? b = some o → h'.get? b = some o) → h'.get? t = some { cls := .type "tuple", data := .seq (row n i ts).toArray } → Q (some (.ref t)) { s with heap := h' }
theorem item10 {it pool : Addr} {Q : Option Value → Shared → Prop} (hit : At s.heap it pool 1 0) (hQ : Came s it pool 1 0 Q) : wpAny (model prog w) A (callSpecial? (.ref it) "__next__") Q E s := by
  obtain ⟨last, ts, hl, hne, hit, hp⟩ := hit
  have hT : s.TypeIs (.ref it) "itertools.permutations" := ⟨_, hit, rfl⟩
  refine wpAny_callSpecial?_slot (name := Str.ofString "__next__") hT slot_pm_next (wpAny_call_entry slot_pm_next hT entry_pm_next ?_ (args_pm_next _))
  obtain ⟨hp0, g, d, tk, os⟩ := s
  have hl0 := hl
  match ts, hl with
  | [t0], _ =>
  unfold Builtin.«itertools.permutations.__next__»
  repeat (first
    | (with_reducible refine wpAny_field hit rfl (by rfl) ?_)
    | with_reducible refine wpAny_loadPart_at hit ?_
    | with_reducible refine wpAny_loadPart_at hp ?_
    | wp_step
    | dsimp only)
  have hit1 : (hp0.update it (Obj.mapFields fun x => x.setIfInBounds 1 (rawInt 1))).get? it = some (pmO (([.ref pool, rawInt 1, rawInt (1 : Nat), last] ++ nums 1 0).toArray)) := (Heap.get?_update_self _ hit rfl).trans (by simp [rec, Obj.mapFields])
  refine fin_row2 (us' := row 1 0 [t0]) (by unfold row rec nums; rfl) hit1 (last := last) rfl (by simp [row, ix]) fun h' t ht h1 k h2 => ?_
  have k' : ∀ b o, b ≠ it → hp0.get? b = some o → h'.get? b = some o := fun b o hb ho => k b o hb ((Heap.get?_update_ne _ _ _ _ hb).trans ho)
  exact hQ h' [t0] t (ht.trans (Heap.size_update ..)) hl0 (at_next (t := t) hl0 hne (by simp [rec]) h1 (k' _ _ hne hp)) k' h2
theorem item20 {it pool : Addr} {Q : Option Value → Shared → Prop} (hit : At s.heap it pool 2 0) (hQ : Came s it pool 2 0 Q) : wpAny (model prog w) A (callSpecial? (.ref it) "__next__") Q E s := by
  obtain ⟨last, ts, hl, hne, hit, hp⟩ := hit
  have hT : s.TypeIs (.ref it) "itertools.permutations" := ⟨_, hit, rfl⟩
  refine wpAny_callSpecial?_slot (name := Str.ofString "__next__") hT slot_pm_next (wpAny_call_entry slot_pm_next hT entry_pm_next ?_ (args_pm_next _))
  obtain ⟨hp0, g, d, tk, os⟩ := s
  have hl0 := hl
  match ts, hl with
  | [t0, t1], _ =>
  unfold Builtin.«itertools.permutations.__next__»
  repeat (first
    | (with_reducible refine wpAny_field hit rfl (by rfl) ?_)
    | with_reducible refine wpAny_loadPart_at hit ?_
    | with_reducible refine wpAny_loadPart_at hp ?_
    | wp_step
    | dsimp only)
  have hit1 : (hp0.update it (Obj.mapFields fun x => x.setIfInBounds 1 (rawInt 1))).get? it = some (pmO (([.ref pool, rawInt 1, rawInt (2 : Nat), last] ++ nums 2 0).toArray)) := (Heap.get?_update_self _ hit rfl).trans (by simp [rec, Obj.mapFields])
  refine fin_row2 (us' := row 2 0 [t0, t1]) (by unfold row rec nums; rfl) hit1 (last := last) rfl (by simp [row, ix]) fun h' t ht h1 k h2 => ?_
  have k' : ∀ b o, b ≠ it → hp0.get? b = some o → h'.get? b = some o := fun b o hb ho => k b o hb ((Heap.get?_update_ne _ _ _ _ hb).trans ho)
  exact hQ h' [t0, t1] t (ht.trans (Heap.size_update ..)) hl0 (at_next (t := t) hl0 hne (by simp [rec]) h1 (k' _ _ hne hp)) k' h2
theorem item21 {it pool : Addr} {Q : Option Value → Shared → Prop} (hit : At s.heap it pool 2 1) (hQ : Came s it pool 2 1 Q) : wpAny (model prog w) A (callSpecial? (.ref it) "__next__") Q E s := by
  obtain ⟨last, ts, hl, hne, hit, hp⟩ := hit
  have hT : s.TypeIs (.ref it) "itertools.permutations" := ⟨_, hit, rfl⟩
  refine wpAny_callSpecial?_slot (name := Str.ofString "__next__") hT slot_pm_next (wpAny_call_entry slot_pm_next hT entry_pm_next ?_ (args_pm_next _))
  obtain ⟨hp0, g, d, tk, os⟩ := s
  have hl0 := hl
  match ts, hl with
  | [t0, t1], _ =>
  unfold Builtin.«itertools.permutations.__next__»
  repeat (first
    | (with_reducible refine wpAny_field hit rfl (by rfl) ?_)
    | with_reducible refine wpAny_loadPart_at hit ?_
    | with_reducible refine wpAny_loadPart_at hp ?_
    | wp_step
    | dsimp only)
  split
  case h_1 idx cyc hx =>
    have e2 : some (idx, cyc) = some (ix 2 1, cy 2 1) := hx.symm.trans (by kernel_rfl)
    cases e2
    clear hx
    refine wpAny_bind ?_
    unfold Builtin.Itertools.itSetNumbersFrom
    refine wpAny_updateFields hit rfl ?_ (by show ((rec 2 1 pool last).extract 0 4 ++ _).size ≤ _; simp [rec, nums, ix, cy, sizeLine])
    have hit1 : (hp0.update it (Obj.mapFields fun fs => fs.extract 0 4 ++ (List.map (fun n : Nat => rawInt (n : Int)) (ix 2 1 ++ cy 2 1)).toArray)).get? it = some (pmO (([.ref pool, rawInt 1, rawInt (2 : Nat), last] ++ nums 2 1).toArray)) :=
      (Heap.get?_update_self _ hit rfl).trans (by simp [rec, nums, ix, cy, Obj.mapFields])
    refine wpAny_bind (fin_row2 (us' := row 2 1 [t0, t1]) (by rfl) hit1 (last := last) rfl (by simp [row, ix]) fun h' t ht h1 k h2 => ?_)
    have k' : ∀ b o, b ≠ it → hp0.get? b = some o → h'.get? b = some o := fun b o hb ho => k b o hb ((Heap.get?_update_ne _ _ _ _ hb).trans ho)
    exact hQ h' [t0, t1] t (ht.trans (Heap.size_update ..)) hl0 (at_next (t := t) hl0 hne (by simp [rec]) h1 (k' _ _ hne hp)) k' h2
  case h_2 hx =>
    exact absurd (hx.symm.trans (show _ = some (ix 2 1, cy 2 1) by kernel_rfl)) (fun z => nomatch z)
theorem item30 {it pool : Addr} {Q : Option Value → Shared → Prop} (hit : At s.heap it pool 3 0) (hQ : Came s it pool 3 0 Q) : wpAny (model prog w) A (callSpecial? (.ref it) "__next__") Q E s := by
  obtain ⟨last, ts, hl, hne, hit, hp⟩ := hit
  have hT : s.TypeIs (.ref it) "itertools.permutations" := ⟨_, hit, rfl⟩
  refine wpAny_callSpecial?_slot (name := Str.ofString "__next__") hT slot_pm_next (wpAny_call_entry slot_pm_next hT entry_pm_next ?_ (args_pm_next _))
  obtain ⟨hp0, g, d, tk, os⟩ := s
  have hl0 := hl
  match ts, hl with
  | [t0, t1, t2], _ =>
  unfold Builtin.«itertools.permutations.__next__»
  repeat (first
    | (with_reducible refine wpAny_field hit rfl (by rfl) ?_)
    | with_reducible refine wpAny_loadPart_at hit ?_
    | with_reducible refine wpAny_loadPart_at hp ?_
    | wp_step
    | dsimp only)
  have hit1 : (hp0.update it (Obj.mapFields fun x => x.setIfInBounds 1 (rawInt 1))).get? it = some (pmO (([.ref pool, rawInt 1, rawInt (3 : Nat), last] ++ nums 3 0).toArray)) := (Heap.get?_update_self _ hit rfl).trans (by simp [rec, Obj.mapFields])
  refine fin_row2 (us' := row 3 0 [t0, t1, t2]) (by unfold row rec nums; rfl) hit1 (last := last) rfl (by simp [row, ix]) fun h' t ht h1 k h2 => ?_
  have k' : ∀ b o, b ≠ it → hp0.get? b = some o → h'.get? b = some o := fun b o hb ho => k b o hb ((Heap.get?_update_ne _ _ _ _ hb).trans ho)
  exact hQ h' [t0, t1, t2] t (ht.trans (Heap.size_update ..)) hl0 (at_next (t := t) hl0 hne (by simp [rec]) h1 (k' _ _ hne hp)) k' h2
theorem item31 {it pool : Addr} {Q : Option Value → Shared → Prop} (hit : At s.heap it pool 3 1) (hQ : Came s it pool 3 1 Q) : wpAny (model prog w) A (callSpecial? (.ref it) "__next__") Q E s := by
  obtain ⟨last, ts, hl, hne, hit, hp⟩ := hit
  have hT : s.TypeIs (.ref it) "itertools.permutations" := ⟨_, hit, rfl⟩
  refine wpAny_callSpecial?_slot (name := Str.ofString "__next__") hT slot_pm_next (wpAny_call_entry slot_pm_next hT entry_pm_next ?_ (args_pm_next _))
  obtain ⟨hp0, g, d, tk, os⟩ := s
  have hl0 := hl
  match ts, hl with
  | [t0, t1, t2], _ =>
  unfold Builtin.«itertools.permutations.__next__»
  repeat (first
    | (with_reducible refine wpAny_field hit rfl (by rfl) ?_)
    | with_reducible refine wpAny_loadPart_at hit ?_
    | with_reducible refine wpAny_loadPart_at hp ?_
    | wp_step
    | dsimp only)
  split
  case h_1 idx cyc hx =>
    have e2 : some (idx, cyc) = some (ix 3 1, cy 3 1) := hx.symm.trans (by kernel_rfl)
    cases e2
    clear hx
    refine wpAny_bind ?_
    unfold Builtin.Itertools.itSetNumbersFrom
    refine wpAny_updateFields hit rfl ?_ (by show ((rec 3 1 pool last).extract 0 4 ++ _).size ≤ _; simp [rec, nums, ix, cy, sizeLine])
    have hit1 : (hp0.update it (Obj.mapFields fun fs => fs.extract 0 4 ++ (List.map (fun n : Nat => rawInt (n : Int)) (ix 3 1 ++ cy 3 1)).toArray)).get? it = some (pmO (([.ref pool, rawInt 1, rawInt (3 : Nat), last] ++ nums 3 1).toArray)) :=
      (Heap.get?_update_self _ hit rfl).trans (by simp [rec, nums, ix, cy, Obj.mapFields])
    refine wpAny_bind (fin_row2 (us' := row 3 1 [t0, t1, t2]) (by rfl) hit1 (last := last) rfl (by simp [row, ix]) fun h' t ht h1 k h2 => ?_)
    have k' : ∀ b o, b ≠ it → hp0.get? b = some o → h'.get? b = some o := fun b o hb ho => k b o hb ((Heap.get?_update_ne _ _ _ _ hb).trans ho)
    exact hQ h' [t0, t1, t2] t (ht.trans (Heap.size_update ..)) hl0 (at_next (t := t) hl0 hne (by simp [rec]) h1 (k' _ _ hne hp)) k' h2
  case h_2 hx =>
    exact absurd (hx.symm.trans (show _ = some (ix 3 1, cy 3 1) by kernel_rfl)) (fun z => nomatch z)
theorem item32 {it pool : Addr} {Q : Option Value → Shared → Prop} (hit : At s.heap it pool 3 2) (hQ : Came s it pool 3 2 Q) : wpAny (model prog w) A (callSpecial? (.ref it) "__next__") Q E s := by
  obtain ⟨last, ts, hl, hne, hit, hp⟩ := hit
  have hT : s.TypeIs (.ref it) "itertools.permutations" := ⟨_, hit, rfl⟩
  refine wpAny_callSpecial?_slot (name := Str.ofString "__next__") hT slot_pm_next (wpAny_call_entry slot_pm_next hT entry_pm_next ?_ (args_pm_next _))
  obtain ⟨hp0, g, d, tk, os⟩ := s
  have hl0 := hl
  match ts, hl with
  | [t0, t1, t2], _ =>
  unfold Builtin.«itertools.permutations.__next__»
  repeat (first
    | (with_reducible refine wpAny_field hit rfl (by rfl) ?_)
    | with_reducible refine wpAny_loadPart_at hit ?_
    | with_reducible refine wpAny_loadPart_at hp ?_
    | wp_step
    | dsimp only)
  split
  case h_1 idx cyc hx =>
    have e2 : some (idx, cyc) = some (ix 3 2, cy 3 2) := hx.symm.trans (by kernel_rfl)
    cases e2
    clear hx
    refine wpAny_bind ?_
    unfold Builtin.Itertools.itSetNumbersFrom
    refine wpAny_updateFields hit rfl ?_ (by show ((rec 3 2 pool last).extract 0 4 ++ _).size ≤ _; simp [rec, nums, ix, cy, sizeLine])
    have hit1 : (hp0.update it (Obj.mapFields fun fs => fs.extract 0 4 ++ (List.map (fun n : Nat => rawInt (n : Int)) (ix 3 2 ++ cy 3 2)).toArray)).get? it = some (pmO (([.ref pool, rawInt 1, rawInt (3 : Nat), last] ++ nums 3 2).toArray)) :=
      (Heap.get?_update_self _ hit rfl).trans (by simp [rec, nums, ix, cy, Obj.mapFields])
    refine wpAny_bind (fin_row2 (us' := row 3 2 [t0, t1, t2]) (by rfl) hit1 (last := last) rfl (by simp [row, ix]) fun h' t ht h1 k h2 => ?_)
    have k' : ∀ b o, b ≠ it → hp0.get? b = some o → h'.get? b = some o := fun b o hb ho => k b o hb ((Heap.get?_update_ne _ _ _ _ hb).trans ho)
    exact hQ h' [t0, t1, t2] t (ht.trans (Heap.size_update ..)) hl0 (at_next (t := t) hl0 hne (by simp [rec]) h1 (k' _ _ hne hp)) k' h2
  case h_2 hx =>
    exact absurd (hx.symm.trans (show _ = some (ix 3 2, cy 3 2) by kernel_rfl)) (fun z => nomatch z)
theorem item33 {it pool : Addr} {Q : Option Value → Shared → Prop} (hit : At s.heap it pool 3 3) (hQ : Came s it pool 3 3 Q) : wpAny (model prog w) A (callSpecial? (.ref it) "__next__") Q E s := by
  obtain ⟨last, ts, hl, hne, hit, hp⟩ := hit
  have hT : s.TypeIs (.ref it) "itertools.permutations" := ⟨_, hit, rfl⟩
  refine wpAny_callSpecial?_slot (name := Str.ofString "__next__") hT slot_pm_next (wpAny_call_entry slot_pm_next hT entry_pm_next ?_ (args_pm_next _))
  obtain ⟨hp0, g, d, tk, os⟩ := s
  have hl0 := hl
  match ts, hl with
  | [t0, t1, t2], _ =>
  unfold Builtin.«itertools.permutations.__next__»
  repeat (first
    | (with_reducible refine wpAny_field hit rfl (by rfl) ?_)
    | with_reducible refine wpAny_loadPart_at hit ?_
    | with_reducible refine wpAny_loadPart_at hp ?_
    | wp_step
    | dsimp only)
  split
  case h_1 idx cyc hx =>
    have e2 : some (idx, cyc) = some (ix 3 3, cy 3 3) := hx.symm.trans (by kernel_rfl)
    cases e2
    clear hx
    refine wpAny_bind ?_
    unfold Builtin.Itertools.itSetNumbersFrom
    refine wpAny_updateFields hit rfl ?_ (by show ((rec 3 3 pool last).extract 0 4 ++ _).size ≤ _; simp [rec, nums, ix, cy, sizeLine])
    have hit1 : (hp0.update it (Obj.mapFields fun fs => fs.extract 0 4 ++ (List.map (fun n : Nat => rawInt (n : Int)) (ix 3 3 ++ cy 3 3)).toArray)).get? it = some (pmO (([.ref pool, rawInt 1, rawInt (3 : Nat), last] ++ nums 3 3).toArray)) :=
      (Heap.get?_update_self _ hit rfl).trans (by simp [rec, nums, ix, cy, Obj.mapFields])
    refine wpAny_bind (fin_row2 (us' := row 3 3 [t0, t1, t2]) (by rfl) hit1 (last := last) rfl (by simp [row, ix]) fun h' t ht h1 k h2 => ?_)
    have k' : ∀ b o, b ≠ it → hp0.get? b = some o → h'.get? b = some o := fun b o hb ho => k b o hb ((Heap.get?_update_ne _ _ _ _ hb).trans ho)
    exact hQ h' [t0, t1, t2] t (ht.trans (Heap.size_update ..)) hl0 (at_next (t := t) hl0 hne (by simp [rec]) h1 (k' _ _ hne hp)) k' h2
  case h_2 hx =>
    exact absurd (hx.symm.trans (show _ = some (ix 3 3, cy 3 3) by kernel_rfl)) (fun z => nomatch z)
theorem item34 {it pool : Addr} {Q : Option Value → Shared → Prop} (hit : At s.heap it pool 3 4) (hQ : Came s it pool 3 4 Q) : wpAny (model prog w) A (callSpecial? (.ref it) "__next__") Q E s := by
  obtain ⟨last, ts, hl, hne, hit, hp⟩ := hit
  have hT : s.TypeIs (.ref it) "itertools.permutations" := ⟨_, hit, rfl⟩
  refine wpAny_callSpecial?_slot (name := Str.ofString "__next__") hT slot_pm_next (wpAny_call_entry slot_pm_next hT entry_pm_next ?_ (args_pm_next _))
  obtain ⟨hp0, g, d, tk, os⟩ := s
  have hl0 := hl
  match ts, hl with
  | [t0, t1, t2], _ =>
  unfold Builtin.«itertools.permutations.__next__»
  repeat (first
    | (with_reducible refine wpAny_field hit rfl (by rfl) ?_)
    | with_reducible refine wpAny_loadPart_at hit ?_
    | with_reducible refine wpAny_loadPart_at hp ?_
    | wp_step
    | dsimp only)
  split
  case h_1 idx cyc hx =>
    have e2 : some (idx, cyc) = some (ix 3 4, cy 3 4) := hx.symm.trans (by kernel_rfl)
    cases e2
    clear hx
    refine wpAny_bind ?_
    unfold Builtin.Itertools.itSetNumbersFrom
    refine wpAny_updateFields hit rfl ?_ (by show ((rec 3 4 pool last).extract 0 4 ++ _).size ≤ _; simp [rec, nums, ix, cy, sizeLine])
    have hit1 : (hp0.update it (Obj.mapFields fun fs => fs.extract 0 4 ++ (List.map (fun n : Nat => rawInt (n : Int)) (ix 3 4 ++ cy 3 4)).toArray)).get? it = some (pmO (([.ref pool, rawInt 1, rawInt (3 : Nat), last] ++ nums 3 4).toArray)) :=
      (Heap.get?_update_self _ hit rfl).trans (by simp [rec, nums, ix, cy, Obj.mapFields])
    refine wpAny_bind (fin_row2 (us' := row 3 4 [t0, t1, t2]) (by rfl) hit1 (last := last) rfl (by simp [row, ix]) fun h' t ht h1 k h2 => ?_)
    have k' : ∀ b o, b ≠ it → hp0.get? b = some o → h'.get? b = some o := fun b o hb ho => k b o hb ((Heap.get?_update_ne _ _ _ _ hb).trans ho)
    exact hQ h' [t0, t1, t2] t (ht.trans (Heap.size_update ..)) hl0 (at_next (t := t) hl0 hne (by simp [rec]) h1 (k' _ _ hne hp)) k' h2
  case h_2 hx =>
    exact absurd (hx.symm.trans (show _ = some (ix 3 4, cy 3 4) by kernel_rfl)) (fun z => nomatch z)
theorem item35 {it pool : Addr} {Q : Option Value → Shared → Prop} (hit : At s.heap it pool 3 5) (hQ : Came s it pool 3 5 Q) : wpAny (model prog w) A (callSpecial? (.ref it) "__next__") Q E s := by
  obtain ⟨last, ts, hl, hne, hit, hp⟩ := hit
  have hT : s.TypeIs (.ref it) "itertools.permutations" := ⟨_, hit, rfl⟩
  refine wpAny_callSpecial?_slot (name := Str.ofString "__next__") hT slot_pm_next (wpAny_call_entry slot_pm_next hT entry_pm_next ?_ (args_pm_next _))
  obtain ⟨hp0, g, d, tk, os⟩ := s
  have hl0 := hl
  match ts, hl with
  | [t0, t1, t2], _ =>
  unfold Builtin.«itertools.permutations.__next__»
  repeat (first
    | (with_reducible refine wpAny_field hit rfl (by rfl) ?_)
    | with_reducible refine wpAny_loadPart_at hit ?_
    | with_reducible refine wpAny_loadPart_at hp ?_
    | wp_step
    | dsimp only)
  split
  case h_1 idx cyc hx =>
    have e2 : some (idx, cyc) = some (ix 3 5, cy 3 5) := hx.symm.trans (by kernel_rfl)
    cases e2
    clear hx
    refine wpAny_bind ?_
    unfold Builtin.Itertools.itSetNumbersFrom
    refine wpAny_updateFields hit rfl ?_ (by show ((rec 3 5 pool last).extract 0 4 ++ _).size ≤ _; simp [rec, nums, ix, cy, sizeLine])
    have hit1 : (hp0.update it (Obj.mapFields fun fs => fs.extract 0 4 ++ (List.map (fun n : Nat => rawInt (n : Int)) (ix 3 5 ++ cy 3 5)).toArray)).get? it = some (pmO (([.ref pool, rawInt 1, rawInt (3 : Nat), last] ++ nums 3 5).toArray)) :=
      (Heap.get?_update_self _ hit rfl).trans (by simp [rec, nums, ix, cy, Obj.mapFields])
    refine wpAny_bind (fin_row2 (us' := row 3 5 [t0, t1, t2]) (by rfl) hit1 (last := last) rfl (by simp [row, ix]) fun h' t ht h1 k h2 => ?_)
    have k' : ∀ b o, b ≠ it → hp0.get? b = some o → h'.get? b = some o := fun b o hb ho => k b o hb ((Heap.get?_update_ne _ _ _ _ hb).trans ho)
    exact hQ h' [t0, t1, t2] t (ht.trans (Heap.size_update ..)) hl0 (at_next (t := t) hl0 hne (by simp [rec]) h1 (k' _ _ hne hp)) k' h2
  case h_2 hx =>
    exact absurd (hx.symm.trans (show _ = some (ix 3 5, cy 3 5) by kernel_rfl)) (fun z => nomatch z)
theorem stop1 {it pool : Addr} {Q : Option Value → Shared → Prop} (hh : A.handled = none) (hit : At s.heap it pool 1 1)
    (hE : ∀ h' e, (∀ b o, b ≠ it → s.heap.get? b = some o → h'.get? b = some o) → (∃ o, h'.get? e = some o ∧ o.cls = .type "StopIteration") → E (.ref e) { s with heap := h' }) : wpAny (model prog w) A (callSpecial? (.ref it) "__next__") Q E s := by
  obtain ⟨last, ts, hl, hne, hit, hp⟩ := hit
  have hT : s.TypeIs (.ref it) "itertools.permutations" := ⟨_, hit, rfl⟩
  refine wpAny_callSpecial?_slot (name := Str.ofString "__next__") hT slot_pm_next (wpAny_call_entry slot_pm_next hT entry_pm_next ?_ (args_pm_next _))
  obtain ⟨hp0, g, d, tk, os⟩ := s
  have hl0 := hl
  match ts, hl with
  | [t0], _ =>
  unfold Builtin.«itertools.permutations.__next__»
  repeat (first
    | (with_reducible refine wpAny_field hit rfl (by rfl) ?_)
    | with_reducible refine wpAny_loadPart_at hit ?_
    | with_reducible refine wpAny_loadPart_at hp ?_
    | wp_step
    | dsimp only)
  split
  case h_1 idx cyc hx =>
    have e2 : some (idx, cyc) = none := hx.symm.trans (by kernel_rfl)
    cases e2
  case h_2 hx =>
    refine wpAny_bind (wpAny_setField hit rfl (by simp [rec]) ?_)
    unfold Builtin.Itertools.itStop
    refine wpAny_bind ?_
    simp only [newExc, newTuple]
    refine wpAny_bind (wpAny_newObj_type ?_ (by size_fits))
    refine wpAny_bind (m := firstArgMember _ _) (wpAny_of_eq (a := Value.none) (by first | rfl | (simp only [firstArgMember]; rfl)) ?_)
    refine wpAny_newObj_type ?_ (by size_fits)
    simp only [raiseNew]
    refine wpAny_bind (wpAny_handled ?_)
    first | rw [show A.in1.handled = none from hh] | rw [hh]
    refine wpAny_bind (wpAny_pure (wpAny_throw ?_))
    exact hE _ _ (((Heap.SameBut.update ..).extBut.push _).push _) ⟨_, Heap.get?_push_size _ rfl, rfl⟩
theorem stop2 {it pool : Addr} {Q : Option Value → Shared → Prop} (hh : A.handled = none) (hit : At s.heap it pool 2 2)
    (hE : ∀ h' e, (∀ b o, b ≠ it → s.heap.get? b = some o → h'.get? b = some o) → (∃ o, h'.get? e = some o ∧ o.cls = .type "StopIteration") → E (.ref e) { s with heap := h' }) : wpAny (model prog w) A (callSpecial? (.ref it) "__next__") Q E s := by
  obtain ⟨last, ts, hl, hne, hit, hp⟩ := hit
  have hT : s.TypeIs (.ref it) "itertools.permutations" := ⟨_, hit, rfl⟩
  refine wpAny_callSpecial?_slot (name := Str.ofString "__next__") hT slot_pm_next (wpAny_call_entry slot_pm_next hT entry_pm_next ?_ (args_pm_next _))
  obtain ⟨hp0, g, d, tk, os⟩ := s
  have hl0 := hl
  match ts, hl with
  | [t0, t1], _ =>
  unfold Builtin.«itertools.permutations.__next__»
  repeat (first
    | (with_reducible refine wpAny_field hit rfl (by rfl) ?_)
    | with_reducible refine wpAny_loadPart_at hit ?_
    | with_reducible refine wpAny_loadPart_at hp ?_
    | wp_step
    | dsimp only)
  split
  case h_1 idx cyc hx =>
    have e2 : some (idx, cyc) = none := hx.symm.trans (by kernel_rfl)
    cases e2
  case h_2 hx =>
    refine wpAny_bind (wpAny_setField hit rfl (by simp [rec]) ?_)
    unfold Builtin.Itertools.itStop
    refine wpAny_bind ?_
    simp only [newExc, newTuple]
    refine wpAny_bind (wpAny_newObj_type ?_ (by size_fits))
    refine wpAny_bind (m := firstArgMember _ _) (wpAny_of_eq (a := Value.none) (by first | rfl | (simp only [firstArgMember]; rfl)) ?_)
    refine wpAny_newObj_type ?_ (by size_fits)
    simp only [raiseNew]
    refine wpAny_bind (wpAny_handled ?_)
    first | rw [show A.in1.handled = none from hh] | rw [hh]
    refine wpAny_bind (wpAny_pure (wpAny_throw ?_))
    exact hE _ _ (((Heap.SameBut.update ..).extBut.push _).push _) ⟨_, Heap.get?_push_size _ rfl, rfl⟩
theorem stop3 {it pool : Addr} {Q : Option Value → Shared → Prop} (hh : A.handled = none) (hit : At s.heap it pool 3 6)
    (hE : ∀ h' e, (∀ b o, b ≠ it → s.heap.get? b = some o → h'.get? b = some o) → (∃ o, h'.get? e = some o ∧ o.cls = .type "StopIteration") → E (.ref e) { s with heap := h' }) : wpAny (model prog w) A (callSpecial? (.ref it) "__next__") Q E s := by
  obtain ⟨last, ts, hl, hne, hit, hp⟩ := hit
  have hT : s.TypeIs (.ref it) "itertools.permutations" := ⟨_, hit, rfl⟩
  refine wpAny_callSpecial?_slot (name := Str.ofString "__next__") hT slot_pm_next (wpAny_call_entry slot_pm_next hT entry_pm_next ?_ (args_pm_next _))
  obtain ⟨hp0, g, d, tk, os⟩ := s
  have hl0 := hl
  match ts, hl with
  | [t0, t1, t2], _ =>
  unfold Builtin.«itertools.permutations.__next__»
  repeat (first
    | (with_reducible refine wpAny_field hit rfl (by rfl) ?_)
    | with_reducible refine wpAny_loadPart_at hit ?_
    | with_reducible refine wpAny_loadPart_at hp ?_
    | wp_step
    | dsimp only)
  split
  case h_1 idx cyc hx =>
    have e2 : some (idx, cyc) = none := hx.symm.trans (by kernel_rfl)
    cases e2
  case h_2 hx =>
    refine wpAny_bind (wpAny_setField hit rfl (by simp [rec]) ?_)
    unfold Builtin.Itertools.itStop
    refine wpAny_bind ?_
    simp only [newExc, newTuple]
    refine wpAny_bind (wpAny_newObj_type ?_ (by size_fits))
    refine wpAny_bind (m := firstArgMember _ _) (wpAny_of_eq (a := Value.none) (by first | rfl | (simp only [firstArgMember]; rfl)) ?_)
    refine wpAny_newObj_type ?_ (by size_fits)
    simp only [raiseNew]
    refine wpAny_bind (wpAny_handled ?_)
    first | rw [show A.in1.handled = none from hh] | rw [hh]
    refine wpAny_bind (wpAny_pure (wpAny_throw ?_))
    exact hE _ _ (((Heap.SameBut.update ..).extBut.push _).push _) ⟨_, Heap.get?_push_size _ rfl, rfl⟩
theorem pm_item {it pool : Addr} {Q : Option Value → Shared → Prop} : ∀ n i, i < fct n → At s.heap it pool n i → Came s it pool n i Q → wpAny (model prog w) A (callSpecial? (.ref it) "__next__") Q E s
  | 1, 0, _, a, b => item10 a b
  | 2, 0, _, a, b => item20 a b
  | 2, 1, _, a, b => item21 a b
  | 3, 0, _, a, b => item30 a b
  | 3, 1, _, a, b => item31 a b
  | 3, 2, _, a, b => item32 a b
  | 3, 3, _, a, b => item33 a b
  | 3, 4, _, a, b => item34 a b
  | 3, 5, _, a, b => item35 a b
  | 1, _ + 1, h, _, _ => absurd h (by simp [fct])
  | 2, _ + 2, h, _, _ => absurd h (by simp [fct])
  | 3, _ + 6, h, _, _ => absurd h (by simp [fct])
  | 0, _, h, _, _ => absurd h (by simp [fct])
  | _ + 4, _, h, _, _ => absurd h (by simp [fct])
theorem pm_stop {it pool : Addr} {Q : Option Value → Shared → Prop} (hh : A.handled = none) : ∀ n, 1 ≤ n → n ≤ 3 → At s.heap it pool n (fct n) →
    (∀ h' e, (∀ b o, b ≠ it → s.heap.get? b = some o → h'.get? b = some o) → (∃ o, h'.get? e = some o ∧ o.cls = .type "StopIteration") → E (.ref e) { s with heap := h' }) → wpAny (model prog w) A (callSpecial? (.ref it) "__next__") Q E s
  | 1, _, _, a, b => stop1 hh a b
  | 2, _, _, a, b => stop2 hh a b
  | 3, _, _, a, b => stop3 hh a b
end
end PM
namespace PM
open PySem PySem.Spec PyProof.Rows L2
open Sem (wp)
theorem At.keep {h h' : Heap} {it pool : Addr} {n i : Nat} (a : At h it pool n i) (k : ∀ b ∈ [it, pool], ∀ o, h.get? b = some o → h'.get? b = some o) : At h' it pool n i := by
  obtain ⟨l, ts, h1, h2, h3, h4⟩ := a
  exact ⟨l, ts, h1, h2, k _ (by simp) _ h3, k _ (by simp) _ h4⟩
/-- the order, as values -/
def rowV (n i : Nat) : List V := (ix n i).map fun j : Nat => V.int (j : Int)
theorem ix_low : ∀ n i, ∀ j ∈ ix n i, j < n := by
  intro n i
  unfold ix
  split <;> simp
theorem row_vals {n i : Nat} {ts : List Tok} (hl : ts.length = n) : Vals (rowV n i) (row n i ts) := by
  have low := ix_low n i
  unfold rowV row
  generalize ix n i = l at low ⊢
  induction l with
  | nil => exact .nil
  | cons j l ih =>
    refine .cons ?_ (ih fun k hk => low k (List.mem_cons_of_mem _ hk))
    have hj : j < ts.length := by rw [hl]; exact low j (List.mem_cons_self ..)
    refine ⟨ts[j], ?_⟩
    unfold poolV
    simp [Array.getD, hj]
theorem row_len {n i : Nat} (ts : List Tok) : (row n i ts).length ≤ 3 := by
  unfold row ix
  split <;> simp
/-- what a for walks over -/
def ItPm (n : Nat) : It :=
  { go := fun i _ => i < fct n, yld := fun i H x H' => ∃ a, x = .ref a ∧ H a = none ∧ H' = upd H a (.tup (rowV n i)), stop := fun i _ => fct n ≤ i }
theorem turn_pm {P : Program} {w : World} {K : PySem.W.Frag} {tg : Expr} {n : Nat} (h1 : 1 ≤ n) (h3 : n ≤ 3) (it pool : Addr) : Turn P w K tg (ItPm n) [it, pool] it (fun i h => At h it pool n i ∧ i ≤ fct n) where
  mem := by simp
  obj := by
    intro i h a b hb
    replace a := a.1
    obtain ⟨l, ts, _, _, e1, e2⟩ := a
    have e : b = it ∨ b = pool := by simpa using hb
    rcases e with rfl | rfl
    · exact ⟨_, e1, fun v z => by cases z⟩
    · exact ⟨_, e2, fun v z => by cases z⟩
  keep := fun i h h' a k => ⟨a.1.keep k, a.2⟩
  item := by
    intro X hP hw hK hc i pins s σ H E I hf st hg
    subst hP hw hK
    replace st := st.1
    unfold pyNext
    refine wpAny_bind (wpAny_attempt (pm_item n i hg st fun h' ts t ht hl a' k hT => ?_))
    have na : t ≠ it := fun z => by
      obtain ⟨l, ts', _, _, e1, _⟩ := st
      have := Heap.lt_size e1
      rw [← z, ht] at this; exact absurd this (Nat.lt_irrefl _)
    have hm : ∀ b o, b ∉ [it, pool] → s.heap.get? b = some o → h'.get? b = some o := fun b o hb => k b o (fun z => hb (by simp [z]))
    have new : ObjOk X.prog X.w (upd H t (.tup (rowV n i))) h' t (.tup (rowV n i)) :=
      ⟨by have := row_len (n := n) (i := i) ts; have e := (row_vals (i := i) hl).length; rw [e, sizeLine_eq]; omega, row n i ts, row_vals hl, ⟨_, hT, rfl, _, rfl⟩⟩
    have I1 : Inv X pins σ (upd H t (.tup (rowV n i))) { s with heap := h', toks := s.toks } := I.turnedNew (ch := [it, pool]) hm hf (Nat.le_of_eq ht.symm) new
    refine wpAny_pure ⟨_, rfl, ?_⟩
    obtain ⟨l, ts', _, _, e1, _⟩ := id a'
    refine go_of (show h'.get? it = some _ from e1) rfl rfl (by decide) ?_
    refine ⟨.ref t, _, I1, rfl, ⟨t, rfl, I.hok.fresh (Nat.le_of_eq ht.symm), rfl⟩, ⟨a', hg⟩, fun b hb => ?_⟩
    have nb : b ≠ t := fun z => by
      obtain ⟨l, ts', _, _, e1, e2⟩ := st
      have e : b = it ∨ b = pool := by simpa using hb
      have lt : b < s.heap.objs.size := by
        rcases e with rfl | rfl
        · exact Heap.lt_size e1
        · exact Heap.lt_size e2
      rw [z, ht] at lt; exact absurd lt (Nat.lt_irrefl _)
    rw [upd_ne nb]; exact (hf b hb).1
  done := by
    intro X hP hw hK hc i pins s σ H E I hf st hg
    subst hP hw hK
    have hg : i = fct n := Nat.le_antisymm st.2 hg
    replace st := st.1
    subst hg
    unfold pyNext
    refine wpAny_bind (wpAny_attempt (pm_stop (I.ok.hd hc) n h1 h3 st fun h' e k hx => ?_))
    obtain ⟨f0, f1, f2, f3, f4, f5⟩ := hf it (by simp)
    obtain ⟨o, ho, hcl⟩ := hx
    have hTe : (⟨h', s.gens, s.drawn, s.toks, s.os⟩ : Shared).TypeIs (.ref e) "StopIteration" := ⟨_, ho, hcl⟩
    refine wpAny_bind (wpAny_isInstance (b := true) hTe (by rw [isSubtype_type]; kernel_rfl) ?_)
    exact wpAny_pure ⟨rfl, I.turned (t' := s.toks) k f0 f1 f3 f4 f5⟩
  self := fun A i s Q E st h => pm_iter st.1 h
end PM
namespace PM
open PySem PySem.Spec PyProof.Rows L2
open Sem (wp)
theorem bind_pm (v : Value) : Builtin.Itertools.itBindNamed "permutations" ["iterable", "r"] 1 2 [v] [] = (pure [some v, none] : Sem (List (Option Value))) := by first | kernel_rfl | rfl
theorem plain_pm_new : plainId "itertools.permutations.__new__" = true := by decide +kernel
theorem str_pm : ("itertools." ++ "permutations" : String) = "itertools.permutations" := by decide +kernel
theorem pool_of : ∀ {n : Nat} {acc : Array Value}, ItemsOf (fun i v => ∃ t, v = .int (0 + (i : Nat) * 1) t) acc n → ∃ ts : List Tok, ts.length = n ∧ acc.toList = poolV ts := by
  intro n acc hi
  refine ⟨acc.toList.map fun v => match v with | .int _ t => t | _ => 0, by rw [List.length_map, Array.length_toList]; exact hi.1, ?_⟩
  refine List.ext_getElem? fun i => ?_
  unfold poolV
  rw [List.getElem?_map, List.getElem?_zipIdx, List.getElem?_map]
  cases e : acc.toList[i]? with
  | none => rfl
  | some v =>
    obtain ⟨t, rfl⟩ := hi.2 i v (by rw [← e, Array.getElem?_toList])
    simp
theorem laid_pm {h : Heap} {n : Nat} {ts : List Tok} {r : Array Value} (hl : ts.length = n) (hr : r = rec n 0 h.objs.size .none) :
    At ((h.push { cls := .type "tuple", data := .seq (poolV ts).toArray }).push { cls := .type "itertools.permutations", dict := none, data := .fields r }) (h.push { cls := .type "tuple", data := .seq (poolV ts).toArray }).objs.size h.objs.size n 0 := by
  refine ⟨.none, ts, hl, ?_, ?_, ?_⟩
  · rw [Heap.size_push]; exact Nat.ne_of_lt (Nat.lt_succ_self _)
  · subst hr
    exact Heap.get?_push_size _ rfl
  · exact Heap.get?_push_of_some _ (Heap.get?_push_size _ rfl)
section
variable {prog : Program} {w : World} {A : Around} {E : Value → Shared → Prop} {R : Result → Shared → Prop} {s : Shared} {r : Addr} {b : Int} {t u v : Tok} {n : Nat}
theorem code_pm_new {Q : Value → Shared → Prop} (hh : A.handled = none) (hr : IsRange s.heap r 0 (n : Int) 1 t u v) (h1 : 1 ≤ n) (h3 : n ≤ 3)
    (h : ∀ (hm h' : Heap) (tk : Nat) (it pool : Addr), (∀ b o, s.heap.get? b = some o → hm.get? b = some o) → (∀ b o, hm.get? b = some o → h'.get? b = some o) → hm.objs.size ≤ it → hm.objs.size ≤ pool → At h' it pool n 0 → Q (.ref it) { s with heap := h', toks := tk }) :
    wpAny (model prog w) A (Builtin.«itertools.permutations.__new__» ⟨[.type "itertools.permutations", .ref r], []⟩) (fun fin s' => ∃ v, fin = Fin.done (.ret v) ∧ Q v s') E s := by
  obtain ⟨hp, g, d, tk, os⟩ := s
  have hsub := sub_pm
  have hdic := noDict_pm
  have hTI : (⟨hp, g, d, tk, os⟩ : Shared).TypeIs (.ref r) "range" := ⟨_, hr, rfl⟩
  have hsz : Builtin.Range.rangeSize 0 (n : Int) 1 = (n : Int) := (rangeSize_nat 0 (n : Int)).trans (by omega)
  have hsm : Builtin.Range.small 0 (n : Int) 1 = true := small_one (by omega) (by omega) (by omega) (by omega)
  unfold Builtin.«itertools.permutations.__new__»
  repeat (first
    | (with_reducible refine collect_range hh hr hsm hsz (Nat.le_trans h3 (by decide)) ?_)
    | (with_reducible refine wpAny_of_eq sub_pm ?_)
    | (with_reducible refine wpAny_of_eq (bind_pm _) ?_)
    | wp_step
    | (rw [str_pm])
    | simp only [List.head?_cons, Option.some_or, List.getElem?_cons_succ, List.getElem?_cons_zero, List.length_cons, List.length_nil, List.forIn_nil]
    | dsimp only)
  intro h' tk' acc hk hi
  obtain ⟨ts, hl, ea⟩ := pool_of hi
  rw [ea]
  have len : (poolV ts).length = n := (poolV_len ts).trans hl
  show wpAny _ _ (pure ((poolV ts).length : Int) >>= _) _ _ _
  refine wpAny_bind (wpAny_pure ?_)
  rw [len]
  rw [if_neg (by omega)]
  rw [if_neg (show ¬ (Builtin.Itertools.itTooMany (n : Int) = true) by rcases (by omega : n = 1 ∨ n = 2 ∨ n = 3) with rfl | rfl | rfl <;> decide)]
  unfold newTuple
  refine wpAny_bind (wpAny_newObj_type ?_ (by show (poolV ts).toArray.size ≤ sizeLine; rw [List.size_toArray, len, sizeLine_eq]; omega))
  unfold Builtin.Itertools.itNewRecord
  rw [hdic]
  refine wpAny_bind (m := if (!false) = true then _ else _) ?_
  rw [if_pos (by decide)]
  refine wpAny_newObj_type ?_ (by show Array.size _ ≤ _; simp [sizeLine]; omega)
  refine wpAny_pure ⟨_, rfl, h h' _ tk' _ h'.objs.size hk (fun b o e => ?_) ?_ (Nat.le_refl _) (laid_pm hl ?_)⟩
  · exact Heap.get?_push_of_some _ (Heap.get?_push_of_some _ e)
  · show h'.objs.size ≤ (h'.push _).objs.size
    rw [Heap.size_push]; exact Nat.le_succ _
  · rcases (by omega : n = 1 ∨ n = 2 ∨ n = 3) with rfl | rfl | rfl <;> (unfold rec nums; rfl)
theorem call_pm {Q : Value → Shared → Prop} (hh : A.handled = none) (hr : IsRange s.heap r 0 (n : Int) 1 t u v) (h1 : 1 ≤ n) (h3 : n ≤ 3)
    (h : ∀ (hm h' : Heap) (tk : Nat) (it pool : Addr), (∀ b o, s.heap.get? b = some o → hm.get? b = some o) → (∀ b o, hm.get? b = some o → h'.get? b = some o) → hm.objs.size ≤ it → hm.objs.size ≤ pool → At h' it pool n 0 → Q (.ref it) { s with heap := h', toks := tk }) :
    wpAny (model prog w) A (call (.type "itertools.permutations") [.ref r]) Q E s := by
  refine callType_codes (Q₁ := fun obj s₁ => s₁.TypeIs obj "itertools.permutations" ∧ Q obj s₁) called_pm (typeCall_pm_1 _) F.entry_object_init ?_ fun obj s₁ h₁ => ?_
  · refine codeAny_of_tree ?_
    show wpAny _ A.in1.in1 (do checkBuiltinCall "itertools.permutations.__new__" ⟨[.type "itertools.permutations", .ref r], []⟩; again (.builtin "itertools.permutations.__new__" ⟨[.type "itertools.permutations", .ref r], []⟩)) _ _ s
    refine wpAny_bind (wpAny_of_eq (newCall_pm_1 _) (wpAny_pure ⟨plainId_quiet plain_pm_new _, codeAny_builtin entry_pm_new ?_⟩))
    rw [Around.under_plainId plain_pm_new _]
    refine wpAny_mono (code_pm_new (A := A.in1.in1) (Q := fun v s' => s'.TypeIs v "itertools.permutations" ∧ Q v s') hh hr h1 h3 fun hm h' tk it pool k1 k2 l1 l2 a => (show (⟨h', s.gens, s.drawn, tk, s.os⟩ : Shared).TypeIs (.ref it) "itertools.permutations" ∧ Q (.ref it) ⟨h', s.gens, s.drawn, tk, s.os⟩ from ⟨?_, h hm h' tk it pool k1 k2 l1 l2 a⟩)) (fun fin s' hf => ?_) fun _ _ z => z
    · obtain ⟨l, ts, _, _, e1, _⟩ := a
      exact ⟨_, e1, rfl⟩
    · obtain ⟨v, rfl, q⟩ := hf
      exact q
  · exact ⟨h₁.1, F.args_object_init_2 obj _, object_init_meets called_pm.init.lookup called_pm.made (by decide) prog w A.in1 _ s₁ ⟨h₁.1, rfl, h₁.2⟩⟩
end
end PM
/-! AB16: what stands written at the module's top: tuples of texts, a table of such -/
namespace AB
open PySem PySem.Spec PyProof.Rows L2
/-- at a: a written tuple of texts -/
def KTup (K : PySem.W.Frag) (a : Addr) (ts : List Str) : Prop := ∃ (o : Obj) (its : Array Value) (n : Nat), K.lookup a = some o ∧ o.cls = .type "tuple" ∧ o.data = .seq its n ∧ its.size ≤ sizeLine ∧ Vals (ts.map V.str) its.toList
theorem KTup.sq {K : PySem.W.Frag} {a : Addr} {ts : List Str} (k : KTup K a ts) (H : Hp) : SqT K H a (ts.map V.str) := .inr k
/-- at d: a written table from texts to such -/
def KTab (K : PySem.W.Frag) (w : World) (d : Addr) (tbl : List (Str × List Str)) : Prop := (∃ es n, KDict K w d es n) ∧ ∀ z ts, tbl.lookup z = some ts → ∃ p, PySem.W.nsIn K d z = some (some (.ref p)) ∧ KTup K p ts
abbrev relK (K : PySem.W.Frag) : Rel (List Str) V := fun _ _ ts v => ∃ a, v = .ref a ∧ KTup K a ts
abbrev EK := Sl → Store → EO (List Str)
def AK (X : Cx) (W : WR) (e : Expr) (f : EK) : Prop := PE X e (tG (X.gx W.Tb) W (relK X.K) f)
section
variable {X : Cx} {W : WR} {pos : Pos} {a b : Expr} {f g : EF} {fk : EK}
def kC (ts : List Str) : EK := fun _ M => .ok ts M
theorem ak_nm {x : Str} {u : Addr} {ts : List Str} (hm : X.mg x = some (.ref u)) (k : KTup X.K u ts) (hg : Gl X x := by rfl) (hd : (x == ("__debug__" : Str)) = false := by decide) : AK X W (.Name x pos) (kC ts) := by
  refine (pe_glob hg hm (x := x) (v := V.ref u) rfl hd).pre fun σ H Q h => ?_
  obtain ⟨τ, M, ρ, rs, rm, r⟩ := h
  exact r.okv (.refl _) (.refl _) rm ⟨u, rfl, k⟩
def kAt (tbl : List (Str × List Str)) (k : A) (M : Store) : EO (List Str) := match k with
  | .str z => match tbl.lookup z with
    | some ts => .ok ts M
    | none => .bad
  | _ => .bad
def kIx (tbl : List (Str × List Str)) (g : EF) : EK := fun τ M => (g τ M).bind (kAt tbl)
theorem ix_kd {d : Addr} {es : Array DictEntry} {n : Nat} (D : KDict X.K X.w d es n) : IxR X (fun x y H Q => ∃ (z : Str) (u0 : Value) (v0 : V), x = .ref d ∧ y = .str z ∧ PySem.W.nsIn X.K d z = some (some u0) ∧ RelV v0 u0 ∧ Q v0 H) := by
  intro value slice pins s σ H x y v u Q I rx ry h hs
  obtain ⟨z, u0, v0, rfl, rfl, e, r, q⟩ := h
  cases rx
  exact tail_any (kd_type D I) PySem.F.slot_dict_getitem.lookup (op_item_kd D pins s σ H (.ref d) (.str z) (.ref d) u Q I rfl ry ⟨z, u0, v0, rfl, rfl, e, r, q⟩) hs
theorem ak_ix {x : Str} {d : Addr} {p : Pos} {tbl : List (Str × List Str)} (hm : X.mg x = some (.ref d)) (k : KTab X.K X.w d tbl) (hb : AE X W b g) (hg : Gl X x := by rfl) (hd : (x == ("__debug__" : Str)) = false := by decide) (hs : PlainIx b := by intro _ _; rfl) : AK X W (.Subscript (.Name x p) b pos) (kIx tbl g) := by
  obtain ⟨⟨es, n, D⟩, kt⟩ := k
  refine (pe_ix (ix_kd D) (pe_glob hg hm (x := x) (v := V.ref d) rfl hd) hb hs).pre fun σ H Q h => ?_
  refine (seqG Is h).imp fun y H1 h1 => ?_
  obtain ⟨τ, M, ρ, c, rs, rm, i, r⟩ := h1
  unfold kAt at r
  dsimp only at r
  split at r
  · rename_i z
    cases i
    split at r
    · rename_i ts e
      obtain ⟨p, e1, e2⟩ := kt z ts e
      exact ⟨z, .ref p, .ref p, rfl, rfl, e1, rfl, r.okv (.refl _) (.refl _) rm ⟨p, rfl, e2⟩⟩
    · exact r.elim
  · exact r.elim
/-- x in a written tuple -/
def inK (neg : Bool) (c : A) (ts : List Str) (M : Store) : EO A := match flat? c with
  | some v => .ok (.bl (if neg then !inV v (ts.map V.str) else inV v (ts.map V.str))) M
  | none => .bad
def eInK (neg : Bool) (f : EF) (g : EK) : EF := fun τ M => (f τ M).bind fun a M1 => (g τ M1).bind fun ts M2 => inK neg a ts M2
theorem inK_tK {neg : Bool} {σ : L2.St} {H : Hp} {Q : VK} (h : tG (X.gx W.Tb) W Is (eInK neg f fk) σ H Q) : tG (X.gx W.Tb) W Is f σ H fun x H1 => tG (X.gx W.Tb) W (relK X.K) fk σ H1 fun y H2 => rIn X.K neg x y H2 Q := by
  refine (seqG Is h).imp fun x H1 h1 => ?_
  refine (seqK Is Is.ext (relK X.K) h1).imp fun y H2 h2 => ?_
  obtain ⟨τ, M, ρ, c, ts, rs, rm, i, ⟨u, ey, k⟩, r⟩ := h2
  subst ey
  unfold inK at r
  split at r
  · rename_i v e
    obtain ⟨rfl, fl⟩ := flat_ok i e
    exact ⟨u, _, rfl, .inr (k.sq _), fl, by simp [flatV], r.okv (.refl _) (.refl _) rm (.bl _)⟩
  · exact r.elim
theorem ae_inK (ha : AE X W a f) (hb : AK X W b fk) (hm : behindInMarks .In b = false := by with_unfolding_all rfl) : AE X W (.Compare a [.In] [b] pos) (eInK false f fk) := (pe_cmpR op_in_seq ha hb hm).pre fun _ _ _ h => inK_tK h
theorem ae_ninK (ha : AE X W a f) (hb : AK X W b fk) (hm : behindInMarks .NotIn b = false := by with_unfolding_all rfl) : AE X W (.Compare a [.NotIn] [b] pos) (eInK true f fk) := (pe_cmpR op_notIn_seq ha hb hm).pre fun _ _ _ h => inK_tK h
theorem at_inK (ha : AE X W a f) (hb : AK X W b fk) (hm : behindInMarks .In b = false := by with_unfolding_all rfl) : AT X W (.Compare a [.In] [b] pos) (eB (eInK false f fk)) := (pt_cmpR op_in_seq ha hb hm).pre fun _ _ _ h => inK_tK (bool_tK h)
theorem at_ninK (ha : AE X W a f) (hb : AK X W b fk) (hm : behindInMarks .NotIn b = false := by with_unfolding_all rfl) : AT X W (.Compare a [.NotIn] [b] pos) (eB (eInK true f fk)) := (pt_cmpR op_notIn_seq ha hb hm).pre fun _ _ _ h => inK_tK (bool_tK h)
/-- x in a written table: yes, for a key that stands there -/
def inT (neg : Bool) (tbl : List (Str × List Str)) (c : A) (M : Store) : EO A := match c with
  | .str z => match tbl.lookup z with
    | some _ => .ok (.bl (!neg)) M
    | none => .bad
  | _ => .bad
def eInT (neg : Bool) (tbl : List (Str × List Str)) (f : EF) : EF := fun τ M => (f τ M).bind (inT neg tbl)
theorem inT_tK {neg : Bool} {tbl : List (Str × List Str)} {d : Addr} (kt : ∀ z ts, tbl.lookup z = some ts → ∃ p, PySem.W.nsIn X.K d z = some (some (.ref p)) ∧ KTup X.K p ts) {σ : L2.St} {H : Hp} {Q : VK} (h : tG (X.gx W.Tb) W Is (eInT neg tbl f) σ H Q) :
    tG (X.gx W.Tb) W Is f σ H fun x H1 => ∃ (z : Str) (r : Option Value), x = .str z ∧ V.ref d = .ref d ∧ PySem.W.nsIn X.K d z = some r ∧ Q (.bl (if neg then !r.isSome else r.isSome)) H1 := by
  refine (seqG Is h).imp fun x H1 h1 => ?_
  obtain ⟨τ, M, ρ, c, rs, rm, i, r⟩ := h1
  unfold inT at r
  dsimp only at r
  split at r
  · rename_i z
    cases i
    split at r
    · rename_i ts e
      obtain ⟨p, e1, _⟩ := kt z ts e
      refine ⟨z, _, rfl, rfl, e1, ?_⟩
      cases neg
      · exact r.okv (.refl _) (.refl _) rm (.bl _)
      · exact r.okv (.refl _) (.refl _) rm (.bl _)
    · exact r.elim
  · exact r.elim
theorem ae_inT {x : Str} {d : Addr} {p : Pos} {tbl : List (Str × List Str)} (hm : X.mg x = some (.ref d)) (k : KTab X.K X.w d tbl) (ha : AE X W a f) (hg : Gl X x := by rfl) (hd : (x == ("__debug__" : Str)) = false := by decide) (hb : behindInMarks .In (.Name x p) = false := by with_unfolding_all rfl) : AE X W (.Compare a [.In] [.Name x p] pos) (eInT false tbl f) := by
  obtain ⟨⟨es, n, D⟩, kt⟩ := k
  refine (pe_cmpR (op_in_kd D) ha (pe_glob hg hm (x := x) (v := V.ref d) rfl hd) hb).pre fun σ H Q h => inT_tK kt h
theorem ae_ninT {x : Str} {d : Addr} {p : Pos} {tbl : List (Str × List Str)} (hm : X.mg x = some (.ref d)) (k : KTab X.K X.w d tbl) (ha : AE X W a f) (hg : Gl X x := by rfl) (hd : (x == ("__debug__" : Str)) = false := by decide) (hb : behindInMarks .NotIn (.Name x p) = false := by with_unfolding_all rfl) : AE X W (.Compare a [.NotIn] [.Name x p] pos) (eInT true tbl f) := by
  obtain ⟨⟨es, n, D⟩, kt⟩ := k
  refine (pe_cmpR (op_notIn_kd D) ha (pe_glob hg hm (x := x) (v := V.ref d) rfl hd) hb).pre fun σ H Q h => inT_tK kt h
theorem at_ninT {x : Str} {d : Addr} {p : Pos} {tbl : List (Str × List Str)} (hm : X.mg x = some (.ref d)) (k : KTab X.K X.w d tbl) (ha : AE X W a f) (hg : Gl X x := by rfl) (hd : (x == ("__debug__" : Str)) = false := by decide) (hb : behindInMarks .NotIn (.Name x p) = false := by with_unfolding_all rfl) : AT X W (.Compare a [.NotIn] [.Name x p] pos) (eB (eInT true tbl f)) := by
  obtain ⟨⟨es, n, D⟩, kt⟩ := k
  refine (pt_cmpR (op_notIn_kd D) ha (pe_glob hg hm (x := x) (v := V.ref d) rfl hd) hb).pre fun σ H Q h => inT_tK kt (bool_tK h)
/-- for x in a written tuple -/
def iK (fk : EK) : EI := fun τ M => (fk τ M).bind fun ts M1 => .ok (.snap (ts.map A.str)) M1
theorem srcJ_k {w : Amb} {ρ : List Addr} {H : Hp} {ts : List Str} {u : Addr} (k : KTup w.K u ts) : SrcJ w ρ H (.snap (ts.map A.str)) (Itt w.K u) := by
  intro ρ2 H2 M2 i x g m
  have h2 := k.sq H2
  cases e : ts[i]? with
  | none =>
    simp only [Src.at, List.getElem?_map, e, Option.map_none]
    exact ⟨_, h2, by rw [List.length_map]; exact List.getElem?_eq_none_iff.mp e⟩
  | some t =>
    simp only [Src.at, List.getElem?_map, e, Option.map_some]
    refine ⟨⟨_, .str t, h2, by rw [List.getElem?_map, e]; rfl⟩, fun v H3 ⟨eH, hw⟩ => ?_⟩
    subst eH
    have := hw _ h2
    rw [List.getElem?_map, e] at this
    obtain rfl := Option.some.inj this
    exact ⟨.refl _, m, .str _⟩
theorem ai_K {tg : Expr} (h : AK X W a fk) : AI X W tg a (iK fk) := (pi_tup h).pre fun σ H R h => by
  refine (seqG (relK X.K) h).imp fun x H1 h1 => ?_
  obtain ⟨τ, M, ρ, ts, rs, rm, ⟨u, ex, k⟩, r⟩ := h1
  exact ⟨u, ex, ⟨_, k.sq _⟩, RE.okv (a := Src.snap (ts.map A.str)) (M := M) (rel := relJ (X.am W.Tb)) r (.refl _) (.refl _) rm (srcJ_k k)⟩
/-- d.get(k, x) -/
def isDk (M : Store) (l : Nat) : Bool := match M[l]? with
  | some (.dK _) => true
  | some (.dT _) => true
  | _ => false
theorem isDk_ok {w : Amb} {ρ : List Addr} {H : Hp} {M : Store} (m : RM w ρ H M) {l : Nat} {b : Addr} (hb : ρ[l]? = some b) (h : isDk M l = true) : IsD H b := by
  unfold isDk at h
  split at h
  · rename_i kvs e
    obtain ⟨vs, h1, _⟩ := m.at_ l b _ hb e
    exact .inl ⟨_, .inl h1⟩
  · rename_i kvs e
    obtain ⟨vs, h1, _⟩ := m.at_ l b _ hb e
    exact .inr ⟨_, .inl h1⟩
  · cases h
def getK (l : Nat) (k v : A) (M3 : Store) : EO A := match dGet M3 l k with
  | some o => .ok (o.getD v) M3
  | none => .bad
def get2K (fk fv : EF) (τ : Sl) (d : A) (M1 : Store) : EO A := match d with
  | .dct l => if isDk M1 l = true then (fk τ M1).bind fun k M2 => (fv τ M2).bind (getK l k) else .bad
  | _ => .bad
def eGet2 (fd fk fv : EF) : EF := fun τ M => (fd τ M).bind (get2K fk fv τ)
theorem ae_get2 {o e v : Expr} {fd fe fv : EF} {apos cpos : Pos} (hu : X.A.units + 1 < cLine) (ho : AE X W o fd) (he : AE X W e fe) (hf : AE X W v fv) (m : M2 X o "get" apos e v cpos := by exact ⟨rfl, rfl, rfl, rfl⟩) : AE X W (.Call (.Attribute o "get" apos) [e, v] [] cpos) (eGet2 fd fe fv) := (pe_dget2 hu ho he hf m).pre fun σ H Q h => by
  refine (seqG Is h).imp fun x H1 h1 => ?_
  obtain ⟨τ, M, ρ, c, rs, rm, i, r⟩ := h1
  unfold get2K at r
  cases c with
  | dct l =>
    cases i with
    | dct hl =>
      dsimp only at r
      split at r
      · rename_i hd
        refine ⟨_, rfl, isDk_ok rm hl hd, τ, M, ρ, rs, rm, ?_⟩
        cases e1 : fe τ M with
        | ok k M2 =>
          rw [e1] at r
          intro y H2 ρ2 x2 g2 m2 i2
          refine ⟨τ, M2, ρ2, rs.mono x2 g2, m2, ?_⟩
          have r : RE (X.gx W.Tb) W σ ρ H1 Is ((fv τ M2).bind (getK l k)) Q := r
          cases e2 : fv τ M2 with
          | ok v M3 =>
            rw [e2] at r
            intro z H3 ρ3 x3 g3 m3 i3
            have r : RE (X.gx W.Tb) W σ ρ H1 Is (getK l k v M3) Q := r
            unfold getK at r
            split at r
            · rename_i o' e3
              rcases dGet_ok m3 ((x2.trans x3).get hl) (i2.mono x3 g3) e3 with ⟨rfl, q⟩ | ⟨a', v', rfl, q, i4⟩
              · exact ⟨none, q, r.okv (x2.trans x3) (g2.trans g3) m3 i3⟩
              · exact ⟨some v', q, r.okv (x2.trans x3) (g2.trans g3) m3 i4⟩
            · exact r.elim
          | ex en M3 => rw [e2] at r; exact RE.mono (o := EO.ex en M3) r x2 g2
          | bad => rw [e2] at r; exact r.elim
        | ex en M2 => rw [e1] at r; exact r
        | bad => rw [e1] at r; exact r.elim
      · exact r.elim
  | _ => exact r.elim
end
end AB
/-! AB17: sorted of messages: tuples of a word and, perhaps, a number or a tuple of numbers -/
namespace SM
open PySem PySem.Spec PyProof.Rows SX
inductive Rst where
  | one | num (i : Int) | tup (ns : List Int)
  deriving DecidableEq
abbrev Msg := Str × Rst
def encN (l : List Nat) (r : List Int) : List Int := match l with
  | [] => 0 :: r
  | c :: cs => ((c : Int) + 1) :: encN cs r
def Rst.key : Rst → List Int
  | .one => []
  | .num i => [0, i]
  | .tup ns => 1 :: ns
def key (m : Msg) : List Int := encN m.1.cps.toList m.2.key
def fits : Rst → Rst → Bool
  | .num _, .tup _ => false
  | .tup _, .num _ => false
  | _, _ => true
/-- the two can be compared -/
def compat (m m' : Msg) : Bool := !(m.1 == m'.1) || fits m.2 m'.2
theorem enc_lt : ∀ (xs ys : List Nat) (r r' : List Int), ltL (encN xs r) (encN ys r') = if xs = ys then ltL r r' else decide (xs < ys)
  | [], [], r, r' => by simp only [encN]; rw [ltL_yes rfl]; simp
  | [], y :: ys, r, r' => by
    simp only [encN]
    rw [ltL_no (by omega), if_neg (by simp)]
    rw [decide_eq_true (by omega : (0 : Int) < (y : Int) + 1)]
    exact (decide_eq_true (by simp)).symm
  | x :: xs, [], r, r' => by
    simp only [encN]
    rw [ltL_no (by omega), if_neg (by simp), decide_eq_false (by omega)]
    exact (decide_eq_false (by simp)).symm
  | x :: xs, y :: ys, r, r' => by
    simp only [encN]
    by_cases e : x = y
    · subst e
      rw [ltL_yes rfl, enc_lt xs ys]
      by_cases e2 : xs = ys
      · subst e2; simp
      · rw [if_neg e2, if_neg (by simpa using e2)]
        exact decide_eq_decide.mpr (by simp [List.cons_lt_cons_iff])
    · rw [ltL_no (by omega), if_neg (by simp [e])]
      exact decide_eq_decide.mpr (by simp [List.cons_lt_cons_iff, e])
theorem enc_inj : ∀ {xs ys : List Nat} {r r' : List Int}, encN xs r = encN ys r' → xs = ys ∧ r = r'
  | [], [], r, r', h => by simp only [encN] at h; cases h; exact ⟨rfl, rfl⟩
  | [], y :: ys, r, r', h => by simp only [encN, List.cons.injEq] at h; omega
  | x :: xs, [], r, r', h => by simp only [encN, List.cons.injEq] at h; omega
  | x :: xs, y :: ys, r, r', h => by
    simp only [encN, List.cons.injEq] at h
    obtain ⟨e1, e2⟩ := enc_inj h.2
    exact ⟨by rw [e1]; congr 1; omega, e2⟩
theorem key_inj {m m' : Msg} (h : key m = key m') : m = m' := by
  obtain ⟨w, r⟩ := m
  obtain ⟨w', r'⟩ := m'
  obtain ⟨e1, e2⟩ := enc_inj h
  have e1 : w = w' := PySem.W.str_of_cps e1
  subst e1
  have e2 : r.key = r'.key := e2
  cases r <;> cases r' <;> simp_all [Rst.key]
def ins (x : Msg) : List Msg → List Msg
  | [] => [x]
  | y :: ys => if ltL (key y) (key x) = true then y :: ins x ys else x :: y :: ys
def sortM : List Msg → List Msg
  | [] => []
  | x :: xs => ins x (sortM xs)
theorem ins_key (x : Msg) : ∀ ys, (ins x ys).map key = SX.ins (key x) (ys.map key)
  | [] => rfl
  | y :: ys => by
    simp only [ins, List.map_cons, SX.ins]
    split
    · rw [List.map_cons, ins_key x ys]
    · rfl
theorem sort_key : ∀ xs, (sortM xs).map key = SX.sortL (xs.map key)
  | [] => rfl
  | x :: xs => by
    simp only [sortM, List.map_cons, SX.sortL]
    rw [ins_key, sort_key xs]
theorem map_inj {α β : Type} {f : α → β} (hf : ∀ a b, f a = f b → a = b) : ∀ {xs ys : List α}, xs.map f = ys.map f → xs = ys
  | [], [], _ => rfl
  | [], _ :: _, h => by simp at h
  | _ :: _, [], h => by simp at h
  | x :: xs, y :: ys, h => by
    simp only [List.map_cons, List.cons.injEq] at h
    rw [hf _ _ h.1, map_inj hf h.2]
section
variable {prog : Program} {w : World} {A : Around} {E : Value → Shared → Prop} {s : Shared}
/-- a message's second part -/
inductive IsR (h : Heap) : List Value → Rst → Prop
  | one : IsR h [] .one
  | num (i : Int) (t : Tok) : IsR h [.int i t] (.num i)
  | tup {b : Addr} {xs : Array Value} {ns : List Int} : IsTup h b xs → IntsAre xs.toList ns → IsR h [.ref b] (.tup ns)
def IsM (h : Heap) (v : Value) (m : Msg) : Prop := ∃ a o xs n t r, v = .ref a ∧ h.get? a = some o ∧ o.cls = .type "tuple" ∧ o.data = .seq xs n ∧ xs.toList = .str m.1 t :: r ∧ IsR h r m.2
theorem IsR.keeps {h h' : Heap} {r : List Value} {m : Rst} (x : IsR h r m) (k : ∀ b o, h.get? b = some o → o.cls = .type "tuple" → h'.get? b = some o) : IsR h' r m := by
  cases x with
  | one => exact .one
  | num i t => exact .num i t
  | tup h1 h2 =>
    obtain ⟨o, e, c, d⟩ := h1
    exact .tup ⟨o, k _ _ e c, c, d⟩ h2
theorem IsM.keeps {h h' : Heap} {v : Value} {m : Msg} (x : IsM h v m) (k : ∀ b o, h.get? b = some o → o.cls = .type "tuple" → h'.get? b = some o) : IsM h' v m := by
  obtain ⟨a, o, xs, n, t, r, e, ho, hc, hd, hx, i⟩ := x
  exact ⟨a, o, xs, n, t, r, e, k a o ho hc, hc, hd, hx, i.keeps k⟩
theorem lexLt_ltL : ∀ xs ys : List Int, HT.lexLt xs ys = ltL xs ys
  | [], [] => rfl
  | [], _ :: _ => rfl
  | _ :: _, [] => rfl
  | x :: xs, y :: ys => by
    unfold HT.lexLt ltL
    rw [lexLt_ltL xs ys]
theorem reads_ints {h : Heap} : ∀ {vs : List Value} {ns : List Int}, IntsAre vs ns → ReadsAll h vs (ns.map PyData.int) []
  | _, _, .nil => .nil
  | _, _, .cons x t r => .cons (as := []) (bs := []) (.int x t) (reads_ints r)
theorem alike_ints : ∀ ns ms : List Int, PySem.W.alikeAll (ns.map PyData.int) (ms.map PyData.int) = true
  | [], _ => by simp [PySem.W.alikeAll]
  | _ :: _, [] => by simp [PySem.W.alikeAll]
  | n :: ns, m :: ms => by simp [PySem.W.alikeAll, PySem.W.alike, alike_ints ns ms]
theorem eqv_ints : ∀ ns ms : List Int, PyData.eqvAll (ns.map PyData.int) (ms.map PyData.int) = decide (ns = ms)
  | [], [] => by simp [PyData.eqvAll]
  | [], _ :: _ => by simp [PyData.eqvAll]
  | _ :: _, [] => by simp [PyData.eqvAll]
  | n :: ns, m :: ms => by
    rw [List.map_cons, List.map_cons, PySem.W.eqv_all_cons, eqv_ints ns ms]
    exact Bool.eq_iff_iff.mpr (by simp [PyData.eqv])
theorem depth_ints : ∀ ns : List Int, PyData.depthAll (ns.map PyData.int) = 0
  | [] => rfl
  | n :: ns => by rw [List.map_cons, PyData.depthAll, depth_ints ns]; rfl
theorem lex_rst (hu : A.units + 4 < cLine) {r r' : List Value} {m m' : Rst} (h1 : IsR s.heap r m) (h2 : IsR s.heap r' m') (hf : fits m m' = true) (fin : Bool) (hfin : fin = decide (r.length + 1 < r'.length + 1)) :
    PySem.W.KatLex prog w A true fin (fun c s' => s' = s ∧ c = ltL m.key m'.key) (r.zip r') 1 s := by
  subst hfin
  cases h1 with
  | one =>
    cases h2 with
    | one => exact PySem.W.kat_nil ⟨rfl, rfl⟩
    | num j u => exact PySem.W.kat_nil ⟨rfl, rfl⟩
    | tup a b => exact PySem.W.kat_nil ⟨rfl, rfl⟩
  | num i t =>
    cases h2 with
    | one => exact PySem.W.kat_nil ⟨rfl, rfl⟩
    | tup a b => simp [fits] at hf
    | num j u =>
      refine PySem.W.kat_cons (SeqAt.EqAt.int_int i t j u prog w _ _ ?_)
      refine PySem.W.kat_go (fun e1 => ?_) (fun e1 => ?_)
      · have ex : i = j := by simpa using e1
        refine PySem.W.kat_yes (PySem.W.kat_nil ⟨rfl, ?_⟩)
        show _ = ltL [0, i] [0, j]
        rw [ltL_yes rfl, ltL_yes ex]; rfl
      · have ex : ¬ i = j := by simpa using e1
        refine PySem.W.kat_no (PySem.W.kat_one _ _ (PyProof.Rows.lt_int (show s = s ∧ decide (i < j) = ltL [0, i] [0, j] from ⟨rfl, ?_⟩)))
        rw [ltL_yes rfl, ltL_no ex]
  | tup a b =>
    cases h2 with
    | one => exact PySem.W.kat_nil ⟨rfl, rfl⟩
    | num j u => simp [fits] at hf
    | tup a' b' =>
      rename_i p xs ns p' ys ms
      obtain ⟨o, e, c, nn, d⟩ := id a
      obtain ⟨o', e', c', nn', d'⟩ := id a'
      have ra : Reads s.heap (.ref p) (.tuple (ns.map PyData.int)) [] := .tuple e c d (reads_ints b)
      have rb : Reads s.heap (.ref p') (.tuple (ms.map PyData.int)) [] := .tuple e' c' d' (reads_ints b')
      have q := PySem.W.eqAt_alike _ _ A s _ _ _ _ ra rb (by simp [PySem.W.alike, alike_ints]) (by
        have : min (PyData.depth (.tuple (ns.map PyData.int))) (PyData.depth (.tuple (ms.map PyData.int))) ≤ 1 := by
          rw [PyData.depth, depth_ints]; exact Nat.min_le_left _ _
        omega)
      have ev : PyData.eqv (.tuple (ns.map PyData.int)) (.tuple (ms.map PyData.int)) = decide (ns = ms) := by rw [← eqv_ints]; rfl
      rw [ev] at q
      refine PySem.W.kat_cons (q prog w _ _ ?_)
      refine PySem.W.kat_go (fun e1 => ?_) (fun e1 => ?_)
      · have ex : ns = ms := of_decide_eq_true e1
        refine PySem.W.kat_yes (PySem.W.kat_nil ⟨rfl, ?_⟩)
        show _ = ltL (1 :: ns) (1 :: ms)
        rw [ltL_yes rfl, ex]
        cases hz : ltL ms ms with
        | false => exact decide_eq_false (by simp)
        | true => exact absurd (ltL_asym hz) (by rw [hz]; decide)
      · refine PySem.W.kat_no (PySem.W.kat_one _ _ (HT.lt_tupInts a a' b b' (by omega) (show s = s ∧ HT.lexLt ns ms = ltL (1 :: ns) (1 :: ms) from ⟨rfl, ?_⟩)))
        rw [ltL_yes rfl, lexLt_ltL]
theorem lex_msg (hu : A.units + 4 < cLine) {v v' : Value} {m m' : Msg} (h1 : IsM s.heap v m) (h2 : IsM s.heap v' m') (hf : compat m m' = true) :
    wpAny (model prog w) A (keyLt' (tuples' true) v v') (fun c s' => s' = s ∧ c = ltL (key m) (key m')) E s := by
  obtain ⟨a, o, xs, n, t, r, rfl, ho, hc, hd, hx, i1⟩ := h1
  obtain ⟨a', o', xs', n', t', r', rfl, ho', hc', hd', hx', i2⟩ := h2
  refine PySem.W.kat_lt ho hd ho' hd' ?_
  have e1 : xs.size = r.length + 1 := by rw [← Array.length_toList, hx]; rfl
  have e2 : xs'.size = r'.length + 1 := by rw [← Array.length_toList, hx']; rfl
  rw [hx, hx', e1, e2, List.zip_cons_cons]
  refine PySem.W.kat_cons (SeqAt.EqAt.str_str m.1 t m'.1 t' prog w _ _ ?_)
  refine PySem.W.kat_go (fun e1 => ?_) (fun e1 => ?_)
  · have ex : m.1 = m'.1 := by simpa using e1
    refine PySem.W.kat_yes ?_
    have hf2 : fits m.2 m'.2 = true := by
      unfold compat at hf
      rw [ex] at hf
      simpa using hf
    have ek : ltL (key m) (key m') = ltL m.2.key m'.2.key := by
      unfold key
      rw [enc_lt, ex, if_pos rfl]
    rw [ek]
    exact lex_rst hu i1 i2 hf2 _ rfl
  · have ex : ¬ m.1 = m'.1 := by simpa using e1
    have ek : ltL (key m) (key m') = decide (m.1.cps.toList < m'.1.cps.toList) := by
      unfold key
      rw [enc_lt, if_neg fun z => ex (PySem.W.str_of_cps z)]
    rw [ek]
    exact PySem.W.kat_no (PyProof.Rows.oneLt_str (show s = s ∧ _ = _ from ⟨rfl, rfl⟩))
theorem swo_M (k : Value → List Int) : SrtO.Swo fun v u => ltL (k v) (k u) := SX.swo_L k
theorem msg_firsts {k : Value → Msg} : ∀ {vs : List Value} {h : Heap}, (∀ v ∈ vs, IsM h v (k v)) → ∃ fs, PySem.W.KatTups h vs fs ∧ fs.length = vs.length ∧ ∀ f ∈ fs, ∃ x t, f = Value.str x t
  | [], h, _ => ⟨[], .nil, rfl, fun _ z => by cases z⟩
  | v :: vs, h, hp => by
    obtain ⟨fs, h1, h2, h3⟩ := msg_firsts (vs := vs) fun u hu => hp u (List.mem_cons_of_mem _ hu)
    obtain ⟨a, o, xs, n, t, r, e, ho, hc, hd, hx, i⟩ := hp v List.mem_cons_self
    subst e
    refine ⟨Value.str (k (.ref a)).1 t :: fs, .cons ho hc hd (by rw [← Array.getElem?_toList, hx]; rfl) h1, by simp [h2], fun g hg => ?_⟩
    rcases List.mem_cons.mp hg with rfl | hg
    · exact ⟨_, t, rfl⟩
    · exact h3 g hg
theorem msg_sortable (hu : A.units + 4 < cLine) {a : Addr} {vs : List Value} {k : Value → Msg} (h0 : 0 < vs.length) (hp : ∀ v ∈ vs, IsM s.heap v (k v)) (hf : ∀ v ∈ vs, ∀ u ∈ vs, compat (k v) (k u) = true) (ha : ∀ o, s.heap.get? a = some o → o.cls ≠ .type "tuple") : SrtO.SortableO prog w A s a vs fun v u => ltL (key (k v)) (key (k u)) := by
  intro h' keep
  have hp' : ∀ v ∈ vs, IsM h' v (k v) := fun v hm => (hp v hm).keeps fun b o e c => keep b o (fun z => by subst z; exact ha o e c) e
  obtain ⟨fs, h1, h2, h3⟩ := msg_firsts hp'
  refine ⟨tuples' true, fun Q E hq => ?_, fun p q hm hm' => ?_⟩
  · refine PySem.W.kat_kind (T := .type "str") h1 (by omega) (fun f hm => ?_) (by rfl) ?_
    · obtain ⟨x, t, rfl⟩ := h3 f hm
      exact PySem.W.Looks.now
    · have e : (Value.type "str" != Value.type "tuple") = true := by first | decide +kernel | rfl | decide
      rw [e]
      exact hq
  · exact lex_msg (s := { s with heap := h' }) hu (hp' _ hm) (hp' _ hm') (hf _ hm _ hm')
end
end SM
namespace AB
open PySem PySem.Spec PyProof.Rows L2 SM
def rstA : Rst → List A
  | .one => []
  | .num i => [.int i]
  | .tup ns => [.tup (ns.map A.int)]
def msgA (m : Msg) : A := .tup (.str m.1 :: rstA m.2)
def rst? : List A → Option Rst
  | [] => some .one
  | [.int i] => some (.num i)
  | [.tup xs] => (ints? xs).map .tup
  | _ => none
def msgs? : List A → Option (List Msg)
  | [] => some []
  | .tup (.str w :: r) :: q => match rst? r, msgs? q with
    | some m, some l => some ((w, m) :: l)
    | _, _ => none
  | _ :: _ => none
theorem rst_of {r : List A} {m : Rst} (e : rst? r = some m) : r = rstA m := by
  unfold rst? at e
  split at e
  · cases e; rfl
  · cases e; rfl
  · rename_i xs
    cases e1 : ints? xs with
    | none => rw [e1] at e; cases e
    | some is => rw [e1] at e; cases e; rw [ints_of e1]; rfl
  · cases e
theorem msgs_of : ∀ {as : List A} {q : List Msg}, msgs? as = some q → as = q.map msgA
  | [], q, e => by cases e; rfl
  | a :: as, q, e => by
    unfold msgs? at e
    split at e
    · rename_i h; cases h
    · rename_i w r q' h
      cases h
      split at e
      · rename_i m l e1 e2
        cases e
        rw [List.map_cons, ← msgs_of e2, msgA, rst_of e1]
      · cases e
    · cases e
/-- sorted: whole numbers' tuples, messages, at most one thing -/
def oSortM : On := fun as M => match as with
  | [.lst l] => match listAt M l with
    | some xs => match tups? xs with
      | some q => some (.lst M.length, M ++ [.lst ((SX.sortL q).map tupI)])
      | none => match msgs? xs with
        | some q => if q.all (fun m => q.all fun m' => compat m m') = true then some (.lst M.length, M ++ [.lst ((sortM q).map msgA)]) else none
        | none => none
    | none => none
  | _ => none
/-- the message that a tracked tuple holds -/
def mOf (H : Hp) : Value → Msg
  | .ref a => match H a with
    | some (.tup [.str w]) => (w, .one)
    | some (.tup [.str w, .int i]) => (w, .num i)
    | some (.tup [.str w, .ref b]) => match H b with
      | some (.tup vs) => (w, .tup (vs.filterMap fun v => match v with
        | .int i => some i
        | _ => none))
      | _ => (w, .one)
    | _ => (⟨#[]⟩, .one)
  | _ => (⟨#[]⟩, .one)
theorem ints_filter (ns : List Int) : (ns.map V.int).filterMap (fun v => match v with
        | .int i => some i
        | _ => none) = ns := by
  induction ns with
  | nil => rfl
  | cons n ns ih => simp [ih]
theorem msgA_is {ρ : List Addr} {H : Hp} {m : Msg} {v : V} (i : Is ρ H (msgA m) v) : ∃ a, v = .ref a ∧ mOf H (.ref a) = m ∧ ∃ r, H a = some (.tup (.str m.1 :: r)) ∧ (∀ hp P w, HOk P w H hp → ∀ u, Vals r u → IsR hp u m.2) := by
  obtain ⟨w, r⟩ := m
  unfold msgA at i
  cases i with
  | tup h is =>
    rename_i a vs
    refine ⟨a, rfl, ?_⟩
    cases is with
    | cons i1 is =>
      cases i1
      cases r with
      | one =>
        cases is
        exact ⟨by simp [mOf, h], [], h, fun hp P w' ok u r => by cases r; exact .one⟩
      | num j =>
        cases is with
        | cons i2 is =>
          cases is; cases i2
          refine ⟨by simp [mOf, h], _, h, fun hp P w' ok u r => ?_⟩
          cases r with
          | cons r1 r2 => cases r2; obtain ⟨t, rfl⟩ := r1; exact .num j t
      | tup ns =>
        cases is with
        | cons i2 is =>
          cases is
          cases i2 with
          | tup hb ib =>
            rw [IsAll.ints ib] at hb
            refine ⟨by simp only [mOf, h, hb, ints_filter], _, h, fun hp P w' ok u r => ?_⟩
            cases r with
            | cons r1 r2 =>
              cases r2; cases r1
              obtain ⟨_, tv, trv, it⟩ := ok _ _ hb
              exact .tup it (by simpa using intsAre_of trv)
section
variable {X : Cx}
theorem cr_sortM (hu : X.A.units + 64 < cLine) : CallR X (.builtin "sorted") (rn (X.am Tb) oSortM) := by
  intro pins s σ H xs us Q I r h
  obtain ⟨as, M, ρ, is, m, ro⟩ := h
  unfold oSortM at ro
  split at ro
  · rename_i l
    split at ro
    · rename_i ys el
      split at ro
      · rename_i q eq
        refine cr_sortedTI pins s σ H xs us Q I r ⟨_, M, ρ, is, m, ?_⟩
        unfold oSorted
        simp only [el, eq]
        exact ro
      · split at ro
        · rename_i q eq
          split at ro
          · rename_i hcomp
            cases is with
            | cons i1 is =>
              cases is
              cases i1 with
              | lst hl =>
                have e0 := msgs_of eq
                subst e0
                obtain ⟨vs, hs, iv⟩ := m.list hl el
                obtain ⟨its, rv, hL, hz⟩ := I.list hs
                rw [Vals.ref1 r]
                have items : ∀ (q : List Msg) (vs : List V) (its : List Value), IsAll ρ H (q.map msgA) vs → Vals vs its → its.map (mOf H) = q ∧ ∀ u ∈ its, IsM s.heap u (mOf H u) ∧ ∃ v, RelV v u ∧ Is ρ H (msgA (mOf H u)) v := by
                  intro q
                  induction q with
                  | nil => intro vs its i r; cases i; cases r; exact ⟨rfl, fun _ z => (by cases z)⟩
                  | cons n q ih =>
                    intro vs its i r
                    cases i with
                    | cons i1 i2 =>
                      cases r with
                      | cons r1 r2 =>
                        obtain ⟨a2, a3⟩ := ih _ _ i2 r2
                        obtain ⟨a, rfl, em, r0, ha, hr⟩ := msgA_is i1
                        cases r1
                        refine ⟨by rw [List.map_cons, em, a2], fun u hu => ?_⟩
                        rcases List.mem_cons.mp hu with rfl | hu
                        · refine ⟨?_, V.ref a, (show RelV (V.ref a) (Value.ref a) from rfl), by rw [em]; exact i1⟩
                          rw [em]
                          obtain ⟨_, tv, trv, o, h1, h2, nn, h3⟩ := I.hok _ _ ha
                          cases trv with
                          | cons t1 t2 =>
                            obtain ⟨t, rfl⟩ := t1
                            exact ⟨a, o, _, nn, t, _, rfl, h1, h2, h3, rfl, hr _ _ _ I.hok _ t2⟩
                        · exact a3 u hu
                obtain ⟨hk, hp⟩ := items q vs its iv rv
                have hall : ∀ v ∈ its, ∀ u ∈ its, compat (mOf H v) (mOf H u) = true := by
                  intro v hv u hu
                  have h1 := List.all_eq_true.mp hcomp (mOf H v) (by rw [← hk]; exact List.mem_map_of_mem hv)
                  exact List.all_eq_true.mp h1 (mOf H u) (by rw [← hk]; exact List.mem_map_of_mem hu)
                refine SrtO.sorted_ord (SM.swo_M fun v => key (mOf H v)) hL.isList (by rw [← rv.length]; exact hz) (fun h2 h₁ a' ha kk => ?_) fun out h1 h2 => ?_
                · refine SM.msg_sortable (s := { s with heap := h₁ }) (by show X.A.units + 1 + 1 + 4 < cLine; omega) (by omega) (fun v hm => (hp v hm).1.keeps fun b o e _ => (kk b o e).2) hall fun o e => ?_
                  have e' : some o = some (seqObj "list" its.toArray 0) := e.symm.trans ha
                  cases e'
                  intro c
                  exact absurd (Value.type.inj c) (by decide)
                · obtain ⟨ep, he'⟩ := PyProof.Rows.sortedAll_at s.heap its out.toArray
                  have outs : ∀ (l : List Value), (∀ u ∈ l, u ∈ its) → ∃ vs : List V, Vals vs l ∧ IsAll ρ H ((l.map (mOf H)).map msgA) vs := by
                    intro l
                    induction l with
                    | nil => intro _; exact ⟨[], .nil, .nil⟩
                    | cons u l ih =>
                      intro hm
                      obtain ⟨vs, v1, v2⟩ := ih fun x hx => hm x (List.mem_cons_of_mem _ hx)
                      obtain ⟨_, v, rv', iv'⟩ := hp u (hm u List.mem_cons_self)
                      exact ⟨v :: vs, .cons rv' v1, .cons iv' v2⟩
                  obtain ⟨ws, w1, w2⟩ := outs out fun u hu => h2.perm.mem_iff.mp hu
                  have esort : out.map (mOf H) = sortM q := by
                    refine map_inj (fun _ _ => key_inj) ?_
                    rw [sort_key]
                    refine SX.up_unique ?_ (SX.sortL_up _) ?_
                    · rw [List.map_map]; exact List.pairwise_map.mpr h1
                    · have := (h2.perm.map (mOf H)).map key
                      rw [hk] at this
                      exact this.trans (SX.sortL_perm _).symm
                  rw [esort] at w2
                  have hlen : ws.length ≤ sizeLine := by
                    rw [w1.length, h2.perm.length_eq, ← rv.length]; exact hz
                  have hnew : H (s.heap.objs.size + 1) = none := I.hok.fresh (Nat.le_succ _)
                  exact ⟨.ref _, upd H (s.heap.objs.size + 1) (.lst ws), I.laid (t' := s.toks) (fun _ _ => PyProof.Rows.sortedAll_old) (Nat.le_succ _) ⟨hlen, out, ep, w1, he'⟩, rfl, ro.newL m w2 hnew⟩
          · exact ro.elim
        · exact ro.elim
    · exact ro.elim
  · exact ro.elim
end
end AB
/-! AB18: displays of several keys; the place of data in a list; orders -/
namespace AB
open PySem PySem.Spec PyProof.Rows L2
section
variable {X : Cx} {W : WR} {pos : Pos} {e : Expr} {f : EF} {fs : EFs}
/-! ### {k: v, ..} -/
abbrev relPs : Rel (List (A × A)) (List (V × V)) := fun ρ H as ps => IsAll ρ H (as.map (·.1)) (ps.map (·.1)) ∧ IsAll ρ H (as.map (·.2)) (ps.map (·.2))
abbrev EPs := Sl → Store → EO (List (A × A))
def APs (X : Cx) (W : WR) (pos : Pos) (ks : List (Option Expr)) (vs : List Expr) (fp : EPs) : Prop := ∃ trs, PPs X pos ks vs trs ∧ ∀ σ H Q, tG (X.gx W.Tb) W relPs fp σ H Q → tPairs trs σ H Q
def pNil : EPs := fun _ M => .ok [] M
def pCons (fk fv : EF) (fp : EPs) : EPs := fun τ M => (fk τ M).bind fun k M1 => (fv τ M1).bind fun v M2 => (fp τ M2).bind fun ps M3 => .ok ((k, v) :: ps) M3
theorem aps_nil : APs X W pos [] [] pNil := ⟨[], pps_nil, fun σ H Q h => by
  obtain ⟨τ, M, ρ, rs, rm, r⟩ := h
  exact r.okv (.refl _) (.refl _) rm ⟨.nil, .nil⟩⟩
theorem aps_cons {k v : Expr} {ks : List (Option Expr)} {vs : List Expr} {fk fv : EF} {fp : EPs} (hk : AE X W k fk) (hv : AE X W v fv) (hr : APs X W pos ks vs fp) : APs X W pos (some k :: ks) (v :: vs) (pCons fk fv fp) := by
  obtain ⟨trs, hp, ht⟩ := hr
  refine ⟨_, pps_cons hk hv hp, fun σ H Q h => ?_⟩
  show tG (X.gx W.Tb) W Is fk σ H fun x H1 => tG (X.gx W.Tb) W Is fv σ H1 fun y H2 => tPairs trs σ H2 fun ps H3 => Q ((x, y) :: ps) H3
  refine (seqG Is h).imp fun x H1 h1 => ?_
  obtain ⟨τ, M, ρ, c, rs, rm, i, r⟩ := h1
  refine ⟨τ, M, ρ, rs, rm, ?_⟩
  dsimp only at r
  cases e1 : fv τ M with
  | ok v M2 =>
    rw [e1] at r
    intro y H2 ρ2 x2 g2 m2 i2
    refine ht _ _ _ ⟨τ, M2, ρ2, rs.mono x2 g2, m2, ?_⟩
    have r : RE (X.gx W.Tb) W σ ρ H1 relPs ((fp τ M2).bind fun ps M3 => .ok ((c, v) :: ps) M3) Q := r
    cases e2 : fp τ M2 with
    | ok ps M3 =>
      rw [e2] at r
      intro qs H3 ρ3 x3 g3 m3 i3
      exact RE.okv (a := (c, v) :: ps) (b := (x, y) :: qs) (M := M3) (rel := relPs) r (x2.trans x3) (g2.trans g3) m3 ⟨.cons ((i.mono x2 g2).mono x3 g3) i3.1, .cons (i2.mono x3 g3) i3.2⟩
    | ex en M3 => rw [e2] at r; exact RE.mono (o := EO.ex en M3) r x2 g2
    | bad => rw [e2] at r; exact r.elim
  | ex en M2 => rw [e1] at r; exact r
  | bad => rw [e1] at r; exact r.elim
def keyed? : List (A × A) → Option (List (Key × A))
  | [] => some []
  | (k, v) :: r => match key? k, keyed? r with
    | some j, some q => some ((j, v) :: q)
    | _, _ => none
def mergeA (kvs : List (Key × A)) (more : List (Key × A)) : List (Key × A) := more.foldl (fun acc kv => putA acc kv.1 kv.2) kvs
def dispN (l : Nat) (ps : List (A × A)) (M3 : Store) : EO A := match M3[l]?, keyed? ps with
  | some (.dK []), some q => if q.length ≤ 15 then .ok (.dct l) (M3.set l (.dK (mergeA [] q))) else .bad
  | _, _ => .bad
def eDispN (fp : EPs) : EF := fun τ M => (fp τ (M ++ [.dK []])).bind (dispN M.length)
theorem keyed_ok {ρ : List Addr} {H : Hp} : ∀ {as : List (A × A)} {ps : List (V × V)} {q : List (Key × A)}, relPs ρ H as ps → keyed? as = some q → ∃ kvs : List (Key × V), ps = kvs.map (fun kv => (kV kv.1, kv.2)) ∧ kvs.length = q.length ∧
    ∀ {acc : List (Key × A)} {vs : List V}, IsAll ρ H (acc.map (·.2)) vs → ∃ ws, mergeK ((acc.map (·.1)).zip vs) kvs = ((mergeA acc q).map (·.1)).zip ws ∧ IsAll ρ H ((mergeA acc q).map (·.2)) ws
  | [], [], q, _, e => by
    cases e
    exact ⟨[], rfl, rfl, fun i => ⟨_, rfl, i⟩⟩
  | [], _ :: _, q, ⟨i, _⟩, e => by cases i
  | _ :: _, [], q, ⟨i, _⟩, e => by cases i
  | (k, v) :: as, (x, y) :: ps, q, ⟨i1, i2⟩, e => by
    unfold keyed? at e
    cases i1 with
    | cons j1 i1 =>
      cases i2 with
      | cons j2 i2 =>
        split at e
        · rename_i j q' e1 e2
          cases e
          obtain ⟨kvs, h1, h2, h3⟩ := keyed_ok ⟨i1, i2⟩ e2
          refine ⟨(j, y) :: kvs, by rw [List.map_cons, ← h1, ← key_ok j1 e1], by simp [h2], fun {acc vs} i => ?_⟩
          obtain ⟨ws, e3, i3⟩ := put_ok j j2 i
          obtain ⟨us, e4, i4⟩ := h3 i3
          refine ⟨us, ?_, i4⟩
          show mergeK (putK ((acc.map (·.1)).zip vs) j y) kvs = _
          rw [e3]; exact e4
        · cases e
theorem ae_dispN {ks : List (Option Expr)} {vs : List Expr} {fp : EPs} (h : APs X W pos ks vs fp) (hall : ks.all (·.isSome) = true := by rfl) (hl : ks.length = vs.length := by rfl) (h0 : ks ≠ [] := by intro z; cases z) (h15 : ks.length ≤ 15 := by decide) : AE X W (.Dict ks vs pos) (eDispN fp) := by
  obtain ⟨trs, hp, ht⟩ := h
  refine (pe_disp hp hall hl h0 h15).pre fun σ H Q h => ?_
  obtain ⟨τ, M, ρ, rs, rm, r⟩ := h
  intro p hp
  have g0 : Grow H (upd H p (.dK [])) := .new hp
  have m0 : RM (X.am W.Tb) (ρ ++ [p]) (upd H p (.dK [])) (M ++ [.dK []]) := rm.push hp ⟨[], upd_same, .nil⟩
  have r := RE.mono r (.snoc ρ p) g0
  have hl0 : (ρ ++ [p])[M.length]? = some p := by rw [← rm.len]; simp
  unfold eDispN at r
  refine ht _ _ _ ⟨τ, _, _, rs.mono (.snoc ρ p) g0, m0, ?_⟩
  cases e1 : fp τ (M ++ [.dK []]) with
  | ok ps M2 =>
    rw [e1] at r
    intro qs H2 ρ2 x2 g2 m2 i2
    have r := RE.mono r x2 g2
    have hb : ρ2[M.length]? = some p := x2.get hl0
    have r : RE (X.gx W.Tb) W σ ρ2 H2 Is (dispN M.length ps M2) Q := r
    unfold dispN at r
    split at r
    · rename_i q ec ek
      split at r
      · rename_i h15
        obtain ⟨vs, hq, iz⟩ := m2.at_ _ _ _ hb ec
        have hH : H2 p = some (.dK []) := by cases iz; exact hq
        obtain ⟨kvs, k1, k2, k3⟩ := keyed_ok i2 ek
        obtain ⟨ws, k4, k5⟩ := k3 (acc := []) (vs := []) .nil
        have g4 := m2.growSet (o := .dK (mergeK [] kvs)) hb ec
        refine ⟨hH, kvs, k1, by omega, ?_⟩
        refine r.okv (.refl _) g4 (m2.set hb ec ⟨ws, ?_, k5.mono (.refl _) g4⟩) (.dct hb)
        rw [upd_same]; exact congrArg (fun z => some (HO.dK z)) k4
      · exact r.elim
    · exact r.elim
  | ex en M2 => rw [e1] at r; exact r
  | bad => rw [e1] at r; exact r.elim
/-! ### l.index(x), data -/
def ixData (d : PyData) : List PyData → Nat → Option Nat
  | [], _ => none
  | x :: xs, j => if PyData.eqv x d = true then some j else ixData d xs (j + 1)
theorem ixData_ok {d : PyData} : ∀ {xs : List PyData} {j n : Nat}, ixData d xs j = some n → ∃ k z, n = j + k ∧ xs[k]? = some z ∧ PyData.eqv z d = true ∧ ∀ (m : Nat) (z' : PyData), m < k → xs[m]? = some z' → PyData.eqv z' d = false
  | [], _, _, e => by cases e
  | x :: xs, j, n, e => by
    unfold ixData at e
    split at e
    · rename_i h; cases e
      exact ⟨0, x, rfl, rfl, h, fun m z' hm => absurd hm (Nat.not_lt_zero m)⟩
    · rename_i h
      obtain ⟨k, z, e1, e2, e3, e4⟩ := ixData_ok e
      refine ⟨k + 1, z, by omega, by simpa using e2, e3, fun m z' hm hz => ?_⟩
      cases m with
      | zero => simp at hz; subst hz; simpa using h
      | succ m => exact e4 m z' (by omega) (by simpa using hz)
def oIndexD : OM := fun x as M => match x, as with
  | .lst l, [y] => match datS M (.lst l), datS M y with
    | some (.list ds), some d => (ixData d ds 0).map fun j => (.int (j : Nat), M)
    | _, _ => none
  | _, _ => none
theorem mt_indexDA (hu : X.A.units + 65 < cLine) : MtR X "list.index" (rm (X.am W.Tb) oIndexD) := by
  intro pins s σ H x xs v us Q I rx rxs h
  obtain ⟨a, as, M, ρ, ia, is, m, ro⟩ := h
  unfold oIndexD at ro
  split at ro
  · rename_i l y
    cases is with
    | cons i1 is =>
      cases is
      split at ro
      · rename_i ds d e1 e2
        obtain ⟨h1, s1⟩ := datS_ok m ia e1
        obtain ⟨h2, s2⟩ := datS_ok m i1 e2
        cases ia with
        | lst hl =>
          cases e3 : ixData d ds 0 with
          | none => rw [e3] at ro; exact ro.elim
          | some j =>
            rw [e3] at ro
            obtain ⟨k, z, q1, q2, q3, q4⟩ := ixData_ok e3
            have : j = k := by omega
            subst this
            exact mt_indexD hu pins s σ H _ _ v us Q I rx rxs ⟨_, _, d, ds, j, z, rfl, rfl, h1, h2, s1, s2, q2, q3, q4, RO.val (ρ := ρ) (M := M) ro m (.int _)⟩
      · exact ro.elim
  · exact ro.elim
theorem ae_indexD {a : Expr} {apos cpos : Pos} (hu : X.A.units + 65 < cLine) (ho : AE X W a f) (ha : AA X W [e] fs) (hbase : attributeBase a "index" X.env (eval a X.env) = eval a X.env := by rfl)
    (hfew : ((backTo cpos (starEach [e] X.env)).all (fun x => !x.1) && (backToKw cpos (keywordEach [] X.env)).all (fun x => x.1.isSome)
      && decide ([e].length + ([] : List Keyword).length + (if ([] : List Keyword).isEmpty then 0 else 1) < 30)) = true := by rfl)
    (hline : (apos.endLine == cpos.line) = true := by rfl) (hs : starEach [e] X.env = (false, eval e X.env) :: starEach [] X.env := by rfl) (hplain : (backTo cpos (starEach [] X.env)).any (·.1) = false := by rfl) :
    AE X W (.Call (.Attribute a "index" apos) [e] [] cpos) (eMeth oIndexD f fs) := ae_meth PySem.F.slot_list_index PySem.F.type_list_index (mt_indexDA hu) ho ha hbase hfew hline hs hplain
/-! ### for .. in permutations(range(n)) -/
def permA (n : Nat) : List A := (List.range (PM.fct n)).map fun i => .tup ((PM.ix n i).map fun j : Nat => A.int (j : Int))
def permOf (p : Int × Int) (M : Store) : EO Src := if p.1 = 0 ∧ 1 ≤ p.2 ∧ p.2 ≤ 3 then .ok (.snap (permA p.2.toNat)) M else .bad
def iPerm (fr : ER) : EI := fun τ M => (fr τ M).bind permOf
theorem rowV_is {ρ : List Addr} {H : Hp} (n i : Nat) : IsAll ρ H ((PM.ix n i).map fun j : Nat => A.int (j : Int)) (PM.rowV n i) := by
  unfold PM.rowV
  generalize PM.ix n i = l
  induction l with
  | nil => exact .nil
  | cons j l ih => exact .cons (.int _) ih
theorem srcJ_pm {w : Amb} {ρ : List Addr} {H : Hp} {n : Nat} : SrcJ w ρ H (.snap (permA n)) (PM.ItPm n) := by
  intro ρ2 H2 M2 i x g m
  by_cases hi : i < PM.fct n
  · have e : (permA n)[i]? = some (.tup ((PM.ix n i).map fun j : Nat => A.int (j : Int))) := by unfold permA; simp [hi]
    simp only [Src.at, e]
    refine ⟨hi, fun v H3 ⟨a, e1, hn, e2⟩ => ?_⟩
    subst e1 e2
    exact ⟨.new hn, m.new hn, .tup upd_same (rowV_is n i)⟩
  · have e : (permA n)[i]? = none := by unfold permA; simp; omega
    simp only [Src.at, e]
    exact Nat.le_of_not_lt hi
theorem ai_perm {tg : Expr} {x : Str} {p : Pos} {fr : ER} (hc : X.calm = true) (hm : X.mg x = some (.type "itertools.permutations")) (he : AR X W e fr) (hg : Gl X x := by rfl) (hd : (x == ("__debug__" : Str)) = false := by decide) (na : starEach [e] X.env = (false, eval e X.env) :: starEach [] X.env := by rfl) :
    AI X W tg (.Call (.Name x p) [e] [] pos) (iPerm fr) := ⟨fun pins s σ H R I h => by
  have h1 := seqG relR h
  refine Call_ (ld_glob I hg hm (PyProof.Rows.callWith_type1 (args_cons (thn (he pins s σ H (fun a b H1 => tK (X.gx W.Tb) W relR (relJ (X.am W.Tb)) (fun τ => permOf) σ R (a, b) H1) I h1) fun xv s1 ⟨r, a, b, t, u, v, H1, ex, hr, I1, q⟩ => args_nil ?_) na) na) hd)
  obtain ⟨τ, M, ρ, c, rs, rm, i, r⟩ := q
  have i : c = (a, b) := i
  subst i ex
  have r2 : RE (X.gx W.Tb) W σ ρ H1 (relJ (X.am W.Tb)) (if a = 0 ∧ 1 ≤ b ∧ b ≤ 3 then .ok (.snap (permA b.toNat)) M else .bad) R := r
  clear r
  split at r2
  · rename_i hz
    obtain ⟨rfl, h1, h3⟩ := hz
    obtain ⟨n, rfl⟩ : ∃ n : Nat, b = (n : Int) := ⟨b.toNat, by omega⟩
    refine PM.call_pm (I1.ok.hd hc) hr (by omega) (by omega) fun hm h' tk it pool k1 k2 l1 l2 at0 => ?_
    have Im : Inv X pins σ H1 { s1 with heap := hm, toks := tk } := I1.kept (t' := tk) k1
    have I2 : Inv X pins σ H1 { s1 with heap := h', toks := tk } := I1.kept (t' := tk) fun b o e => k2 b o (k1 b o e)
    refine PM.pm_iter (s := { s1 with heap := h', toks := tk }) at0 ?_
    refine ⟨it, [it, pool], _, _, H1, rfl, I2, PM.turn_pm (by omega) (by omega) it pool, ⟨at0, Nat.zero_le _⟩, fun b hb => ?_, RE.okv (a := Src.snap (permA n)) (M := M) (rel := relJ (X.am W.Tb)) r2 (.refl _) (.refl _) rm srcJ_pm⟩
    have e : b = it ∨ b = pool := by simpa using hb
    have hle : hm.objs.size ≤ b := by
      rcases e with rfl | rfl
      · exact l1
      · exact l2
    have f := Im.fpOk (b := b) (H' := H1) hle (Im.hok.fresh hle)
    exact f
  · exact r2.elim⟩
end
end AB
/-! AB19: dicts whose keys are tuples of anything: d[k], {k: v for ..} -/
namespace AB
open PySem PySem.Spec PyProof.Rows L2
section
variable {X : Cx} {W : WR} {pos : Pos} {a b : Expr} {f g : EF} {pins : List (Addr × Obj)} {σ : L2.St} {H : Hp} {s : Shared} {ρ : List Addr} {M M' : Store} {E : Value → Shared → Prop}
/-! ### d[k] -/
def oNget : O2 := fun x k M => match x with
  | .dct d => match M[d]?, nkey? k with
    | some (.dN kvs), some (.tup js) => if (NestedKey.tup js).depth ≤ 8 then (valA kvs (.tup js)).map fun v => (v, M) else none
    | _, _ => none
  | _ => none
theorem n_get {d : Nat} {p : Addr} {kvs : List (NestedKey × A)} {js : List NestedKey} {kb : Addr} {v : A} {Q : Value → Shared → Prop} (hu : X.A.units + 9 < cLine) (I : L2.Inv X pins σ H s) (m : RM (X.am W.Tb) ρ H M) (hp : ρ[d]? = some p) (hc : M[d]? = some (.dN kvs))
    (ik : Is ρ H (ofN (.tup js)) (.ref kb)) (hd : (NestedKey.tup js).depth ≤ 8) (hv : valA kvs (.tup js) = some v) (q : ∀ u s' y, L2.Inv X pins σ H s' → Is ρ H v y → RelV y u → Q u s') :
    s.TypeIs (.ref p) "dict" ∧ wpAny (model X.prog X.w) X.A (getItem (.ref p) (.ref kb)) Q E s := by
  obtain ⟨bs, vs, us', hh, iks, ivs, dp, rv, l1, l3, hsz, hsm, hnd, D⟩ := nest_dict I m hp hc
  have keyIs : (nestedKind X.prog X.w).is s.heap (.tup js) kb := ⟨nested_of I.hok _ _ _ ik rfl, hd⟩
  rcases rowsN_at (k := .tup js) l1 ivs rv with ⟨e1, _⟩ | ⟨z, zv, b', u', e1, e2, iz, rz⟩
  · rw [hv] at e1; cases e1
  · rw [hv] at e1; cases e1
    refine ⟨D.typeIs, wpAny_getItem_heap (by show X.A.units + 1 + 8 < cLine; omega) keyIs D e2 (q _ _ _ (I.tok _) iz rz)⟩
theorem ae_nget (hu : X.A.units + 9 < cLine) (ha : AE X W a f) (hb : AE X W b g) (hs : NoSl b := by intro _ _; rfl) : AE X W (.Subscript a b pos) (eOp oNget f g) := ⟨fun pins s σ H Q I h => by
  have h := op_tK h
  refine subD_of PySem.F.slot_dict_getitem.lookup hs (thn (ha.run pins s σ H _ I h) fun u s1 ⟨x, H1, I1, rx, q1⟩ => thn (hb.run pins s1 σ H1 _ I1 q1) fun iv s2 ⟨y, H2, I2, ry, c, k, M, ρ, ic, ik, m, ro⟩ => ?_)
  unfold oNget at ro
  cases c with
  | dct d =>
    dsimp only at ro
    split at ro
    · rename_i kvs js ec ek
      split at ro
      · rename_i hd
        cases ev : valA kvs (.tup js) with
        | none => rw [ev] at ro; exact ro.elim
        | some v =>
          rw [ev] at ro
          cases ic with
          | dct hp =>
            cases rx
            have ik : Is ρ H2 (ofN (.tup js)) y := by rw [nkey_of _ _ ek]; exact ik
            obtain ⟨kb, rfl⟩ : ∃ kb, y = .ref kb := by simp only [ofN] at ik; cases ik with | tup h1 h2 => exact ⟨_, rfl⟩
            cases ry
            exact n_get hu I2 m hp ec ik hd ev fun u s' y I' iy ry => ⟨y, H2, I', ry, RO.val (ρ := ρ) (M := M) ro m iy⟩
      · exact ro.elim
    · exact ro.elim
  | _ => exact ro.elim⟩
/-! ### d[k] = v, a new key -/
def nPut (M : Store) (l : Nat) (k y : A) : Option Store := match M[l]?, nkey? k with
  | some (.dN kvs), some (.tup js) => if (NestedKey.tup js).depth ≤ 8 ∧ kvs.length < sizeLine ∧ (valA kvs (.tup js)).isNone = true then some (M.set l (.dN (kvs ++ [(.tup js, y)]))) else none
  | _, _ => none
theorem n_put {l : Nat} {p : Addr} {k y : A} {kv yv : V} {u1 u2 : Value} {Q : Unit → Shared → Prop} (hu : X.A.units + 9 < cLine) (I : L2.Inv X pins σ H s) (m : RM (X.am W.Tb) ρ H M) (hp : ρ[l]? = some p) (ik : Is ρ H k kv) (iy : Is ρ H y yv) (rk : RelV kv u1) (ry : RelV yv u2)
    (e : nPut M l k y = some M') (q : ∀ H' s', L2.Inv X pins σ H' s' → Grow H H' → RM (X.am W.Tb) ρ H' M' → (∀ b, b ≠ p → H' b = H b) → Q () s') : wpAny (model X.prog X.w) X.A (dictSet p u1 u2) Q E s := by
  unfold nPut at e
  split at e
  · rename_i kvs js ec ek
    split at e
    · rename_i hz
      obtain ⟨z1, z2, z3⟩ := hz
      cases e
      have ik : Is ρ H (ofN (.tup js)) kv := by rw [nkey_of _ _ ek]; exact ik
      obtain ⟨kb, rfl⟩ : ∃ kb, kv = .ref kb := by simp only [ofN] at ik; cases ik with | tup h1 h2 => exact ⟨_, rfl⟩
      cases rk
      obtain ⟨bs, vs, us', hh, iks, ivs, dp, rv, l1, l3, hsz, hsm, hnd, D⟩ := nest_dict I m hp ec
      have keyIs : (nestedKind X.prog X.w).is s.heap (.tup js) kb := ⟨nested_of I.hok _ _ _ ik rfl, z1⟩
      have rl : (rowsN (kvs.map (·.1)) bs us').length = kvs.length := by rw [rowsN_len (by simpa using l1) (by simpa using l3)]; simp
      have hno : atKey (rowsN (kvs.map (·.1)) bs us') (.tup js) = none := by
        rcases rowsN_at (k := .tup js) l1 ivs rv with ⟨_, e2⟩ | ⟨z, zv, b', u', e1, _⟩
        · exact e2
        · rw [e1] at z3; cases z3
      refine wpAny_dictSet_heap (hsz := by rw [rl]; exact hsz) (knd := nestedKind X.prog X.w) (by show X.A.units + 8 < cLine; omega) keyIs D fun h' D' sb => ?_
      have hk1 : (kvs.map (·.1)).length = bs.length := by simpa using l1
      have hv1 : (kvs.map (·.1)).length = us'.length := by simpa using l3
      rw [storedH_new hno, ← rowsN_append hk1 hv1] at D'
      obtain ⟨o, es, ep, ho, hx, hdt, he, _, hn2⟩ := D'
      have zk : (kvs.map (·.1) ++ [NestedKey.tup js]).zip (bs ++ [kb]) = ((kvs ++ [(NestedKey.tup js, y)]).map (·.1)).zip (bs ++ [kb]) := by rw [List.map_append]; rfl
      have lk : (kvs.map (·.1) ++ [NestedKey.tup js]).length = (bs ++ [kb]).length := by simp [l1]
      have fstk : ((kvs.map (·.1) ++ [NestedKey.tup js]).zip (bs ++ [kb])).map (·.1) = kvs.map (·.1) ++ [NestedKey.tup js] := map_zip_fst lk
      have new : ObjOk X.prog X.w (upd H p (nestO X.w p ((kvs.map (·.1) ++ [NestedKey.tup js]).zip (bs ++ [kb])) (vs ++ [yv]))) h' p (nestO X.w p ((kvs.map (·.1) ++ [NestedKey.tup js]).zip (bs ++ [kb])) (vs ++ [yv])) := by
        refine ⟨⟨?_, hsm, ?_, ?_, us' ++ [u2], rv.append (.cons ry .nil), o, es, ep, ho, hx, hdt, he.trans rowsN_entries.symm⟩, ⟨o, ho⟩, ?_⟩
        · simp only [List.length_zip, List.length_append, List.length_map, List.length_singleton]; omega
        · have := rv.length
          simp only [List.length_zip, List.length_append, List.length_map, List.length_singleton]; omega
        · rw [fstk]
          rw [rowsN_keys lk (by simp [l3])] at hn2
          exact hn2
        · rintro h1 h2 ⟨q1, q2, q3, q4, us, q5, o, es, ep, q6, q7⟩ k
          exact ⟨q1, q2, q3, q4, us, q5, o, es, ep, k o q6, q7⟩
      have I2 := I.write (e := p) (t' := s.toks + (nestedKind X.prog X.w).draws (.tup js)) (by rw [hh]; trivial) (.inl rfl) (fun b u hb hu' => (sb.2 b hb).trans hu') ⟨o, ho⟩ new
      have g := m.growSet (o := nestO X.w p ((kvs.map (·.1) ++ [NestedKey.tup js]).zip (bs ++ [kb])) (vs ++ [yv])) hp ec
      refine q _ _ I2 g (m.set hp ec ⟨bs ++ [kb], vs ++ [yv], by rw [upd_same, zk], ?_, ?_, ?_⟩) fun b hb => upd_ne hb
      · rw [List.map_append, List.map_append]
        exact (iks.mono (.refl _) g).append (.cons (ik.mono (.refl _) g) .nil)
      · rw [List.map_append]
        exact (ivs.mono (.refl _) g).append (.cons (iy.mono (.refl _) g) .nil)
      · intro kv hkv
        rcases List.mem_append.mp hkv with q | q
        · exact dp kv q
        · simp at q; subst q; exact z1
    · cases e
  · cases e
/-! ### {k: v for .. in ..} -/
def dcA (src : Src) (t : Tgt) (ft : EFb) (fk fe : EF) (l : Nat) (τ : Sl) : Nat → Nat → Store → EO A
  | 0, _, _ => .bad
  | n + 1, i, M => match src.at M i with
    | none => .bad
    | some none => .ok (.dct l) M
    | some (some x) => match t.set x τ with
      | none => .bad
      | some τ1 => match ft τ1 M with
        | .ok true M1 => match fk τ1 M1 with
          | .ok k M2 => match fe τ1 M2 with
            | .ok y M3 => match nPut M3 l k y with
              | some M4 => dcA src t ft fk fe l τ n (i + 1) M4
              | none => .bad
            | _ => .bad
          | _ => .bad
        | .ok false M1 => dcA src t ft fk fe l τ n (i + 1) M1
        | _ => .bad
def eDc (fi : EI) (t : Tgt) (ft : EFb) (fk fe : EF) (own : List Nat) : EF := fun τ M => (fi τ M).bind fun src M1 => dcA src t ft fk fe M1.length (wipeA τ own) (src.size M1) 0 (M1 ++ [.dN []])
theorem dc_core_n (own : List (Str × Nat)) {kx vx tg iter : Expr} {ifs : List Expr} {scope : Scope} {fi : EI} {t : Tgt} {ft : EFb} {fk fe : EF} {pos' : Pos} {use : Option (Value → Sem Unit)} {Qf : Value → Shared → Prop} {Q : VK} (hu : X.A.units + 9 < cLine) (hc : X.calm = true) (hN : X.N.Nodup) (ok : BlkOk X.N X.env.scope scope own) (ho : ∀ i ∈ t.own, i ∈ own.map (·.2)) (hi : AI X W tg iter fi)
    (hg : ∀ (s : Shared) (H : Hp) (C : Addr) (cl : List (Str × Addr)) (fp : List Addr), AG (X.blk s H scope (compEnvC scope cl C X.env) fp) tg t) (ht : ∀ (s : Shared) (H : Hp) (C : Addr) (cl : List (Str × Addr)) (fp : List Addr), ATs (X.blk s H scope (compEnvC scope cl C X.env) fp) W.nx ifs ft)
    (hk : ∀ (s : Shared) (H : Hp) (C : Addr) (cl : List (Str × Addr)) (fp : List Addr), AE (X.blk s H scope (compEnvC scope cl C X.env) fp) W.nx kx fk)
    (he : ∀ (s : Shared) (H : Hp) (C : Addr) (cl : List (Str × Addr)) (fp : List Addr), AE (X.blk s H scope (compEnvC scope cl C X.env) fp) W.nx vx fe) (hs : ∀ x, foldedSetIterable iter X.env x = pure x)
    (I : L2.Inv X pins σ H s) (h : tG (X.gx W.Tb) W Is (eDc fi t ft fk fe (own.map (·.2))) σ H Q)
    (hend : ∀ D C s' m H', L2.Inv X pins σ H' s' → Q (.ref D) H' → s'.heap.Ns C m → FpOk X pins H' C → compPost (model X.prog X.w) X.A X.xe use Qf (.ref D) C (.ok .next) s') :
    wpAny (model X.prog X.w) X.A (comprehension (.DictComp kx vx [⟨tg, iter, ifs, 0⟩] scope pos) scope X.env pos' newDict false (eval iter X.env) use) Qf X.xe s := by
  have fr : ∀ y ∈ scope.names, y.2 = .free → ∃ c, X.env.cells.lookup y.1 = some c := by
    intro y hy e
    exact (ok.free y hy e).elim (fun k => I.ok.has _ (.inl k)) fun k => I.ok.has _ (.inr k)
  refine wpAny_comprehension_free (use := use) rfl hs (closure_ok fr) ok.kind (fun y hy e => by rw [ok.uniq y hy, e]) (thn (hi.run pins s σ H _ I (seqG (relJ (X.am W.Tb)) h)) fun xv s1 hx => thn hx fun itv s2 h2 => ?_)
  obtain ⟨it, fp, tn, J, H2, rfl, I2, T, st2, f2, τ, M, ρ, src, rs, rm, ij, r⟩ := h2
  refine wpAny_newObj_type (newEnv_comp ?_)
  -- the new dict
  generalize hD : s2.heap.objs.size = D
  have nD : H2 D = none := I2.hok.fresh (Nat.le_of_eq hD)
  have big : s2.heap.objs.size ≠ sysModules := Ne.symm (Nat.ne_of_lt I2.big)
  generalize hz : ({ s2 with heap := s2.heap.push { cls := .type "dict", data := .dict #[] } } : Shared) = z
  have hzh : z.heap = s2.heap.push { cls := .type "dict", data := .dict #[] } := by rw [← hz]
  have I3 : L2.Inv X pins σ (upd H2 D (nestO X.w D [] [])) z := by
    subst hz hD
    refine I2.laid (a := s2.heap.objs.size) (t' := s2.toks) (fun _ _ q => Heap.get?_push_of_some _ q) (Nat.le_refl _) ⟨⟨Nat.zero_le _, beq_eq_false_iff_ne.mpr big, rfl, List.nodup_nil, [], .nil, _, #[], 0, Heap.get?_push_size _ rfl, ⟨rfl, rfl, rfl⟩, rfl, rfl⟩, ⟨_, Heap.get?_push_size _ rfl⟩, ?_⟩
    rintro h1 h2 ⟨q1, q2, q3, q4, us, q5, o, es, ep, q6, q7⟩ k
    exact ⟨q1, q2, q3, q4, us, q5, o, es, ep, k o q6, q7⟩
  generalize hG : upd H2 D (nestO X.w D [] []) = G at I3
  have g0 : Grow H2 G := by subst hG; exact .new nD
  have m0 : RM (X.am W.Tb) (ρ ++ [D]) G (M ++ [.dN []]) := by
    subst hG
    exact rm.push nD ⟨[], [], upd_same, .nil, .nil, fun _ z => by cases z⟩
  have hl0 : (ρ ++ [D])[M.length]? = some D := by rw [← rm.len]; simp
  have old : ∀ b ∈ fp, b < s2.heap.objs.size := fun b hb => by
    obtain ⟨o, e, _⟩ := T.obj _ _ st2 b hb
    exact Heap.lt_size e
  have fG : ∀ b ∈ fp, FpOk X pins G b ∧ b < z.heap.objs.size := fun b hb => by
    refine ⟨⟨?_, (f2 b hb).2⟩, by rw [hzh, Heap.size_push]; exact Nat.lt_succ_of_lt (old b hb)⟩
    rw [← hG, upd_ne (by rw [← hD]; exact Nat.ne_of_lt (old b hb))]
    exact (f2 b hb).1
  have I4 := block_start I3 ok hN fG
  have stz : tn 0 z.heap := T.keep _ _ _ st2 fun b _ o e => by rw [hzh]; exact Heap.get?_push_of_some _ e
  have ag := hg z G z.heap.objs.size (cellsFrom (z.heap.objs.size + 1) scope.names (cloFrom X.env.cells scope.names [])) fp
  have at' := ht z G z.heap.objs.size (cellsFrom (z.heap.objs.size + 1) scope.names (cloFrom X.env.cells scope.names [])) fp
  have ak := hk z G z.heap.objs.size (cellsFrom (z.heap.objs.size + 1) scope.names (cloFrom X.env.cells scope.names [])) fp
  have av := he z G z.heap.objs.size (cellsFrom (z.heap.objs.size + 1) scope.names (cloFrom X.env.cells scope.names [])) fp
  show codeAny _ _ (.compStart (.DictComp kx vx [⟨tg, iter, ifs, 0⟩] scope pos) 0 (.ref it) (.ref D) (compEnvC scope (cellsFrom (z.heap.objs.size + 1) scope.names (cloFrom X.env.cells scope.names [])) z.heap.objs.size X.env)) (compPost (model X.prog X.w) X.A X.xe use Qf (.ref D) z.heap.objs.size) { z with heap := pushCells (z.heap.push { cls := .type "dict", data := .dict #[] }) scope.names }
  generalize hce : compEnvC scope (cellsFrom (z.heap.objs.size + 1) scope.names (cloFrom X.env.cells scope.names [])) z.heap.objs.size X.env = ce at I4 ag at' ak av ⊢
  have ceL : ce.locals = z.heap.objs.size := by subst hce; rfl
  generalize hy : ({ z with heap := pushCells (z.heap.push { cls := .type "dict", data := .dict #[] }) scope.names } : Shared) = y at I4 ⊢
  have sty : tn 0 y.heap := T.keep _ _ _ stz fun b _ o e => by rw [← hy]; exact pushCells_keeps _ _ _ _ (Heap.get?_push_of_some _ e)
  have nG : ∀ b ∈ fp, G b = none := fun b hb => (fG b hb).1.1
  have r : RE (X.gx W.Tb) W σ ρ H2 Is (dcA src t ft fk fe M.length (wipeA τ (own.map (·.2))) (src.size M) 0 (M ++ [.dN []])) Q := r
  generalize hM : M.length = l at r hl0
  generalize M ++ [Cell.dN []] = M0 at r m0
  have fpo : ∀ {σ' : L2.St} {H' : Hp} {s' : Shared}, L2.Inv (X.blk z G scope ce fp) [] σ' H' s' → (∀ b ∈ fp, H' b = none) → ∀ b ∈ fp, FpOk (X.blk z G scope ce fp) [] H' b := by
    intro σ' H' s' I' hn b hb
    refine ⟨hn b hb, (I'.ok.exf b hb).1, I'.ok.exfs b hb, .inl hb, fun x c e => (I'.ok.exf b hb).2 x c e, fun p hp => ?_⟩
    exact absurd (show p ∈ ([] : List (Addr × Obj)) ++ [] from hp) (by simp)
  have loop : codeAny (model X.prog X.w) X.A (.compLoop (.DictComp kx vx [⟨tg, iter, ifs, 0⟩] scope pos) 0 (.ref it) (.ref D) ce) (compPost (model X.prog X.w) X.A X.xe use Qf (.ref D) z.heap.objs.size) y := by
    refine compLoop_anyD (fun n s' => ∃ i H' M' ρ', L2.Inv (X.blk z G scope ce fp) [] (L2.wipe σ (own.map (·.2))) H' s' ∧ tn i s'.heap ∧ (∀ b ∈ fp, H' b = none) ∧ Ext (ρ ++ [D]) ρ' ∧ Grow H2 H' ∧ RM (X.am W.Tb) ρ' H' M' ∧ RE (X.gx W.Tb) W σ ρ' H' Is (dcA src t ft fk fe l (wipeA τ (own.map (·.2))) n i M') Q)
      ?_ (src.size M) ⟨0, G, M0, ρ ++ [D], I4, sty, nG, .refl _, g0, m0, RE.mono r (.snoc _ _) g0⟩
    rintro n s5 ⟨i, H5, M5, ρ5, I5, st5, n5, x5, g5, m5, r5⟩
    have xx : Ext ρ ρ5 := (Ext.snoc ρ D).trans x5
    cases n with
    | zero => exact r5.elim
    | succ n =>
      unfold dcA at r5
      have jj := ij ρ5 H5 M5 i xx g5 m5
      cases ea : src.at M5 i with
      | none => rw [ea] at r5; exact r5.elim
      | some o =>
        cases o with
        | none =>
          rw [ea] at r5 jj
          have td := T.done (X.blk z G scope ce fp) rfl rfl rfl hc i [] s5 _ H5 (fun _ _ => False) I5 (fpo I5 n5) st5 jj
          refine thnF td fun rr s6 ⟨hr, I6⟩ => ?_
          subst hr
          have I7 : L2.Inv X pins σ H5 s6 := I3.call' (ch := fp) I6.os I6.base I6.hok I6.bare fun b hb => by
            obtain ⟨⟨f0, f1, f2, f3, f4, f5⟩, _⟩ := fG b hb
            exact ⟨f3, f1, f4, f5⟩
          have nC : H5 z.heap.objs.size = none := by
            have q : H5 ce.locals = none := I6.free
            rwa [ceL] at q
          obtain ⟨mm, hn, _⟩ := I6.loc
          have hn : s6.heap.Ns ce.locals mm := hn
          rw [ceL] at hn
          exact hend D z.heap.objs.size s6 mm H5 I7 (RE.okv (a := A.dct l) (M := M5) (rel := Is) r5 (.refl _) (.refl _) m5 (.dct (x5.get hl0))) hn (I3.fpOk (Nat.le_refl _) nC)
        | some a =>
          rw [ea] at r5 jj
          obtain ⟨go, yy⟩ := jj
          dsimp only at r5
          have ti := T.item (X.blk z G scope ce fp) rfl rfl rfl hc i [] s5 _ H5 (fun _ _ => False) I5 (fpo I5 n5) st5 go
          refine thnF ti fun rr s6 ⟨u, hr, h6⟩ => ?_
          subst hr
          refine thnF h6 fun _ s7 ⟨x, H7, I7, r7, y7, st7, n7⟩ => ?_
          obtain ⟨g7, m7, ia⟩ := yy x H7 y7
          have P7 := I7.pinned (fpo I7 n7) (T.obj _ _ st7)
          have g57 := g5.trans g7
          cases et : t.set a (wipeA τ (own.map (·.2))) with
          | none => rw [et] at r5; exact r5.elim
          | some τ1 =>
            rw [et] at r5
            dsimp only at r5
            have r5 := RE.mono r5 (.refl _) g7
            refine thnF (ag.run _ s7 _ H7 x u (fun σ1 H' => H' = H7 ∧ RS W.nx ρ5 H7 τ1 σ1 ∧ L2.wipe σ1 (own.map (·.2)) = L2.wipe σ (own.map (·.2))) P7 r7 ?_) fun _ s8 ⟨σ1, H8, I8, e8, rs1, ew⟩ => ?_
            · refine ⟨a, wipeA τ (own.map (·.2)), ρ5, τ1, ia, ((rs.mono xx g57).wipe _).s, et, fun σ1 q1 sb => ⟨rfl, ⟨(rs.mono xx g57).ext, (rs.mono xx g57).grow, q1⟩, ?_⟩⟩
              rw [sb.wipe ho]
              exact wipe_wipe σ _
            subst e8
            -- a turn's end
            have fin : ∀ {s' : Shared} {H' : Hp} {M' : Store} {ρ' : List Addr}, L2.Inv (X.blk z G scope ce fp) ([] ++ pinsAt fp s7.heap) σ1 H' s' → Ext (ρ ++ [D]) ρ' → Grow H2 H' → RM (X.am W.Tb) ρ' H' M' → RE (X.gx W.Tb) W σ ρ' H' Is (dcA src t ft fk fe l (wipeA τ (own.map (·.2))) n (i + 1) M') Q →
                ∃ m, m < n + 1 ∧ ∃ i H' M' ρ', L2.Inv (X.blk z G scope ce fp) [] (L2.wipe σ (own.map (·.2))) H' s' ∧ tn i s'.heap ∧ (∀ b ∈ fp, H' b = none) ∧ Ext (ρ ++ [D]) ρ' ∧ Grow H2 H' ∧ RM (X.am W.Tb) ρ' H' M' ∧ RE (X.gx W.Tb) W σ ρ' H' Is (dcA src t ft fk fe l (wipeA τ (own.map (·.2))) m i M') Q := by
              intro s' H' M' ρ' I' x' g' m' r'
              have pin' : ∀ b ∈ fp, ∀ o, s7.heap.get? b = some o → s'.heap.get? b = some o ∧ H' b = none := fun b hb o e => by
                have q := I'.pin (b, o) (List.mem_append_right _ (List.mem_append_right _ (mem_pinsAt hb e)))
                exact ⟨q.1, q.2.1⟩
              refine ⟨n, Nat.lt_succ_self n, i + 1, H', M', ρ', (I'.unpinned (pins := [])).weak (by rw [← ew, wipe_length]) (fun j v e => ?_), T.keep _ _ _ st7 (fun b hb o e => (pin' b hb o e).1), fun b hb => ?_, x', g', m', r'⟩
              · rw [← ew] at e
                exact (wipe_some e).1
              · obtain ⟨o, e, _⟩ := T.obj _ _ st7 b hb
                exact (pin' b hb o e).2
            refine thnF (at'.run _ s8 σ1 H8 (fun k H' => ∃ M' ρ', ft τ1 M5 = .ok k M' ∧ Ext ρ5 ρ' ∧ Grow H8 H' ∧ RM (X.am W.Tb) ρ' H' M') I8 ?_) fun k s9 ⟨H9, I9, M9, ρ9, e9, x9, g9, m9⟩ => ?_
            · refine ⟨τ1, M5, ρ5, rs1, m7, ?_⟩
              cases e1 : ft τ1 M5 with
              | ok k M1 =>
                intro k' H' ρ' x g m ik
                have ik : k = k' := ik
                subst ik
                exact ⟨M1, ρ', rfl, x, g, m⟩
              | ex en M1 => rw [e1] at r5; exact r5.elim
              | bad => rw [e1] at r5; exact r5.elim
            rw [e9] at r5
            cases k with
            | false =>
              simp only [Bool.false_eq_true, if_false]
              dsimp only at r5
              exact fin I9 (x5.trans x9) (g57.trans g9) m9 (RE.mono r5 x9 g9)
            | true =>
              simp only [if_true]
              dsimp only at r5
              refine thnF (ak.run _ s9 σ1 H9 (fun kv H' => ∃ k M' ρ', fk τ1 M9 = .ok k M' ∧ Ext ρ9 ρ' ∧ Grow H9 H' ∧ RM (X.am W.Tb) ρ' H' M' ∧ Is ρ' H' k kv) I9 ?_) fun u1 sa ⟨kv, Ha, Ia, ra, k, Ma, ρa, ea', xa, ga, ma, ik⟩ => ?_
              · refine ⟨τ1, M9, ρ9, rs1.mono x9 g9, m9, ?_⟩
                cases e1 : fk τ1 M9 with
                | ok k M1 =>
                  intro k' H' ρ' x g m ik
                  exact ⟨k, M1, ρ', rfl, x, g, m, ik⟩
                | ex en M1 => rw [e1] at r5; exact r5.elim
                | bad => rw [e1] at r5; exact r5.elim
              rw [ea'] at r5
              dsimp only at r5
              refine thnF (av.run _ sa σ1 Ha (fun yv H' => ∃ y M' ρ', fe τ1 Ma = .ok y M' ∧ Ext ρa ρ' ∧ Grow Ha H' ∧ RM (X.am W.Tb) ρ' H' M' ∧ Is ρ' H' y yv) Ia ?_) fun u2 sb ⟨yv, Hb, Ib, rb, yA, Mb, ρb, eb, xb, gb, mb, iy⟩ => ?_
              · refine ⟨τ1, Ma, ρa, (rs1.mono x9 g9).mono xa ga, ma, ?_⟩
                cases e1 : fe τ1 Ma with
                | ok k M1 =>
                  intro k' H' ρ' x g m ik
                  exact ⟨k, M1, ρ', rfl, x, g, m, ik⟩
                | ex en M1 => rw [e1] at r5; exact r5.elim
                | bad => rw [e1] at r5; exact r5.elim
              rw [eb] at r5
              dsimp only at r5
              cases ep : nPut Mb l k yA with
              | none => rw [ep] at r5; exact r5.elim
              | some Mc =>
                rw [ep] at r5
                dsimp only at r5
                have hbD : ρb[l]? = some D := xb.get (xa.get (x9.get (x5.get hl0)))
                refine n_put (X := X.blk z G scope ce fp) hu Ib mb hbD (ik.mono xb gb) iy ra rb ep fun Hc sc Ic gc mc _ => ?_
                exact fin Ic (x5.trans (x9.trans (xa.trans xb))) ((((g57.trans g9).trans ga).trans gb).trans gc) mc (RE.mono r5 (x9.trans (xa.trans xb)) (((g9.trans ga).trans gb).trans gc))
  exact codeAny_compStart_dict loop (T.self X.A 0 _ _ _ sty loop)
theorem ae_dc (own : List (Str × Nat)) {kx vx tg iter : Expr} {ifs : List Expr} {scope : Scope} {fi : EI} {t : Tgt} {ft : EFb} {fk fe : EF} (hu : X.A.units + 9 < cLine) (hc : X.calm = true) (hN : X.N.Nodup) (ok : BlkOk X.N X.env.scope scope own) (ho : ∀ i ∈ t.own, i ∈ own.map (·.2)) (hi : AI X W tg iter fi)
    (hg : ∀ (s : Shared) (H : Hp) (C : Addr) (cl : List (Str × Addr)) (fp : List Addr), AG (X.blk s H scope (compEnvC scope cl C X.env) fp) tg t) (ht : ∀ (s : Shared) (H : Hp) (C : Addr) (cl : List (Str × Addr)) (fp : List Addr), ATs (X.blk s H scope (compEnvC scope cl C X.env) fp) W.nx ifs ft)
    (hk : ∀ (s : Shared) (H : Hp) (C : Addr) (cl : List (Str × Addr)) (fp : List Addr), AE (X.blk s H scope (compEnvC scope cl C X.env) fp) W.nx kx fk)
    (he : ∀ (s : Shared) (H : Hp) (C : Addr) (cl : List (Str × Addr)) (fp : List Addr), AE (X.blk s H scope (compEnvC scope cl C X.env) fp) W.nx vx fe) (hs : ∀ x, foldedSetIterable iter X.env x = pure x := by intro _; rfl) :
    AE X W (.DictComp kx vx [⟨tg, iter, ifs, 0⟩] scope pos) (eDc fi t ft fk fe (own.map (·.2))) := ⟨fun pins s σ H Q I h => by
  rw [arm_eval_DictComp]
  refine dc_core_n own hu hc hN ok ho hi hg ht hk he hs I h fun D C s' m H' I' q hn f => ⟨m, hn, fun h'' sb => ?_⟩
  obtain ⟨f0, f1, f2, f3, f4, f5⟩ := f
  exact ⟨.ref D, H', I'.turned (t' := s'.toks) (fun b o hb e => (sb.2 b hb).trans e) f0 f1 f3 f4 f5, rfl, q⟩⟩
theorem sw_trueD {kx vx : Expr} {gs : List Comprehension} {scope : Scope} {pos py : Pos} {y : Str} {l : Nat} {env : Env} (hk : env.scope.kind = .function) (hy : env.scope.names.lookup y = some .local) (hl : (py.line == pos.line) = true)
    (ha : (scope.names.any fun (n, k) => n == y && (k == .local || k == .cell)) = false) : swapsWith (.DictComp kx vx gs scope pos) (some (.Name y py)) l env = pure true := by
  have k1 : env.kindOf y = some .local := hy
  have k2 : env.blockKind = .function := by unfold Env.blockKind; rw [hk]; rfl
  unfold swapsWith
  simp only [k2, k1, ha, Expr.pos, hl]
  rfl
theorem as_setDc (i : Nat) (own : List (Str × Nat)) {y : Str} {py spos : Pos} {kx vx tg iter : Expr} {ifs : List Expr} {scope : Scope} {fi : EI} {t : Tgt} {ft : EFb} {fk fe : EF} (hu : X.A.units + 9 < cLine) (hc : X.calm = true) (hN : X.N.Nodup) (hsw : swapsWith (.DictComp kx vx [⟨tg, iter, ifs, 0⟩] scope pos) (some (.Name y py)) spos.line X.env = pure true) (ok : BlkOk X.N X.env.scope scope own) (ho : ∀ i ∈ t.own, i ∈ own.map (·.2)) (hi : AI X W tg iter fi)
    (hg : ∀ (s : Shared) (H : Hp) (C : Addr) (cl : List (Str × Addr)) (fp : List Addr), AG (X.blk s H scope (compEnvC scope cl C X.env) fp) tg t) (ht : ∀ (s : Shared) (H : Hp) (C : Addr) (cl : List (Str × Addr)) (fp : List Addr), ATs (X.blk s H scope (compEnvC scope cl C X.env) fp) W.nx ifs ft)
    (hk : ∀ (s : Shared) (H : Hp) (C : Addr) (cl : List (Str × Addr)) (fp : List Addr), AE (X.blk s H scope (compEnvC scope cl C X.env) fp) W.nx kx fk)
    (he : ∀ (s : Shared) (H : Hp) (C : Addr) (cl : List (Str × Addr)) (fp : List Addr), AE (X.blk s H scope (compEnvC scope cl C X.env) fp) W.nx vx fe) (hy : X.N[i]? = some y := by rfl) (hyl : X.env.scope.names.lookup y = some .local := by rfl) (hs : ∀ x, foldedSetIterable iter X.env x = pure x := by intro _; rfl) :
    AS X W (.Assign [.Name y py] (.DictComp kx vx [⟨tg, iter, ifs, 0⟩] scope pos) spos) (sAsg (.nm i) (eDc fi t ft fk fe (own.map (·.2)))) := ⟨fun pins s σ H D I h => by
  have h1 := asg_tK h
  rw [exec_Assign_Name_used _ _ _ _ hsw]
  refine wpAny_bind (wpAny_standAt (wpAny_bind ?_))
  show wpAny _ X.A (do let _ ← comprehension (.DictComp kx vx [⟨tg, iter, ifs, 0⟩] scope pos) scope X.env (firstIterPos [⟨tg, iter, ifs, 0⟩] pos) newDict false (eval iter X.env) (some (assign (.Name y py) X.env))) _ _ s
  refine wpAny_bind (thn (dc_core_n (Qf := fun _ s' => SP X pins D .next s') own hu hc hN ok ho hi hg ht hk he hs I h1 fun L C s' m H' I' q hn f => ?_) fun _ s' hq => wpAny_pure (wpAny_pure hq))
  show wpAny _ _ (assign (.Name y py) X.env (.ref L)) _ _ _
  obtain ⟨a, τ, ρ, τ', ia, rs, e, q⟩ := q
  simp only [Tgt.set] at e
  cases e
  refine wpAny_assign_Name (store_ok2 (v := V.ref L) I' hN hy (.inl hyl) rfl (fun s2 I2 ⟨b, sb, hb⟩ => ?_) (.inr hyl))
  obtain ⟨f0, f1, f2, f3, f4, f5⟩ := f
  have nb : C ≠ b := by
    rcases hb with z | z
    · rw [z]; exact f1
    · exact fun e => f4 y b z e.symm
  refine ⟨m, hn.sameBut sb nb, fun h3 sb3 => ?_⟩
  refine ⟨_, H', I2.turned (t' := s2.toks) (fun b o hb e => (sb3.2 b hb).trans e) f0 f1 f3 f4 f5, q _ (rs.set ia i) ⟨by simp, fun j hj => ?_⟩⟩
  rw [List.getElem?_set_ne (by intro z; exact hj (by simp [Tgt.own, z]))]⟩
end
end AB
/-! AB20: enumerate(t, start=k), t a tuple -/
namespace EK
open PySem PySem.Spec PyProof.Rows L2
theorem callWith_type_kw {M : Model} {A : Around} {E : Value → Shared → Prop} {s : Shared} {pos : Pos} {T : String} {args : List (Bool × Sem Value)} {kws : List (Option Str × Sem Value)} {Q : Value → Shared → Prop} (hplain : args.any (·.1) = false) (hkw : kws.any (·.1.isNone) = false)
    (h : wpAny M A (evalArgs (.type T) true args kws) (fun z s₁ => wpAny M A (call (.type T) z.pos z.kw) Q E s₁) E s) : wpAny M A (callWith pos (.type T) [] args kws) Q E s := by
  unfold callWith
  refine wpAny_bind (wpAny_holding (thn h fun z s₁ h₁ => wpAny_bind (wpAny_standAt ?_)))
  simp only [hplain, hkw, Bool.or_false]
  exact wpAny_bind (wpAny_pure (wpAny_bind (thn h₁ fun r s₂ hr => wpAny_bind (wpAny_holding (wpAny_point (wpAny_pure hr))))))
theorem enum_end_c {prog : Program} {w : World} {A : Around} {E : Value → Shared → Prop} {s : Shared} {e it l : Addr} {i : Nat} {c : Int} {items : Array Value} {old : Value} {Q : Option Value → Shared → Prop} (hh : A.handled = none)
    (he : IsEnum s.heap e it c old) (hit : s.heap.IsTupleIter it l i) (hl : s.heap.IsTuple l items) (hx : items[i]? = none)
    (hQ : ∀ h', Heap.ExtBut it s.heap h' → Q none { s with heap := h' }) : wpAny (model prog w) A (pyNext (.ref e)) Q E s := by
  have hT : s.TypeIs (.ref e) "enumerate" := ⟨_, he, rfl⟩
  unfold pyNext
  refine wpAny_bind (wpAny_attempt (wpAny_callSpecial?_slot (name := Str.ofString "__next__") hT F.slot_enumerate_next
    (wpAny_call_entry F.slot_enumerate_next hT F.entry_enumerate_next ?_ (F.args_enumerate_next_1 _))))
  show wpAny _ _ (field (.ref e) 2 >>= _) _ _ _
  refine wpAny_bind (wpAny_field he rfl (x := .ref it) rfl ?_)
  refine wpAny_bind (wpAny_nextOf_tuple_end (by first | exact hh | (show A.in1.handled = none; exact hh)) hit hl hx fun h' x he' hx' => ?_)
  obtain ⟨o, ho, hc⟩ := hx'
  refine wpAny_bind (wpAny_isInstance (T := "StopIteration") (b := true) ⟨o, ho, hc⟩ isSubtype_stop ?_)
  exact wpAny_pure (hQ _ he')
def ItK (K : PySem.W.Frag) (a : Addr) (k : Int) : It :=
  ⟨fun i H => ∃ (xs : List V) (x : V), SqT K H a xs ∧ xs[i]? = some x, fun i H v H' => ∃ T x, v = .ref T ∧ H T = none ∧ H' = upd H T (.tup [.int (k + (i : Nat)), x]) ∧ ∀ xs, SqT K H a xs → xs[i]? = some x, fun i H => ∃ xs : List V, SqT K H a xs ∧ xs.length ≤ i⟩
theorem turn_enumK {P : Program} {w : World} {K : PySem.W.Frag} {elts : List Expr} {kk : Nat} {tpos : Pos} (a e it : Addr) (k : Int) :
    Turn P w K (.Tuple elts kk tpos) (ItK K a k) [e, it] e (fun i h => (∃ old, IsEnum h e it (k + ((i : Nat) : Int)) old) ∧ h.IsTupleIter it a i ∧ e ≠ it) where
  mem := by simp
  obj := fun i h st b hb => by
    obtain ⟨⟨old, he⟩, ⟨o, ho, hc, hd⟩, _⟩ := st
    have e' : b = e ∨ b = it := by simpa using hb
    rcases e' with z | z
    · rw [z]; exact ⟨_, he, fun v q => nomatch q⟩
    · rw [z]; exact ⟨o, ho, fun v q => by rw [hd] at q; cases q⟩
  keep := fun i h h' st k => let ⟨⟨old, he⟩, hi, hne⟩ := st; ⟨⟨old, k e (by simp) _ he⟩, hi.at fun o q => k it (by simp) o q, hne⟩
  item := by
    intro X hP hw hK hc i pins s σ H E I hf st hg
    subst hP hw hK
    obtain ⟨⟨old, he⟩, hit, hne⟩ := st
    obtain ⟨xs, x, hq, hx⟩ := hg
    obtain ⟨its, rv, p, hz⟩ := I.tuple hq
    obtain ⟨u, hu, ru⟩ := rv.get hx
    have hel : e < s.heap.objs.size := Heap.lt_size he
    have hil : it < s.heap.objs.size := by obtain ⟨_, q, _⟩ := hit; exact Heap.lt_size q
    obtain ⟨ob, hob, hcb, nb, hdb⟩ := id (show s.heap.IsTuple a its.toArray from p)
    have hae : a ≠ e := fun z => by
      subst z
      rw [he] at hob; cases hob; exact absurd (Value.type.inj hcb) (by decide)
    have hai : a ≠ it := fun z => by
      subst z
      obtain ⟨o2, q1, q2, _⟩ := hit
      rw [q1] at hob; cases hob; rw [q2] at hcb; exact absurd (Value.type.inj hcb) (by decide)
    have D := Draws.tuple (prog := X.prog) (w := X.w) (A := X.A.in1) (I.ok.hd hc) it a hai its.toArray
    have hlt : i < its.toArray.size := by
      have := (List.getElem?_eq_some_iff.mp hu).1
      simpa using this
    refine wpAny_pyNext_enum_itemC (i := i) (c := k + (i : Int)) D he ⟨hit, show s.heap.IsTuple a its.toArray from p⟩ hlt hne (by simp [hne, Ne.symm hae]) fun u' h' tk hu' ho hit' hT hsz hk => ?_
    have hu' : its.toArray[i]? = some u' := hu'
    have eu : u' = u := by
      have q : its.toArray[i]? = some u := by simpa using hu
      rw [q] at hu'; exact (Option.some.inj hu').symm
    subst eu
    refine ⟨_, rfl, wpAny_letOwnedTupleGo_enum (s := { s with heap := h', toks := tk + 1 }) ho fun h'' he' sb => ?_⟩
    have hT2 : h''.get? s.heap.objs.size = some { cls := .type "tuple", data := .seq #[.int (k + i) tk, u'] } := (sb.2 _ (Nat.ne_of_gt hel)).trans hT
    have new : ObjOk X.prog X.w (upd H s.heap.objs.size (.tup [.int (k + (i : Nat)), x])) h'' s.heap.objs.size (.tup [.int (k + (i : Nat)), x]) :=
      ⟨by show 2 ≤ sizeLine; decide, [.int (k + i) tk, u'], .cons ⟨_, rfl⟩ (.cons ru .nil), ⟨_, hT2, rfl, _, rfl⟩⟩
    have I1 : Inv X pins σ (upd H s.heap.objs.size (.tup [.int (k + (i : Nat)), x])) { s with heap := h'', toks := tk + 1 } :=
      I.turnedNew (ch := [e, it]) (fun b ob hb q => (sb.2 b (fun z => hb (by simp [z]))).trans (hk b ob (fun z => hb (by simp [z])) (fun z => hb (by simp [z])) q)) hf (Nat.le_refl _) new
    refine ⟨.ref s.heap.objs.size, _, I1, rfl, ⟨_, x, rfl, I.hok.fresh (Nat.le_refl _), rfl, fun ys hy => by rw [I.tuple_inj hy hq]; exact hx⟩, ⟨⟨u', ?_⟩, hit'.1.at fun o q => (sb.2 it (Ne.symm hne)).trans q, hne⟩, fun b hb => ?_⟩
    · have e1 : k + ((i + 1 : Nat) : Int) = k + (i : Int) + 1 := by omega
      rw [e1]; exact he'
    · have hb' : b < s.heap.objs.size := by
        have e' : b = e ∨ b = it := by simpa using hb
        rcases e' with z | z
        · rw [z]; exact hel
        · rw [z]; exact hil
      rw [upd_ne (Nat.ne_of_lt hb')]
      exact (hf b hb).1
  done := by
    intro X hP hw hK hc i pins s σ H E I hf st hg
    subst hP hw hK
    obtain ⟨⟨old, he⟩, hit, hne⟩ := st
    obtain ⟨xs, hq, hx⟩ := hg
    obtain ⟨its, rv, p, hz⟩ := I.tuple hq
    obtain ⟨f0, f1, f2, f3, f4, f5⟩ := hf it (by simp)
    have hl := rv.length
    exact enum_end_c (I.ok.hd hc) he hit (show s.heap.IsTuple a its.toArray from p) (by simp; omega) fun h' eb => ⟨rfl, I.turned (t' := s.toks) (fun b o hb q => eb b o hb q) f0 f1 f3 f4 f5⟩
  self := fun A i s Q E st h => let ⟨⟨_, he⟩, _⟩ := st; wpAny_pyIter_enum he h
def iEnumK (K : PySem.W.Frag) (ta tk : TE) : TI := fun σ H R => ta σ H fun x H1 => tk σ H1 fun z H2 => ∃ a xs k, x = .ref a ∧ z = .int k ∧ SqT K H2 a xs ∧ -(2 ^ 63) ≤ k ∧ k < 2 ^ 63 ∧ R (ItK K a k) H2
theorem pi_enumK {X : Cx} {e v : Expr} {ta tk : TE} {p pos tpos kpos : Pos} {elts : List Expr} {kk : Nat} (hg : Gl X "enumerate") (hm : X.mg "enumerate" = none) (ha : PE X e ta) (hv : PE X v tk) (hs : starEach [e] X.env = (false, eval e X.env) :: starEach [] X.env := by rfl)
    (hall : (backToKw pos (keywordEach [⟨some "start", v, kpos⟩] X.env)).all (·.1.isSome) = true := by rfl) (hkw : (backToKw pos (keywordEach [⟨some "start", v, kpos⟩] X.env)).any (·.1.isNone) = false := by rfl) (hks : (backToKw pos (keywordEach [⟨some "start", v, kpos⟩] X.env)).filterMap (·.1) = [("start" : Str)] := by rfl) (hpl : (backTo pos (starEach [e] X.env)).any (·.1) = false := by rfl) :
    PI X (.Tuple elts kk tpos) (.Call (.Name "enumerate" p) [e] [⟨some "start", v, kpos⟩] pos) (iEnumK X.K ta tk) := by
  refine ⟨fun pins s σ H R I h => ?_⟩
  refine wpAny_Call_Name_kw (ld_blt I hg hm boot_enumerate (callWith_type_kw hpl hkw (PyProof.Rows.evalArgs_kw2 hall ?_ hs)))
  refine args_cons (thn (ha.run pins s σ H _ I h) fun u1 s1 ⟨x, H1, I1, r1, q1⟩ => args_nil ?_) hs
  refine thn ((L2.pk_cons (nm := some "start") (kpos := kpos) hv L2.pk_nil).run pos pins s1 σ H1 (fun zs H2 => match zs with
    | [z] => ∃ a xs k, x = .ref a ∧ z = .int k ∧ SqT X.K H2 a xs ∧ -(2 ^ 63) ≤ k ∧ k < 2 ^ 63 ∧ R (ItK X.K a k) H2
    | _ => False) I1 q1) fun ws s2 ⟨zs, H2, I2, r2, qq⟩ => ?_
  dsimp only at qq
  split at qq
  case h_2 => exact qq.elim
  rename_i z
  obtain ⟨a, xs, k, ex, ek, hq, k0, k1, q⟩ := qq
  subst ex ek
  rw [hks]
  cases r2 with
  | cons r3 r2 =>
  cases r2
  obtain ⟨tt, rfl⟩ := r3
  cases r1
  obtain ⟨its, rv, p', hz⟩ := I2.tuple hq
  show wpAny _ _ (call (.type "enumerate") [.ref a] [(Str.ofString "start", .int k tt)]) (fun v s1 => wpAny (model X.prog X.w) X.A (pyIter v) (PIE X pins σ (.Tuple elts kk tpos) R) X.xe s1) _ _
  refine enum_begins_start (begins_tuple a its.toArray) (show s2.heap.IsTuple a its.toArray from p') k0 k1 fun h' he hit hsz hk => wpAny_pyIter_enum he ?_
  have I3 : Inv X pins σ H2 { s2 with heap := h' } := I2.kept (t' := s2.toks) hk
  refine ⟨s2.heap.objs.size + 1, [s2.heap.objs.size + 1, s2.heap.objs.size], _, _, H2, rfl, I3, turn_enumK a (s2.heap.objs.size + 1) s2.heap.objs.size k, ⟨⟨.none, by simpa using he⟩, ⟨_, hit, rfl, rfl⟩, Nat.succ_ne_self _⟩, fun b hb => ?_, q⟩
  have e' : b = s2.heap.objs.size + 1 ∨ b = s2.heap.objs.size := by simpa using hb
  have hle : s2.heap.objs.size ≤ b := by
    rcases e' with z | z
    · rw [z]; exact Nat.le_add_right _ _
    · rw [z]; exact Nat.le_refl _
  exact I2.fpOk hle (I2.hok.fresh hle)
end EK
namespace AB
open PySem PySem.Spec PyProof.Rows L2
section
variable {X : Cx} {W : WR} {pos : Pos} {e v : Expr} {f g : EF}
def enumK (a k : A) (M : Store) : EO Src := match a, k with
  | .tup xs, .int k => if 0 ≤ k ∧ k < 1000000 then .ok (.snap (pairsFrom k.toNat xs)) M else .bad
  | _, _ => .bad
def iEnumAK (f g : EF) : EI := fun τ M => (f τ M).bind fun a M1 => (g τ M1).bind fun k M2 => enumK a k M2
theorem srcJ_enk {w : Amb} {ρ : List Addr} {H : Hp} {xs : List A} {vs : List V} {a : Addr} {k : Nat} (ha : H a = some (.tup vs)) (is : IsAll ρ H xs vs) : SrcJ w ρ H (.snap (pairsFrom k xs)) (EK.ItK w.K a (k : Int)) := by
  intro ρ2 H2 M2 i x g m
  have h2 : SqT w.K H2 a vs := .inl (.inl (g _ _ (.tup _) ha))
  cases e : xs[i]? with
  | none =>
    simp only [Src.at, pairsFrom_get, e, Option.map_none]
    exact ⟨vs, h2, by rw [← is.length]; exact List.getElem?_eq_none_iff.mp e⟩
  | some t =>
    simp only [Src.at, pairsFrom_get, e, Option.map_some]
    obtain ⟨v, hv, iv⟩ := is.get e
    refine ⟨⟨vs, v, h2, hv⟩, fun w H3 ⟨T, y, e1, hT, e2, hy⟩ => ?_⟩
    have := hy vs h2
    rw [hv] at this
    obtain rfl := Option.some.inj this
    subst e1 e2
    refine ⟨.new hT, m.new hT, .tup upd_same (.cons ?_ (.cons ((iv.mono x g).mono (.refl _) (.new hT)) .nil))⟩
    have : (k : Int) + (i : Nat) = ((k + i : Nat) : Int) := by omega
    rw [this]
    exact .int _
theorem ai_enumK {p tpos kpos : Pos} {elts : List Expr} {kk : Nat} (hm : X.mg "enumerate" = none) (ha : AE X W e f) (hv : AE X W v g) (hg : Gl X "enumerate" := by rfl) (hs : starEach [e] X.env = (false, eval e X.env) :: starEach [] X.env := by rfl)
    (hall : (backToKw pos (keywordEach [⟨some "start", v, kpos⟩] X.env)).all (·.1.isSome) = true := by rfl) (hkw : (backToKw pos (keywordEach [⟨some "start", v, kpos⟩] X.env)).any (·.1.isNone) = false := by rfl) (hks : (backToKw pos (keywordEach [⟨some "start", v, kpos⟩] X.env)).filterMap (·.1) = [("start" : Str)] := by rfl) (hpl : (backTo pos (starEach [e] X.env)).any (·.1) = false := by rfl) :
    AI X W (.Tuple elts kk tpos) (.Call (.Name "enumerate" p) [e] [⟨some "start", v, kpos⟩] pos) (iEnumAK f g) := (EK.pi_enumK hg hm ha hv hs hall hkw hks hpl).pre fun σ H R h => by
  refine (seqG Is h).imp fun x H1 h1 => ?_
  refine (seqK Is Is.ext Is h1).imp fun y H2 h2 => ?_
  obtain ⟨τ, M, ρ, a, k, rs, rm, i, j, r⟩ := h2
  unfold enumK at r
  split at r
  · rename_i xs k
    split at r
    · rename_i hz
      cases j
      cases i with
      | tup ha ia =>
        refine ⟨_, _, k, rfl, rfl, .inl (.inl ha), by omega, by omega, ?_⟩
        have q := RE.okv (a := Src.snap (pairsFrom k.toNat xs)) (M := M) (rel := relJ (X.am W.Tb)) r (.refl _) (.refl _) rm (srcJ_enk ha ia)
        rwa [show ((k.toNat : Nat) : Int) = k by omega] at q
    · exact r.elim
  · exact r.elim
end
end AB
/-! AB21: len(set(..)) of a list or a tuple of ints -/
namespace AB
open PySem PySem.Spec PyProof.Rows L2
def dd : List Int → List Int
  | [] => []
  | x :: xs => if x ∈ xs then dd xs else x :: dd xs
theorem mem_dd {y : Int} : ∀ {xs : List Int}, y ∈ dd xs ↔ y ∈ xs
  | [] => Iff.rfl
  | x :: xs => by
    unfold dd
    by_cases h : x ∈ xs
    · rw [if_pos h, mem_dd, List.mem_cons]
      exact ⟨.inr, fun z => z.elim (fun e => by rw [e]; exact h) id⟩
    · rw [if_neg h, List.mem_cons, List.mem_cons, mem_dd]
theorem nodup_dd : ∀ xs : List Int, (dd xs).Nodup
  | [] => List.nodup_nil
  | x :: xs => by
    unfold dd
    by_cases h : x ∈ xs
    · rw [if_pos h]; exact nodup_dd xs
    · rw [if_neg h]; exact List.nodup_cons.mpr ⟨fun z => h (mem_dd.mp z), nodup_dd xs⟩
theorem len_le_of_sub : ∀ {xs ys : List Int}, xs.Nodup → (∀ y ∈ xs, y ∈ ys) → xs.length ≤ ys.length
  | [], _, _, _ => Nat.zero_le _
  | x :: xs, ys, h, s => by
    obtain ⟨h1, h2⟩ := List.nodup_cons.mp h
    have hx : x ∈ ys := s x List.mem_cons_self
    have := len_le_of_sub (ys := ys.erase x) h2 fun y hy => (List.mem_erase_of_ne (show y ≠ x from fun e => h1 (by rw [← e]; exact hy))).mpr (s y (List.mem_cons_of_mem _ hy))
    rw [List.length_erase_of_mem hx] at this
    have := List.length_pos_of_mem hx
    simp only [List.length_cons]; omega
theorem len_dd {xs ys : List Int} (h : ys.Nodup) (m : ∀ y, y ∈ xs ↔ y ∈ ys) : (dd xs).length = ys.length :=
  Nat.le_antisymm (len_le_of_sub (nodup_dd xs) fun y hy => (m y).mp (mem_dd.mp hy)) (len_le_of_sub h fun y hy => mem_dd.mpr ((m y).mpr hy))
section
variable {X : Cx} {W : WR} {pos : Pos} {a : Expr} {f : EF}
def oLenSetX : O1 := fun x M => match x with
  | .lst l => match listAt M l with
    | some xs => match ints? xs with
      | some is => if is.length ≤ 4000 then some (.int ((dedup is).length : Nat), M) else none
      | none => none
    | none => none
  | .tup xs => match ints? xs with
    | some is => if is.length ≤ 4000 then some (.int ((dd is).length : Nat), M) else none
    | none => none
  | _ => none
theorem ae_lenSetX {p p2 q : Pos} (hm : X.mg "len" = none) (hm2 : X.mg "set" = none) (ha : AE X W a f) (hc : X.calm = true := by rfl) (hg : Gl X "len" := by rfl) (hg2 : Gl X "set" := by rfl)
    (na : starEach [a] X.env = (false, eval a X.env) :: starEach [] X.env := by rfl) : AE X W (.Call (.Name "len" p) [.Call (.Name "set" p2) [a] [] q] [] pos) (eUn oLenSetX f) := by
  refine ⟨fun pins s σ H Q I h => ?_⟩
  have h2 := seqG (G := (X.gx W.Tb)) (W := W) Is h
  refine Call_ (ld_blt I hg hm boot_len ?_)
  refine PyProof.Rows.callWith_builtin1 (PyProof.Rows.args_cons ?_ rfl) rfl rfl
  refine Call_ (ld_blt I hg2 hm2 boot_set ?_)
  refine PyProof.Rows.callWith_type1 (PyProof.Rows.args_cons (thn (ha.run pins s σ H _ I h2) fun v s1 ⟨x, H1, I1, r1, q1⟩ => PyProof.Rows.args_nil ?_) na) na rfl
  obtain ⟨τ, M, ρ, y, rs, rm', i, r⟩ := q1
  have ro : RO (X.am W.Tb) ρ H1 (oLenSetX y M) Q := RO.of r
  unfold oLenSetX at ro
  cases i with
  | lst hl =>
    dsimp only at ro
    split at ro
    · rename_i xs el
      split at ro
      · rename_i is ei
        split at ro
        · rename_i hz4
          obtain ⟨vs, hq, iv⟩ := rm'.list hl el
          rw [ints_of ei] at iv
          rw [iv.ints] at hq
          cases r1
          obtain ⟨its, r, pl, hz⟩ := I1.list hq
          have hlen : its.toArray.size = is.length := by rw [List.size_toArray, ← r.length, List.length_map]
          refine call_set_list (ns := is) (I1.ok.hd hc) pl.isList (by simpa using intsAre_of r) (by rw [hlen]; unfold scanBound; omega) fun h' tk hS hk => ?_
          refine PyProof.Rows.args_nil ?_
          rw [hlen, firstMet_all] at hS
          obtain ⟨o, es, ep, t, ho, hex, hd, _, _, _, hf, hn⟩ := hS
          have I2 : L2.Inv X pins σ H1 { s1 with heap := h', toks := tk } := I1.kept fun b o e => hk b o (Heap.lt_size e) e
          have hdl : (dedup is).length ≤ is.length := by rw [← firstMet_all]; exact PyProof.Rows.firstMet_length_le _ _
          exact call_len_set ho hex hd hf (by rw [hn] <;> omega) ⟨.int (dedup is).length, H1, I2.tok _, ⟨_, by rw [hn]⟩, ro.val rm' (.int _)⟩
        · exact ro.elim
      · exact ro.elim
    · exact ro.elim
  | tup ht it =>
    rename_i ad ts0 vs0
    dsimp only at ro
    split at ro
    · rename_i is ei
      split at ro
      · rename_i hz4
        rw [ints_of ei] at it
        have ht : H1 ad = some (.tup (is.map V.int)) := by rw [it.ints] at ht; exact ht
        cases r1
        obtain ⟨its, r, pl, hz⟩ := I1.tuple (show SqT X.K H1 ad (is.map V.int) from .inl (.inl ht))
        refine L2.call_set_tupI is (I1.ok.hd hc) (show s1.heap.IsTuple _ its.toArray from pl) (by simpa using intsAre_of r) (by unfold scanBound; omega) fun h' tk c R hc' hk => ?_
        refine PyProof.Rows.args_nil ?_
        obtain ⟨o, es, ep, t, ho, hex, hd, hge, hnd, hmem, _, hf, hn, _⟩ := R
        have I2 : L2.Inv X pins σ H1 { s1 with heap := h', toks := tk } := I1.kept fun b o e => hk b o e
        have hl : (dd is).length = es.size := by
          rw [len_dd hnd fun y => ?_]
          · simp
          · rw [← hmem y]; simp
        refine call_len_set ho hex hd hf (by rw [hn]; omega) ⟨.int (dd is).length, H1, I2.tok _, ⟨_, by rw [hl]⟩, ro.val rm' (.int _)⟩
      · exact ro.elim
    · exact ro.elim
  | _ => exact ro.elim
end
end AB
/-! AB22: backward steps for AB16 to AB21 -/
namespace AB
open PySem PySem.Spec PyProof.Rows L2
section
variable {α β : Type} {τ : Sl} {M : Store} {Q : A → Store → Prop} {Qs : List A → Store → Prop} {Qb : Bool → Store → Prop} {N : Sl → Store → Prop} {R : A → Store → Prop} {P : Src → Store → Prop} {Pk : List Str → Store → Prop}
theorem w_kC {ts : List Str} (h : Pk ts M) : (kC ts τ M).W Pk := by with_unfolding_all exact h
theorem w_kIx {tbl : List (Str × List Str)} {g : EF} (h : (g τ M).W fun k M1 => ∃ z ts, k = .str z ∧ tbl.lookup z = some ts ∧ Pk ts M1) : (kIx tbl g τ M).W Pk := w_bind (h.imp fun k M1 ⟨z, ts, e, e2, h⟩ => by
  subst e
  unfold kAt
  dsimp only
  rw [e2]
  with_unfolding_all exact h)
theorem w_inK {neg : Bool} {f : EF} {g : EK} (h : (f τ M).W fun a M1 => (g τ M1).W fun ts M2 => ∃ v, flat? a = some v ∧ Q (.bl (if neg then !inV v (ts.map V.str) else inV v (ts.map V.str))) M2) : (eInK neg f g τ M).W Q :=
  w_bind (h.imp fun a M1 h => w_bind (h.imp fun ts M2 ⟨v, e, h⟩ => by
    unfold inK
    rw [e]
    with_unfolding_all exact h))
theorem w_inT {neg : Bool} {tbl : List (Str × List Str)} {f : EF} (h : (f τ M).W fun c M1 => ∃ z ts, c = .str z ∧ tbl.lookup z = some ts ∧ Q (.bl (!neg)) M1) : (eInT neg tbl f τ M).W Q := w_bind (h.imp fun k M1 ⟨z, ts, e, e2, h⟩ => by
  subst e
  unfold inT
  dsimp only
  rw [e2]
  with_unfolding_all exact h)
theorem w_iK {fk : EK} (h : (fk τ M).W fun ts M1 => P (.snap (ts.map A.str)) M1) : (iK fk τ M).W P := w_bind (h.imp fun _ _ h => by with_unfolding_all exact h)
theorem w_iPerm {fr : ER} (h : (fr τ M).W fun p M1 => ∃ n : Nat, p = (0, (n : Int)) ∧ 1 ≤ n ∧ n ≤ 3 ∧ P (.snap (permA n)) M1) : (iPerm fr τ M).W P := w_bind (h.imp fun _ _ ⟨n, e, h1, h3, h⟩ => by
  subst e
  unfold permOf
  rw [if_pos (by dsimp only; omega)]
  with_unfolding_all exact h)
theorem w_enumK {f g : EF} (h : (f τ M).W fun a M1 => (g τ M1).W fun k M2 => ∃ xs, ∃ n : Nat, a = .tup xs ∧ k = .int n ∧ n < 1000000 ∧ P (.snap (pairsFrom n xs)) M2) : (iEnumAK f g τ M).W P := w_bind (h.imp fun _ _ h => w_bind (h.imp fun _ _ ⟨xs, n, e1, e2, hn, h9⟩ => by
  subst e1 e2
  unfold enumK
  dsimp only
  rw [if_pos (by omega), Int.toNat_natCast]
  with_unfolding_all exact h9))
theorem w_pNil {Pp : List (A × A) → Store → Prop} (h : Pp [] M) : (pNil τ M).W Pp := by with_unfolding_all exact h
theorem w_pCons {fk fv : EF} {fp : EPs} {Pp : List (A × A) → Store → Prop} (h : (fk τ M).W fun k M1 => (fv τ M1).W fun v M2 => (fp τ M2).W fun ps M3 => Pp ((k, v) :: ps) M3) : (pCons fk fv fp τ M).W Pp :=
  w_bind (h.imp fun _ _ h => w_bind (h.imp fun _ _ h => w_bind (h.imp fun _ _ h => by with_unfolding_all exact h)))
theorem w_dispN {fp : EPs} (h : (fp τ (M ++ [.dK []])).W fun ps M2 => ∃ q, M2[M.length]? = some (.dK []) ∧ keyed? ps = some q ∧ q.length ≤ 15 ∧ Q (.dct M.length) (M2.set M.length (.dK (mergeA [] q)))) : (eDispN fp τ M).W Q := w_bind (h.imp fun ps M2 ⟨q, e1, e2, h15, h⟩ => by
  unfold dispN
  rw [e1, e2]
  dsimp only
  rw [if_pos h15]
  with_unfolding_all exact h)
theorem w_get2 {fd fk fv : EF} (h : (fd τ M).W fun d M1 => ∃ l, d = .dct l ∧ isDk M1 l = true ∧ (fk τ M1).W fun k M2 => (fv τ M2).W fun v M3 => ∃ o, dGet M3 l k = some o ∧ Q (o.getD v) M3) : (eGet2 fd fk fv τ M).W Q := w_bind (h.imp fun d M1 ⟨l, e, hd, h⟩ => by
  subst e
  unfold get2K
  dsimp only
  rw [if_pos hd]
  exact w_bind (h.imp fun k M2 h => w_bind (h.imp fun v M3 ⟨o, e, h⟩ => by
    unfold getK
    rw [e]
    with_unfolding_all exact h)))
theorem w_dcA {src : Src} {t : Tgt} {fk fe : EF} {l : Nat} {τw : Sl} (xs : List A) (I : Nat → Store → Prop) (hat : ∀ i M, I i M → src.at M i = some xs[i]?)
    (hs : ∀ i x M, xs[i]? = some x → I i M → ∃ τ1, t.set x τw = some τ1 ∧ (fk τ1 M).W fun k M2 => (fe τ1 M2).W fun y M3 => ∃ M4, nPut M3 l k y = some M4 ∧ I (i + 1) M4)
    (he : ∀ M, I xs.length M → Q (.dct l) M) :
    ∀ (n i : Nat) (M : Store), xs.length < i + n → i ≤ xs.length → I i M → (dcA src t bYes fk fe l τw n i M).W Q
  | 0, i, M, h1, h2, _ => by omega
  | n + 1, i, M, h1, h2, h0 => by
    unfold dcA
    rw [hat i M h0]
    by_cases hi : i < xs.length
    · have ex : xs[i]? = some xs[i] := List.getElem?_eq_getElem hi
      rw [ex]
      obtain ⟨τ1, e1, h⟩ := hs i _ M ex h0
      dsimp only
      rw [e1]
      dsimp only [bYes]
      obtain ⟨k, M2, ek, h⟩ := (show ∃ k M2, fk τ1 M = .ok k M2 ∧ (fe τ1 M2).W fun y M3 => ∃ M4, nPut M3 l k y = some M4 ∧ I (i + 1) M4 from by with_unfolding_all exact h.out)
      rw [ek]
      dsimp only
      obtain ⟨y, M3, ey, M4, ep, h⟩ := (show ∃ y M3, fe τ1 M2 = .ok y M3 ∧ ∃ M4, nPut M3 l k y = some M4 ∧ I (i + 1) M4 from by with_unfolding_all exact h.out)
      rw [ey]
      dsimp only
      rw [ep]
      exact w_dcA xs I hat hs he n (i + 1) M4 (by omega) hi h
    · rw [List.getElem?_eq_none (by omega)]
      have e : i = xs.length := by omega
      subst e
      with_unfolding_all exact he M h0
theorem w_dc {fi : EI} {t : Tgt} {fk fe : EF} {own : List Nat} (h : (fi τ M).W fun src M1 => ∃ xs : List A, ∃ I : Nat → Store → Prop, src.size M1 = xs.length + 1 ∧ I 0 (M1 ++ [.dN []]) ∧ (∀ i M, I i M → src.at M i = some xs[i]?) ∧
    (∀ i x M, xs[i]? = some x → I i M → ∃ τ1, t.set x (wipeA τ own) = some τ1 ∧ (fk τ1 M).W fun k M2 => (fe τ1 M2).W fun y M3 => ∃ M4, nPut M3 M1.length k y = some M4 ∧ I (i + 1) M4) ∧
    (∀ M, I xs.length M → Q (.dct M1.length) M)) : (eDc fi t bYes fk fe own τ M).W Q :=
  w_bind (h.imp fun src M1 ⟨xs, I, e, h0, h1, h2, h3⟩ => w_dcA xs I h1 h2 h3 _ 0 _ (by rw [e]; omega) (Nat.zero_le _) h0)
end
end AB
local macro_rules | `(tactic| walk_at "wt") => `(tactic| first
  | walk_at "ws" | with_reducible refine AB.w_kC ?_ | with_reducible refine AB.w_kIx ?_ | with_reducible refine AB.w_inK ?_ | with_reducible refine AB.w_inT ?_ | with_reducible refine AB.w_iK ?_ | with_reducible refine AB.w_iPerm ?_ | with_reducible refine AB.w_enumK ?_ | with_reducible refine AB.w_pNil ?_ | with_reducible refine AB.w_pCons ?_ | with_reducible refine AB.w_dispN ?_ | with_reducible refine AB.w_get2 ?_)
/-! AB23: xs[::-1] of a list -/
namespace AB
open PySem PySem.Spec PyProof.Rows L2
theorem IsAll.rev {ρ : List Addr} {H : Hp} : ∀ {ts : List A} {vs : List V}, IsAll ρ H ts vs → IsAll ρ H ts.reverse vs.reverse
  | [], _, .nil => .nil
  | t :: ts, _, .cons r rs => by
    rw [List.reverse_cons, List.reverse_cons]
    exact (IsAll.rev rs).append (.cons r .nil)
def oRevL : O1 := fun a M => match a with
  | .lst l => (listAt M l).map fun xs => (.lst M.length, M ++ [.lst xs.reverse])
  | _ => none
section
variable {X : Cx} {W : WR} {pos : Pos} {a : Expr} {f : EF}
theorem ae_revL {k : Nat} {p1 p2 p3 : Pos} (ha : AE X W a f) : AE X W (.Subscript a (.Slice none none (some (.UnaryOp .USub (.Constant (.int 1) k p1) p2)) p3) pos) (eUn oRevL f) := (pe_revL ha).pre fun σ H Q h => by
  refine (seqG (G := (X.gx W.Tb)) (W := W) Is h).imp fun x H1 h1 => ?_
  obtain ⟨τ, M, ρ, y, rs, rm, i, r⟩ := h1
  have ro : RO (X.am W.Tb) ρ H1 (oRevL y M) Q := RO.of r
  unfold oRevL at ro
  cases i with
  | lst ha =>
    simp only at ro
    cases e1 : listAt M _ with
    | none => rw [e1] at ro; exact ro.elim
    | some xs =>
      rw [e1] at ro
      obtain ⟨vs, hq, is⟩ := rm.list ha e1
      exact ⟨_, vs, rfl, hq, fun p hp => RO.newL (M := M) ro rm is.rev hp⟩
  | _ => exact ro.elim
end
end AB
/-! AB24: {k for .. in ..}, ints; its len -/
namespace AB
open PySem PySem.Spec PyProof.Rows L2
section
variable {X : Cx} {W : WR} {pos : Pos} {pins : List (Addr × Obj)} {σ : L2.St} {H : Hp} {s : Shared} {ρ : List Addr} {M M' : Store} {E : Value → Shared → Prop}
def sPut (M : Store) (l : Nat) (y : A) : Option Store := match M[l]?, y with
  | some (.st xs), .int k => if xs.length + 1 < scanBound then some (M.set l (.st (if k ∈ xs then xs else xs ++ [k]))) else none
  | _, _ => none
theorem s_put {l : Nat} {p : Addr} {y : A} {yv : V} {u2 : Value} (I : L2.Inv X pins σ H s) (m : RM (X.am W.Tb) ρ H M) (hp : ρ[l]? = some p) (iy : Is ρ H y yv) (ry : RelV yv u2)
    (e : sPut M l y = some M') : wpAny (model X.prog X.w) X.A (call (.builtin "set.add") [.ref p, u2]) (fun _ s' => ∃ H', L2.Inv X pins σ H' s' ∧ Grow H H' ∧ RM (X.am W.Tb) ρ H' M') X.xe s := by
  unfold sPut at e
  split at e
  · rename_i xs k ec
    split at e
    · rename_i hz
      cases e
      cases iy
      obtain ⟨S, hS, hk⟩ := m.at_ _ _ _ hp ec
      refine thn (mt_sadd pins s σ H (.ref p) [.int k] (.ref p) [u2] (fun _ H' => Grow H H' ∧ RM (X.am W.Tb) ρ H' (M.set l (.st (if k ∈ xs then xs else xs ++ [k])))) I rfl (.cons ry .nil) ⟨p, k, S, xs.length, rfl, rfl, hS, hz, m.growSet hp ec, ?_⟩) fun u s' ⟨z, H', I', _, g, m'⟩ => ⟨H', I', g, m'⟩
      refine m.set hp ec ⟨fun j => S j || decide (j = k), ?_, fun j => ?_⟩
      · rw [upd_same]
        congr 2
        by_cases h : k ∈ xs
        · rw [if_pos (by rw [hk]; simpa using h), if_pos h]
        · rw [if_neg (by rw [hk]; simpa using h), if_neg h]; simp
      · show (S j || decide (j = k)) = _
        rw [hk]
        by_cases h : k ∈ xs
        · rw [if_pos h]
          by_cases e : j = k
          · subst e; simp [h]
          · simp [e]
        · rw [if_neg h]; simp
    · cases e
  · cases e
def scA (src : Src) (t : Tgt) (ft : EFb) (fe : EF) (l : Nat) (τ : Sl) : Nat → Nat → Store → EO A
  | 0, _, _ => .bad
  | n + 1, i, M => match src.at M i with
    | none => .bad
    | some none => .ok (.dct l) M
    | some (some x) => match t.set x τ with
      | none => .bad
      | some τ1 => match ft τ1 M with
        | .ok true M1 => match fe τ1 M1 with
          | .ok y M3 => match sPut M3 l y with
            | some M4 => scA src t ft fe l τ n (i + 1) M4
            | none => .bad
          | _ => .bad
        | .ok false M1 => scA src t ft fe l τ n (i + 1) M1
        | _ => .bad
def eSc (fi : EI) (t : Tgt) (ft : EFb) (fe : EF) (own : List Nat) : EF := fun τ M => (fi τ M).bind fun src M1 => scA src t ft fe M1.length (wipeA τ own) (src.size M1) 0 (M1 ++ [.st []])
theorem sc_core_i (own : List (Str × Nat)) {vx tg iter : Expr} {ifs : List Expr} {scope : Scope} {fi : EI} {t : Tgt} {ft : EFb} {fe : EF} {pos' : Pos} {use : Option (Value → Sem Unit)} {Qf : Value → Shared → Prop} {Q : VK} (hc : X.calm = true) (hN : X.N.Nodup) (ok : BlkOk X.N X.env.scope scope own) (ho : ∀ i ∈ t.own, i ∈ own.map (·.2)) (hi : AI X W tg iter fi)
    (hg : ∀ (s : Shared) (H : Hp) (C : Addr) (cl : List (Str × Addr)) (fp : List Addr), AG (X.blk s H scope (compEnvC scope cl C X.env) fp) tg t) (ht : ∀ (s : Shared) (H : Hp) (C : Addr) (cl : List (Str × Addr)) (fp : List Addr), ATs (X.blk s H scope (compEnvC scope cl C X.env) fp) W.nx ifs ft)
    (he : ∀ (s : Shared) (H : Hp) (C : Addr) (cl : List (Str × Addr)) (fp : List Addr), AE (X.blk s H scope (compEnvC scope cl C X.env) fp) W.nx vx fe) (hs : ∀ x, foldedSetIterable iter X.env x = pure x)
    (I : L2.Inv X pins σ H s) (h : tG (X.gx W.Tb) W Is (eSc fi t ft fe (own.map (·.2))) σ H Q)
    (hend : ∀ D C s' m H', L2.Inv X pins σ H' s' → Q (.ref D) H' → s'.heap.Ns C m → FpOk X pins H' C → compPost (model X.prog X.w) X.A X.xe use Qf (.ref D) C (.ok .next) s') :
    wpAny (model X.prog X.w) X.A (comprehension (.SetComp vx [⟨tg, iter, ifs, 0⟩] scope pos) scope X.env pos' (newSet (.type "set")) false (eval iter X.env) use) Qf X.xe s := by
  have fr : ∀ y ∈ scope.names, y.2 = .free → ∃ c, X.env.cells.lookup y.1 = some c := by
    intro y hy e
    exact (ok.free y hy e).elim (fun k => I.ok.has _ (.inl k)) fun k => I.ok.has _ (.inr k)
  refine wpAny_comprehension_free (use := use) rfl hs (closure_ok fr) ok.kind (fun y hy e => by rw [ok.uniq y hy, e]) (thn (hi.run pins s σ H _ I (seqG (relJ (X.am W.Tb)) h)) fun xv s1 hx => thn hx fun itv s2 h2 => ?_)
  obtain ⟨it, fp, tn, J, H2, rfl, I2, T, st2, f2, τ, M, ρ, src, rs, rm, ij, r⟩ := h2
  refine PpSet.newSet_ok (newEnv_comp ?_)
  generalize hD : s2.heap.objs.size = D
  have nD : H2 D = none := I2.hok.fresh (Nat.le_of_eq hD)
  generalize hz : ({ s2 with heap := s2.heap.push { cls := .type "set", dict := none, data := .set #[] 0 (.fresh 0 0 (!X.w.params.followText "set-order")) } } : Shared) = z
  have hzh : z.heap = s2.heap.push { cls := .type "set", dict := none, data := .set #[] 0 (.fresh 0 0 (!X.w.params.followText "set-order")) } := by rw [← hz]
  have I3 : L2.Inv X pins σ (upd H2 D (SetO X.w D (fun _ => false) 0)) z := by
    subst hz hD
    exact I2.laid (a := s2.heap.objs.size) (t' := s2.toks) (fun _ _ q => Heap.get?_push_of_some _ q) (Nat.le_refl _) (setO_new (setR_fresh X.w))
  generalize hG : upd H2 D (SetO X.w D (fun _ => false) 0) = G at I3
  have g0 : Grow H2 G := by subst hG; exact .new nD
  have m0 : RM (X.am W.Tb) (ρ ++ [D]) G (M ++ [.st []]) := by
    subst hG
    exact rm.push nD ⟨_, upd_same, fun _ => by simp⟩
  have hl0 : (ρ ++ [D])[M.length]? = some D := by rw [← rm.len]; simp
  have old : ∀ b ∈ fp, b < s2.heap.objs.size := fun b hb => by
    obtain ⟨o, e, _⟩ := T.obj _ _ st2 b hb
    exact Heap.lt_size e
  have fG : ∀ b ∈ fp, FpOk X pins G b ∧ b < z.heap.objs.size := fun b hb => by
    refine ⟨⟨?_, (f2 b hb).2⟩, by rw [hzh, Heap.size_push]; exact Nat.lt_succ_of_lt (old b hb)⟩
    rw [← hG, upd_ne (by rw [← hD]; exact Nat.ne_of_lt (old b hb))]
    exact (f2 b hb).1
  have I4 := block_start I3 ok hN fG
  have stz : tn 0 z.heap := T.keep _ _ _ st2 fun b _ o e => by rw [hzh]; exact Heap.get?_push_of_some _ e
  have ag := hg z G z.heap.objs.size (cellsFrom (z.heap.objs.size + 1) scope.names (cloFrom X.env.cells scope.names [])) fp
  have at' := ht z G z.heap.objs.size (cellsFrom (z.heap.objs.size + 1) scope.names (cloFrom X.env.cells scope.names [])) fp
  have av := he z G z.heap.objs.size (cellsFrom (z.heap.objs.size + 1) scope.names (cloFrom X.env.cells scope.names [])) fp
  show codeAny _ _ (.compStart (.SetComp vx [⟨tg, iter, ifs, 0⟩] scope pos) 0 (.ref it) (.ref D) (compEnvC scope (cellsFrom (z.heap.objs.size + 1) scope.names (cloFrom X.env.cells scope.names [])) z.heap.objs.size X.env)) (compPost (model X.prog X.w) X.A X.xe use Qf (.ref D) z.heap.objs.size) { z with heap := pushCells (z.heap.push { cls := .type "dict", data := .dict #[] }) scope.names }
  generalize hce : compEnvC scope (cellsFrom (z.heap.objs.size + 1) scope.names (cloFrom X.env.cells scope.names [])) z.heap.objs.size X.env = ce at I4 ag at' av ⊢
  have ceL : ce.locals = z.heap.objs.size := by subst hce; rfl
  generalize hy : ({ z with heap := pushCells (z.heap.push { cls := .type "dict", data := .dict #[] }) scope.names } : Shared) = y at I4 ⊢
  have sty : tn 0 y.heap := T.keep _ _ _ stz fun b _ o e => by rw [← hy]; exact pushCells_keeps _ _ _ _ (Heap.get?_push_of_some _ e)
  have nG : ∀ b ∈ fp, G b = none := fun b hb => (fG b hb).1.1
  have r : RE (X.gx W.Tb) W σ ρ H2 Is (scA src t ft fe M.length (wipeA τ (own.map (·.2))) (src.size M) 0 (M ++ [.st []])) Q := r
  generalize hM : M.length = l at r hl0
  generalize M ++ [Cell.st []] = M0 at r m0
  have fpo : ∀ {σ' : L2.St} {H' : Hp} {s' : Shared}, L2.Inv (X.blk z G scope ce fp) [] σ' H' s' → (∀ b ∈ fp, H' b = none) → ∀ b ∈ fp, FpOk (X.blk z G scope ce fp) [] H' b := by
    intro σ' H' s' I' hn b hb
    refine ⟨hn b hb, (I'.ok.exf b hb).1, I'.ok.exfs b hb, .inl hb, fun x c e => (I'.ok.exf b hb).2 x c e, fun p hp => ?_⟩
    exact absurd (show p ∈ ([] : List (Addr × Obj)) ++ [] from hp) (by simp)
  have loop : codeAny (model X.prog X.w) X.A (.compLoop (.SetComp vx [⟨tg, iter, ifs, 0⟩] scope pos) 0 (.ref it) (.ref D) ce) (compPost (model X.prog X.w) X.A X.xe use Qf (.ref D) z.heap.objs.size) y := by
    refine PpSet.compLoopS_any (fun n s' => ∃ i H' M' ρ', L2.Inv (X.blk z G scope ce fp) [] (L2.wipe σ (own.map (·.2))) H' s' ∧ tn i s'.heap ∧ (∀ b ∈ fp, H' b = none) ∧ Ext (ρ ++ [D]) ρ' ∧ Grow H2 H' ∧ RM (X.am W.Tb) ρ' H' M' ∧ RE (X.gx W.Tb) W σ ρ' H' Is (scA src t ft fe l (wipeA τ (own.map (·.2))) n i M') Q)
      ?_ (src.size M) ⟨0, G, M0, ρ ++ [D], I4, sty, nG, .refl _, g0, m0, RE.mono r (.snoc _ _) g0⟩
    rintro n s5 ⟨i, H5, M5, ρ5, I5, st5, n5, x5, g5, m5, r5⟩
    have xx : Ext ρ ρ5 := (Ext.snoc ρ D).trans x5
    cases n with
    | zero => exact r5.elim
    | succ n =>
      unfold scA at r5
      have jj := ij ρ5 H5 M5 i xx g5 m5
      cases ea : src.at M5 i with
      | none => rw [ea] at r5; exact r5.elim
      | some o =>
        cases o with
        | none =>
          rw [ea] at r5 jj
          have td := T.done (X.blk z G scope ce fp) rfl rfl rfl hc i [] s5 _ H5 (fun _ _ => False) I5 (fpo I5 n5) st5 jj
          refine thnF td fun rr s6 ⟨hr, I6⟩ => ?_
          subst hr
          have I7 : L2.Inv X pins σ H5 s6 := I3.call' (ch := fp) I6.os I6.base I6.hok I6.bare fun b hb => by
            obtain ⟨⟨f0, f1, f2, f3, f4, f5⟩, _⟩ := fG b hb
            exact ⟨f3, f1, f4, f5⟩
          have nC : H5 z.heap.objs.size = none := by
            have q : H5 ce.locals = none := I6.free
            rwa [ceL] at q
          obtain ⟨mm, hn, _⟩ := I6.loc
          have hn : s6.heap.Ns ce.locals mm := hn
          rw [ceL] at hn
          exact hend D z.heap.objs.size s6 mm H5 I7 (RE.okv (a := A.dct l) (M := M5) (rel := Is) r5 (.refl _) (.refl _) m5 (.dct (x5.get hl0))) hn (I3.fpOk (Nat.le_refl _) nC)
        | some a =>
          rw [ea] at r5 jj
          obtain ⟨go, yy⟩ := jj
          dsimp only at r5
          have ti := T.item (X.blk z G scope ce fp) rfl rfl rfl hc i [] s5 _ H5 (fun _ _ => False) I5 (fpo I5 n5) st5 go
          refine thnF ti fun rr s6 ⟨u, hr, h6⟩ => ?_
          subst hr
          refine thnF h6 fun _ s7 ⟨x, H7, I7, r7, y7, st7, n7⟩ => ?_
          obtain ⟨g7, m7, ia⟩ := yy x H7 y7
          have P7 := I7.pinned (fpo I7 n7) (T.obj _ _ st7)
          have g57 := g5.trans g7
          cases et : t.set a (wipeA τ (own.map (·.2))) with
          | none => rw [et] at r5; exact r5.elim
          | some τ1 =>
            rw [et] at r5
            dsimp only at r5
            have r5 := RE.mono r5 (.refl _) g7
            refine thnF (ag.run _ s7 _ H7 x u (fun σ1 H' => H' = H7 ∧ RS W.nx ρ5 H7 τ1 σ1 ∧ L2.wipe σ1 (own.map (·.2)) = L2.wipe σ (own.map (·.2))) P7 r7 ?_) fun _ s8 ⟨σ1, H8, I8, e8, rs1, ew⟩ => ?_
            · refine ⟨a, wipeA τ (own.map (·.2)), ρ5, τ1, ia, ((rs.mono xx g57).wipe _).s, et, fun σ1 q1 sb => ⟨rfl, ⟨(rs.mono xx g57).ext, (rs.mono xx g57).grow, q1⟩, ?_⟩⟩
              rw [sb.wipe ho]
              exact wipe_wipe σ _
            subst e8
            -- a turn's end
            have fin : ∀ {s' : Shared} {H' : Hp} {M' : Store} {ρ' : List Addr}, L2.Inv (X.blk z G scope ce fp) ([] ++ pinsAt fp s7.heap) σ1 H' s' → Ext (ρ ++ [D]) ρ' → Grow H2 H' → RM (X.am W.Tb) ρ' H' M' → RE (X.gx W.Tb) W σ ρ' H' Is (scA src t ft fe l (wipeA τ (own.map (·.2))) n (i + 1) M') Q →
                ∃ m, m < n + 1 ∧ ∃ i H' M' ρ', L2.Inv (X.blk z G scope ce fp) [] (L2.wipe σ (own.map (·.2))) H' s' ∧ tn i s'.heap ∧ (∀ b ∈ fp, H' b = none) ∧ Ext (ρ ++ [D]) ρ' ∧ Grow H2 H' ∧ RM (X.am W.Tb) ρ' H' M' ∧ RE (X.gx W.Tb) W σ ρ' H' Is (scA src t ft fe l (wipeA τ (own.map (·.2))) m i M') Q := by
              intro s' H' M' ρ' I' x' g' m' r'
              have pin' : ∀ b ∈ fp, ∀ o, s7.heap.get? b = some o → s'.heap.get? b = some o ∧ H' b = none := fun b hb o e => by
                have q := I'.pin (b, o) (List.mem_append_right _ (List.mem_append_right _ (mem_pinsAt hb e)))
                exact ⟨q.1, q.2.1⟩
              refine ⟨n, Nat.lt_succ_self n, i + 1, H', M', ρ', (I'.unpinned (pins := [])).weak (by rw [← ew, wipe_length]) (fun j v e => ?_), T.keep _ _ _ st7 (fun b hb o e => (pin' b hb o e).1), fun b hb => ?_, x', g', m', r'⟩
              · rw [← ew] at e
                exact (wipe_some e).1
              · obtain ⟨o, e, _⟩ := T.obj _ _ st7 b hb
                exact (pin' b hb o e).2
            refine thnF (at'.run _ s8 σ1 H8 (fun k H' => ∃ M' ρ', ft τ1 M5 = .ok k M' ∧ Ext ρ5 ρ' ∧ Grow H8 H' ∧ RM (X.am W.Tb) ρ' H' M') I8 ?_) fun k s9 ⟨H9, I9, M9, ρ9, e9, x9, g9, m9⟩ => ?_
            · refine ⟨τ1, M5, ρ5, rs1, m7, ?_⟩
              cases e1 : ft τ1 M5 with
              | ok k M1 =>
                intro k' H' ρ' x g m ik
                have ik : k = k' := ik
                subst ik
                exact ⟨M1, ρ', rfl, x, g, m⟩
              | ex en M1 => rw [e1] at r5; exact r5.elim
              | bad => rw [e1] at r5; exact r5.elim
            rw [e9] at r5
            cases k with
            | false =>
              simp only [Bool.false_eq_true, if_false]
              dsimp only at r5
              exact fin I9 (x5.trans x9) (g57.trans g9) m9 (RE.mono r5 x9 g9)
            | true =>
              simp only [if_true]
              dsimp only at r5
              refine thnF (av.run _ s9 σ1 H9 (fun yv H' => ∃ y M' ρ', fe τ1 M9 = .ok y M' ∧ Ext ρ9 ρ' ∧ Grow H9 H' ∧ RM (X.am W.Tb) ρ' H' M' ∧ Is ρ' H' y yv) I9 ?_) fun u2 sb ⟨yv, Hb, Ib, rb, yA, Mb, ρb, eb, xb, gb, mb, iy⟩ => ?_
              · refine ⟨τ1, M9, ρ9, rs1.mono x9 g9, m9, ?_⟩
                cases e1 : fe τ1 M9 with
                | ok k M1 =>
                  intro k' H' ρ' x g m ik
                  exact ⟨k, M1, ρ', rfl, x, g, m, ik⟩
                | ex en M1 => rw [e1] at r5; exact r5.elim
                | bad => rw [e1] at r5; exact r5.elim
              rw [eb] at r5
              dsimp only at r5
              cases ep : sPut Mb l yA with
              | none => rw [ep] at r5; exact r5.elim
              | some Mc =>
                rw [ep] at r5
                dsimp only at r5
                have hbD : ρb[l]? = some D := xb.get (x9.get (x5.get hl0))
                refine thnF (s_put (X := X.blk z G scope ce fp) Ib mb hbD iy rb ep) fun _ sc ⟨Hc, Ic, gc, mc⟩ => ?_
                exact fin Ic (x5.trans (x9.trans xb)) (((g57.trans g9).trans gb).trans gc) mc (RE.mono r5 (x9.trans xb) ((g9.trans gb).trans gc))
  exact PpSet.codeAny_compStart_set loop (T.self X.A 0 _ _ _ sty loop)
theorem ae_sc (own : List (Str × Nat)) {vx tg iter : Expr} {ifs : List Expr} {scope : Scope} {fi : EI} {t : Tgt} {ft : EFb} {fe : EF} (hc : X.calm = true) (hN : X.N.Nodup) (ok : BlkOk X.N X.env.scope scope own) (ho : ∀ i ∈ t.own, i ∈ own.map (·.2)) (hi : AI X W tg iter fi)
    (hg : ∀ (s : Shared) (H : Hp) (C : Addr) (cl : List (Str × Addr)) (fp : List Addr), AG (X.blk s H scope (compEnvC scope cl C X.env) fp) tg t) (ht : ∀ (s : Shared) (H : Hp) (C : Addr) (cl : List (Str × Addr)) (fp : List Addr), ATs (X.blk s H scope (compEnvC scope cl C X.env) fp) W.nx ifs ft)
    (he : ∀ (s : Shared) (H : Hp) (C : Addr) (cl : List (Str × Addr)) (fp : List Addr), AE (X.blk s H scope (compEnvC scope cl C X.env) fp) W.nx vx fe) (hs : ∀ x, foldedSetIterable iter X.env x = pure x := by intro _; rfl) :
    AE X W (.SetComp vx [⟨tg, iter, ifs, 0⟩] scope pos) (eSc fi t ft fe (own.map (·.2))) := ⟨fun pins s σ H Q I h => by
  rw [PpSet.eval_SetComp]
  refine sc_core_i own hc hN ok ho hi hg ht he hs I h fun D C s' m H' I' q hn f => ⟨m, hn, fun h'' sb => ?_⟩
  obtain ⟨f0, f1, f2, f3, f4, f5⟩ := f
  exact ⟨.ref D, H', I'.turned (t' := s'.toks) (fun b o hb e => (sb.2 b hb).trans e) f0 f1 f3 f4 f5, rfl, q⟩⟩
def oLenSt : On := fun as M => match as with
  | [.dct l] => match M[l]? with
    | some (.st xs) => if xs.length < 1000000 then some (.int (xs.length : Nat), M) else none
    | _ => none
  | _ => none
theorem cr_lenSt : CallR X (.builtin "len") (rn (X.am W.Tb) oLenSt) := by
  intro pins s σ H xs us Q I r h
  obtain ⟨as, M, ρ, is, m, ro⟩ := h
  unfold oLenSt at ro
  split at ro
  · rename_i l
    split at ro
    · rename_i zs ec
      split at ro
      · rename_i hz
        cases is with
        | cons i1 is =>
          cases is
          cases i1 with
          | dct hl =>
            obtain ⟨S, hS, hk⟩ := m.at_ _ _ _ hl ec
            obtain ⟨o, es, ep, t, ho, hex, hd, _, _, _, _, hf, hn, _⟩ := setO_get I hS
            cases r with
            | cons r1 r2 =>
              cases r2
              cases r1
              exact call_len_set ho hex hd hf (by rw [hn]; omega) ⟨.int zs.length, H, I.tok _, ⟨_, by rw [hn]⟩, ro.val m (.int _)⟩
      · exact ro.elim
    · exact ro.elim
  · exact ro.elim
end
end AB
/-! AB25: t[::-1] of a list or a tuple -/
namespace AB
open PySem PySem.Spec PyProof.Rows L2
section
variable {prog : Program} {w : World} {Ar : Around} {E : Value → Shared → Prop} {s : Shared}
theorem places_rev (n : Nat) : Builtin.Slice.slicePlaces ((n : Int) - 1) (-1) (-1) = n := by
  unfold Builtin.Slice.slicePlaces
  rw [if_neg (by omega)]
  by_cases h : (n : Int) - 1 > -1
  · rw [if_pos h, show (- -1 : Int) = 1 from rfl, Int.ediv_one]; omega
  · rw [if_neg h]; omega
theorem applied_rev {sl : Addr} {vl vu vs : Value} {n : Nat} {Q : Int × Int × Nat → Shared → Prop} (hs : s.heap.IsSliceOf sl vl vu vs) (pl : IsPart vl none) (pu : IsPart vu none) (ps : IsPart vs (some (-1))) (h : Q ((n : Int) - 1, -1, n) s) :
    wpAny (model prog w) Ar (Builtin.Slice.sliceApplied (.ref sl) (pure (n : Int))) Q E s := by
  obtain ⟨oz, ho1, ho2, ho3⟩ := hs
  unfold Builtin.Slice.sliceApplied Builtin.Slice.sliceFields
  refine wpAny_bind (wpAny_bind (wpAny_field ho1 ho3 (x := vl) rfl (wpAny_bind (wpAny_field ho1 ho3 (x := vu) rfl (wpAny_bind (wpAny_field ho1 ho3 (x := vs) rfl (wpAny_pure ?_)))))))
  refine wpAny_bind (HT.slicePart_ ps ?_)
  show wpAny _ _ (if ((-1 : Int) == 0) = true then _ else _) _ _ s
  rw [if_neg (show ¬ ((-1 : Int) == 0) = true by decide)]
  refine wpAny_bind (HT.slicePart_ pl (wpAny_bind (HT.slicePart_ pu (wpAny_bind (wpAny_pure ?_)))))
  show wpAny _ _ (pure ((n : Int) - 1, (-1 : Int), Builtin.Slice.slicePlaces ((n : Int) - 1) (-1) (-1))) _ _ s
  rw [places_rev]; exact wpAny_pure h
theorem fm_some {α β : Type} {f : α → Option β} {g : α → β} : ∀ l : List α, (∀ k ∈ l, f k = some (g k)) → l.filterMap f = l.map g
  | [], _ => rfl
  | k :: l, h => by
    rw [List.filterMap_cons, h k (by simp), List.map_cons, fm_some l fun j hj => h j (by simp [hj])]
theorem pick_rev (xs : Array Value) : ((List.range xs.size).filterMap fun (k : Nat) => xs[((xs.size : Int) - 1 + (k : Int) * -1).toNat]?).toArray = xs.toList.reverse.toArray := by
  congr 1
  refine List.ext_getElem? fun i => ?_
  have e : ((List.range xs.size).filterMap fun (k : Nat) => xs[((xs.size : Int) - 1 + (k : Int) * -1).toNat]?) = (List.range xs.size).map fun k => (xs.toList.reverse)[k]?.getD .none := by
    refine fm_some _ fun k hk => ?_
    have hk := List.mem_range.mp hk
    have e1 : ((xs.size : Int) - 1 + (k : Int) * -1).toNat = xs.size - 1 - k := by omega
    rw [e1, List.getElem?_reverse (by simpa using hk)]
    have : xs.size - 1 - k < xs.size := by omega
    simp [this]
  rw [e, List.getElem?_map]
  by_cases hi : i < xs.size
  · rw [List.getElem?_range hi]
    have : i < xs.toList.reverse.length := by simpa using hi
    simp only [Option.map_some, List.getElem?_eq_getElem this, Option.getD_some]
  · rw [List.getElem?_eq_none (by simpa using hi), List.getElem?_eq_none (by simpa using hi)]
    rfl
theorem getItem_rev {t sl : Addr} {items : Array Value} {vl vu vs : Value} {Q : Value → Shared → Prop} (ht : IsTup s.heap t items) (hs : s.heap.IsSliceOf sl vl vu vs) (pl : IsPart vl none) (pu : IsPart vu none) (ps : IsPart vs (some (-1)))
    (h : Q (.ref s.heap.objs.size) { s with heap := s.heap.push { cls := .type "tuple", data := .seq items.toList.reverse.toArray } })
    (hz : items.size ≤ sizeLine) : wpAny (model prog w) Ar (getItem (.ref t) (.ref sl)) Q E s := by
  have hz2 : sizeOk (.seq items.toList.reverse.toArray) := by
    show items.toList.reverse.toArray.size ≤ sizeLine
    simpa using hz
  have hT : s.TypeIs (.ref sl) "slice" := by
    obtain ⟨oz, ho1, ho2, _⟩ := hs
    exact ⟨oz, ho1, ho2⟩
  unfold getItem
  try with_reducible refine wpAny_holding ?_
  first | refine wpAny_bind (wpAny_pure ?_) | skip
  refine wpAny_bind (wpAny_sequenceKey ht.typeIs (by decide) (wpAny_bind (wpAny_callSpecial?_slot (name := Str.ofString "__getitem__") ht.typeIs PyProof.Rows.slot_tuple_getitem
    (wpAny_call_entry PyProof.Rows.slot_tuple_getitem ht.typeIs entry_tuple_getitem ?_ (args_tuple_getitem _ _)))))
  show wpAny _ _ (Builtin.Tuple.tupleItemsOf (.ref t) >>= _) _ _ s
  refine wpAny_bind (tupleItemsOf_ ht (wpAny_bind (wpAny_typeOf hT ?_)))
  rw [if_pos (show (Value.type "slice" == Value.type "slice") = true by decide)]
  refine wpAny_bind (applied_rev hs pl pu ps ?_)
  have hno : ¬ ((((items.size : Int) - 1) == 0 && (-1 : Int) == 1 && items.size == items.size) = true) := by simp
  show wpAny _ _ (if (((items.size : Int) - 1) == 0 && (-1 : Int) == 1 && items.size == items.size) = true then _ else _) _ _ s
  rw [if_neg hno, pick_rev]
  first
    | exact wpAny_bind (m := Builtin.Tuple.tupleExact _) (wpAny_newObj_type (wpAny_pure ⟨_, rfl, wpAny_pure h⟩) hz2)
    | exact wpAny_bind (m := Builtin.Tuple.tupleExact _) (wpAny_newObj_type (wpAny_bind (wpAny_pure (wpAny_pure ⟨_, rfl, wpAny_pure h⟩))) hz2)
    | exact wpAny_bind (wpAny_bind (m := Builtin.Tuple.tupleExact _) (wpAny_newObj_type (wpAny_pure (wpAny_pure ⟨_, rfl, wpAny_pure h⟩)) hz2))
    | exact wpAny_bind (wpAny_bind (m := Builtin.Tuple.tupleExact _) (wpAny_newObj_type (wpAny_pure ⟨_, rfl, wpAny_pure h⟩) hz2))
end
/-! ### x[::-1] -/
def tRevA (K : PySem.W.Frag) (te : TE) : TE := fun σ H Q => te σ H fun x H1 => ∃ a xs, x = .ref a ∧ ((SqL K H1 a xs ∧ ∀ p, H1 p = none → Q (.ref p) (upd H1 p (.lst xs.reverse))) ∨ (SqT K H1 a xs ∧ ∀ p, H1 p = none → Q (.ref p) (upd H1 p (.tup xs.reverse))))
section
variable {X : Cx} {W : WR} {pos : Pos} {a : Expr} {f : EF}
theorem pe_revA {e : Expr} {te : TE} {k : Nat} {p1 p2 p3 pos : Pos} (he : PE X e te) : PE X (.Subscript e (.Slice none none (some (.UnaryOp .USub (.Constant (.int 1) k p1) p2)) p3) pos) (tRevA X.K te) := by
  refine ⟨fun pins s σ H Q I h => Subscript_ (thn (he.run pins s σ H _ I h) fun v s1 ⟨x, H1, I1, r1, a, xs, ex, hx⟩ => ?_)⟩
  subst ex
  cases r1
  have hst : PO X (some (.UnaryOp .USub (.Constant (.int 1) k p1) p2)) (tPart (tUn (rU fun i => .int (-i)) (tC (.int 1)))) := po_some (pe_un un_neg pe_int)
  refine wpAny_Slice (thn (po_none.run pins s1 σ H1 (fun o H2 => o = none ∧ H2 = H1) I1 ⟨rfl, rfl⟩) fun vl s2 ⟨l, H2, I2, pl, el, e2⟩ => thn (po_none.run pins s2 σ H2 (fun o H3 => o = none ∧ H3 = H2) I2 ⟨rfl, rfl⟩) fun vu s3 ⟨u, H3, I3, pu, eu, e3⟩ => ?_)
  subst el e2 eu e3
  refine thn (hst.run pins s3 σ H3 (fun o H4 => o = some (-1) ∧ H4 = H3) I3 ⟨1, rfl, -1, rfl, rfl, rfl⟩) fun vs s4 ⟨o, H4, I4, ps, eo, e4⟩ => ?_
  subst eo e4
  generalize hs5 : ({ s4 with heap := s4.heap.push { cls := .type "slice", data := .fields #[vl, vu, vs] } } : Shared) = s5
  have I5 : L2.Inv X pins σ H4 s5 := by
    rw [← hs5]
    exact I4.kept (t' := s4.toks) fun b ob q => Heap.get?_push_of_some _ q
  have hsl : s5.heap.IsSliceOf s4.heap.objs.size vl vu vs := by rw [← hs5]; exact Heap.IsSliceOf.new _ vl vu vs
  show wpAny (model X.prog X.w) X.A (subscriptTail e (.Slice none none (some (.UnaryOp .USub (.Constant (.int 1) k p1) p2)) p3) (.ref a) (.ref s4.heap.objs.size)) (EP X pins σ Q) X.xe _
  generalize s4.heap.objs.size = sl at hsl
  rcases hx with ⟨hx, q⟩ | ⟨hx, q⟩
  · obtain ⟨its, r, ht, hz⟩ := I5.list hx
    have hlen := r.length
    refine tail_any (ops := [.ref a, .ref sl]) ht.isList.typeIs (PySem.slot_list_getitem.lookup) (wpAny_getItem_list_slice ht.isList hsl pl pu ps (by decide) ?_ (by rw [List.size_toArray]; omega)) (by with_unfolding_all rfl)
    rw [PySem.W.krv_pick]
    exact ⟨.ref _, _, I5.laid (t' := s5.toks) (o := .lst xs.reverse) (fun b ob q => Heap.get?_push_of_some _ q) (Nat.le_refl _) ⟨by rw [List.length_reverse]; exact hz, _, 0, r.reverse, Heap.get?_push_size _ rfl⟩, rfl, q _ (I5.hok.fresh (Nat.le_refl _))⟩
  · obtain ⟨its, r, ht, hz⟩ := I5.tuple hx
    have hlen : its.toArray.size = xs.length := by rw [List.size_toArray]; exact r.length.symm
    refine tail_any (ops := [.ref a, .ref sl]) ht.typeIs (PyProof.Rows.slot_tuple_getitem.lookup) (getItem_rev ht hsl pl pu ps ?_ (by rw [hlen]; exact hz)) (by with_unfolding_all rfl)
    exact ⟨.ref _, _, I5.laid (t' := s5.toks) (o := .tup xs.reverse) (fun b ob q => Heap.get?_push_of_some _ q) (Nat.le_refl _) ⟨by rw [List.length_reverse]; exact hz, _, r.reverse, IsTup.new _ _⟩, rfl, q _ (I5.hok.fresh (Nat.le_refl _))⟩
def oRev : O1 := fun a M => match a with
  | .lst l => (listAt M l).map fun xs => (.lst M.length, M ++ [.lst xs.reverse])
  | .tup xs => some (.tup xs.reverse, M)
  | _ => none
theorem ae_rev {k : Nat} {p1 p2 p3 : Pos} (ha : AE X W a f) : AE X W (.Subscript a (.Slice none none (some (.UnaryOp .USub (.Constant (.int 1) k p1) p2)) p3) pos) (eUn oRev f) := (pe_revA ha).pre fun σ H Q h => by
  refine (seqG (G := (X.gx W.Tb)) (W := W) Is h).imp fun x H1 h1 => ?_
  obtain ⟨τ, M, ρ, y, rs, rm, i, r⟩ := h1
  have ro : RO (X.am W.Tb) ρ H1 (oRev y M) Q := RO.of r
  unfold oRev at ro
  cases i with
  | lst ha =>
    simp only at ro
    cases e1 : listAt M _ with
    | none => rw [e1] at ro; exact ro.elim
    | some xs =>
      rw [e1] at ro
      obtain ⟨vs, hq, is⟩ := rm.list ha e1
      exact ⟨_, vs, rfl, .inl ⟨hq, fun p hp => RO.newL (M := M) ro rm is.rev hp⟩⟩
  | tup ha qa =>
    have ro : RO (X.am W.Tb) ρ H1 (some (.tup (List.reverse _), M)) Q := ro
    exact ⟨_, _, rfl, .inr ⟨.inl (.inl ha), fun p hp => RO.newT (M := M) ro rm qa.rev hp⟩⟩
  | _ => exact ro.elim
end
end AB
/-! AB26: backward steps for set comprehensions -/
namespace AB
open PySem PySem.Spec PyProof.Rows L2
def sAdd (xs : List Int) (k : Int) : List Int := if k ∈ xs then xs else xs ++ [k]
def stOf (ks : List Int) : List Int := ks.foldl sAdd []
theorem stOf_len (ks : List Int) : (stOf ks).length ≤ ks.length := by
  have : ∀ (ks : List Int) (acc : List Int), (ks.foldl sAdd acc).length ≤ acc.length + ks.length := by
    intro ks
    induction ks with
    | nil => intro acc; simp
    | cons k ks ih =>
      intro acc
      have := ih (sAdd acc k)
      have h2 : (sAdd acc k).length ≤ acc.length + 1 := by
        unfold sAdd
        split <;> simp
      show ((ks.foldl sAdd (sAdd acc k))).length ≤ _
      simp only [List.length_cons]
      omega
  have h := this ks []
  unfold stOf
  simpa using h
theorem stOf_snoc (ks : List Int) (k : Int) : stOf (ks ++ [k]) = sAdd (stOf ks) k := by
  unfold stOf
  rw [List.foldl_append]
  rfl
theorem sPut_ok {M : Store} {l : Nat} {ks : List Int} {k : Int} (h : M[l]? = some (.st (stOf ks))) (hz : ks.length ≤ 1000) : sPut M l (.int k) = some (M.set l (.st (stOf (ks ++ [k])))) := by
  unfold sPut
  rw [h]
  dsimp only
  have := stOf_len ks
  rw [if_pos (by unfold scanBound; omega), stOf_snoc]
  rfl
section
variable {τ : Sl} {M : Store} {Q : A → Store → Prop}
theorem w_scA {src : Src} {t : Tgt} {fe : EF} {l : Nat} {τw : Sl} (xs : List A) (I : Nat → Store → Prop) (hat : ∀ i M, I i M → src.at M i = some xs[i]?)
    (hs : ∀ i x M, xs[i]? = some x → I i M → ∃ τ1, t.set x τw = some τ1 ∧ (fe τ1 M).W fun y M3 => ∃ M4, sPut M3 l y = some M4 ∧ I (i + 1) M4)
    (he : ∀ M, I xs.length M → Q (.dct l) M) :
    ∀ (n i : Nat) (M : Store), xs.length < i + n → i ≤ xs.length → I i M → (scA src t bYes fe l τw n i M).W Q
  | 0, i, M, h1, h2, _ => by omega
  | n + 1, i, M, h1, h2, h0 => by
    unfold scA
    rw [hat i M h0]
    by_cases hi : i < xs.length
    · have ex : xs[i]? = some xs[i] := List.getElem?_eq_getElem hi
      rw [ex]
      obtain ⟨τ1, e1, h⟩ := hs i _ M ex h0
      dsimp only
      rw [e1]
      dsimp only [bYes]
      obtain ⟨y, M3, ey, M4, ep, h⟩ := (show ∃ y M3, fe τ1 M = .ok y M3 ∧ ∃ M4, sPut M3 l y = some M4 ∧ I (i + 1) M4 from by with_unfolding_all exact h.out)
      rw [ey]
      dsimp only
      rw [ep]
      exact w_scA xs I hat hs he n (i + 1) M4 (by omega) hi h
    · rw [List.getElem?_eq_none (by omega)]
      have e : i = xs.length := by omega
      subst e
      with_unfolding_all exact he M h0
theorem w_sc {fi : EI} {t : Tgt} {fe : EF} {own : List Nat} (h : (fi τ M).W fun src M1 => ∃ (ks : List Int) (xs : List A), src.size M1 = xs.length + 1 ∧ ks.length = xs.length ∧ ks.length ≤ 1000 ∧ (∀ M2, Pre M1 M2 → ∀ i, src.at M2 i = some xs[i]?) ∧
    (∀ (i : Nat) (x : A) (k : Int) (M2 : Store), xs[i]? = some x → ks[i]? = some k → Pre M1 M2 → ∃ τ1, t.set x (wipeA τ own) = some τ1 ∧ (fe τ1 M2).W fun y M3 => y = .int k ∧ Pre M2 M3) ∧
    (∀ M2, Pre M1 M2 → M2[M1.length]? = some (.st (stOf ks)) → Q (.dct M1.length) M2)) : (eSc fi t bYes fe own τ M).W Q :=
  w_bind (h.imp fun src M1 ⟨ks, xs, e, hk, hz, hat, hs, hq⟩ => w_scA xs (fun i M2 => M2[M1.length]? = some (.st (stOf (ks.take i))) ∧ Pre M1 M2) (fun i M2 h => hat M2 h.2 i)
    (fun i x M2 hx hI => by
      obtain ⟨h1, p⟩ := hI
      have hi : i < ks.length := by rw [hk]; exact (List.getElem?_eq_some_iff.mp hx).1
      have ek : ks[i]? = some ks[i] := List.getElem?_eq_getElem hi
      obtain ⟨τ1, e1, w⟩ := hs i x _ M2 hx ek p
      refine ⟨τ1, e1, w.imp fun y M3 ⟨ey, p3⟩ => ?_⟩
      subst ey
      refine ⟨_, sPut_ok (p3.at h1) (by rw [List.length_take]; omega), ?_, (p.trans p3).set (Nat.le_refl _)⟩
      rw [at_set (p3.at h1), List.take_add_one, ek]
      rfl)
    (fun M2 hI => hq M2 hI.2 (by rw [hI.1, ← hk, List.take_length])) _ 0 _ (by rw [e]; omega) (Nat.zero_le _) ⟨by rw [at_new]; rfl, Fr.refl.app _⟩)
theorem lenSt {l : Nat} {ks : List Int} (h : M[l]? = some (.st (stOf ks))) (hz : ks.length ≤ 1000) : oLenSt [.dct l] M = some (.int ((stOf ks).length : Nat), M) := by
  unfold oLenSt
  dsimp only
  rw [h]
  have := stOf_len ks
  dsimp only
  rw [if_pos (by omega)]
end
end AB
/-! AB27: lambdas handed to a def and called there -/
namespace AB
open PySem PySem.Spec PyProof.Rows L2
/-! ### a lambda's names: its parameters, captured ones, globals -/
structure LamP (sc scope : Scope) (ps : List Str) : Prop where
  kind : scope.kind = .function
  co : scope.isCoroutine = false
  gen : scope.isGenerator = false
  cell : ∀ y ∈ scope.names, y.2 ≠ .cell
  own : ∀ y ∈ scope.names, y.2 = .local → y.1 ∈ ps
  par : ∀ x ∈ ps, scope.names.lookup x = some .local
  nd : ps.Nodup
  free : ∀ y ∈ scope.names, y.2 = .free → sc.names.lookup y.1 = some .cell ∨ sc.names.lookup y.1 = some .free
def lamPB (sc scope : Scope) (ps : List Str) : Bool :=
  decide (scope.kind = .function) && !scope.isCoroutine && !scope.isGenerator && (scope.names.all fun y => !decide (y.2 = .cell) && (!decide (y.2 = .local) || decide (y.1 ∈ ps)) && (!decide (y.2 = .free) || decide (sc.names.lookup y.1 = some .cell) || decide (sc.names.lookup y.1 = some .free))) &&
    (ps.all fun x => decide (scope.names.lookup x = some .local)) && decide ps.Nodup
theorem lamP_by {sc scope : Scope} {ps : List Str} (h : lamPB sc scope ps = true) : LamP sc scope ps := by
  unfold lamPB at h
  simp only [Bool.and_eq_true, Bool.or_eq_true, Bool.not_eq_true', decide_eq_true_eq, decide_eq_false_iff_not, List.all_eq_true] at h
  obtain ⟨⟨⟨⟨⟨h1, h2⟩, h3⟩, h4⟩, h5⟩, h6⟩ := h
  refine ⟨h1, h2, h3, fun y hy => (h4 y hy).1.1, fun y hy e => ?_, h5, h6, fun y hy e => ?_⟩
  · rcases (h4 y hy).1.2 with z | z
    · exact absurd e z
    · exact z
  · rcases (h4 y hy).2 with (z | z) | z
    · exact absurd e z
    · exact .inl z
    · exact .inr z
theorem LamP.has {X : Cx} {scope : Scope} {ps : List Str} (L : LamP X.env.scope scope ps) (ok : X.Ok) : ∀ y ∈ scope.names, y.2 = .free → ∃ c, X.env.cells.lookup y.1 = some c := fun y hy e => by
  rcases L.free y hy e with k | k
  · exact ok.has _ (.inl k)
  · exact ok.has _ (.inr k)
/-- the context of the lambda's body -/
abbrev lamCxP (X : Cx) (A : Around) (outer : List Env) (s : Shared) (H : Hp) (E : XK) (scope : Scope) (f c' : Addr) (ps : List Str) : Cx := { LamX.lamCx X A outer s H E scope f c' with N := X.N ++ ps }
/-- the lambda's object as it stands -/
def LamAt (X : Cx) (s : Shared) (H : Hp) (params : Arguments) (body : Expr) (scope : Scope) (f c' : Addr) (pm ctv : Value) : Prop :=
  s.heap.get? f = some (PySem.W.kla_obj "<lambda>" (X.env.qual ++ "<lambda>") params body scope (cloFrom X.env.cells scope.names []) pm c' ctv) ∧ H f = none ∧ f ∉ frs X.stack ∧ H c' = some (LamX.CodeO c' (X.env.qual ++ "<lambda>"))
section
variable {X : Cx} {pins : List (Addr × Obj)} {σ : L2.St} {H HZ : Hp} {s s1 : Shared}
theorem mem_reverse_lookup {ps : List Str} {us : List Value} (nd : ps.Nodup) (hl : us.length = ps.length) {i : Nat} {x : Str} {u : Value} (h1 : ps[i]? = some x) (h2 : us[i]? = some u) : (ps.zip us).reverse.lookup x = some u := by
  have hnd : ((ps.zip us).reverse.map (·.1)).Nodup := by
    rw [List.map_reverse, List.map_fst_zip (by omega)]
    exact (List.reverse_perm _).nodup_iff.mpr nd
  have hm : (x, u) ∈ (ps.zip us).reverse := by
    rw [List.mem_reverse]
    refine List.mem_of_getElem? (i := i) ?_
    rw [List.getElem?_zip_eq_some]
    exact ⟨h1, h2⟩
  generalize (ps.zip us).reverse = l at hnd hm
  induction l with
  | nil => cases hm
  | cons p l ih =>
    obtain ⟨y, z⟩ := p
    rw [List.map_cons, List.nodup_cons] at hnd
    rcases List.mem_cons.mp hm with e | e
    · cases e
      simp [List.lookup]
    · have ne : (x == y) = false := by
        rw [beq_eq_false_iff_ne]
        intro z'
        subst z'
        exact hnd.1 (List.mem_map.mpr ⟨_, e, rfl⟩)
      simp only [List.lookup, ne]
      exact ih hnd.2 e
/-- a captured name's cell is the maker's -/
theorem caught_of {cells : List (Str × Addr)} {names : List (Str × NameKind)} (all : ∀ y ∈ names, y.2 = .free → ∃ b, cells.lookup y.1 = some b) {z : Str} {b : Addr} (h : (cloFrom cells names []).lookup z = some b) : cells.lookup z = some b := by
  rcases cloFrom_mem (PySem.mem_of_lookup h) with none | ⟨isFree, eb⟩
  · exact absurd none List.not_mem_nil
  · obtain ⟨b', hb'⟩ := all _ isFree rfl
    have same : b = b' := by rw [eb, show cells.lookup z = some b' from hb']; rfl
    rw [same]
    exact hb'
/-- each captured name has one -/
theorem caught_has {cells : List (Str × Addr)} {names : List (Str × NameKind)} {z : Str} (h : names.lookup z = some .free) : ∃ b, (cloFrom cells names []).lookup z = some b :=
  mem_lookup (cloFrom_has (cells := cells) (acc := []) (PySem.mem_of_lookup h))
/-- the lambda's frame: its parameters, and what it captured as the maker left it -/
theorem lam_startP {A : Around} {outer : List Env} {E : XK} {scope : Scope} {f c' : Addr} {h₁ : Heap} {tk : Nat} {ps : List Str} {us : List Value} {vs : List V} (I : Inv X pins σ H s) (L : LamP X.env.scope scope ps) (e0 : Env0 X.prog X.w X.K X.mg X.base A outer s1 HZ) (hd : A.handled = none)
    (un : Un (frs X.stack) [] H HZ s.heap s1.heap) (hdis : ∀ x ∈ ps, x ∉ X.N) (hl : us.length = ps.length) (hv : Vals vs us) (hns : h₁.Ns s1.heap.objs.size fun y => (ps.zip us).reverse.lookup y) (kp : ∀ b o, s1.heap.get? b = some o → h₁.get? b = some o) :
    Inv (lamCxP X A outer s1 HZ E scope f c' ps) [] (σ ++ vs.map some) HZ { s1 with heap := h₁, toks := tk } := by
  have back : ∀ {z b}, (cloFrom X.env.cells scope.names []).lookup z = some b → X.env.cells.lookup z = some b := fun h => caught_of (L.has I.ok) h
  have still : ∀ {b : Addr} {v : Option Value}, H b = none → s.heap.IsCell b v → h₁.IsCell b v := fun {b v} untold ⟨ob, hob, hdat⟩ => by
    obtain ⟨slots, q⟩ := un.any hob untold (by simp)
    exact ⟨_, kp _ _ q, hdat⟩
  have nex : ∀ b : Addr, b ∉ (lamCxP X A outer s1 HZ E scope f c' ps).ex := fun b z => absurd (show b ∈ ([] : List Addr) from z) (by simp)
  have ok : (lamCxP X A outer s1 HZ E scope f c' ps).Ok :=
    { mod := e0.mod
      kind := L.kind
      glob := rfl
      blt := rfl
      above := Nat.le_refl _
      inj := fun y z b t1 t2 => I.ok.inj y z b (back t1) (back t2)
      has := fun y hy => by
        rcases (show scope.names.lookup y = some .cell ∨ scope.names.lookup y = some .free from hy) with t | t
        · exact absurd rfl (L.cell _ (PySem.mem_of_lookup t))
        · exact caught_has t
      cab := fun y b z _ => absurd (show false = true from z) (by simp)
      hd := fun _ => hd
      frames := Around.frames_deeper e0.frames
      stk := .inr ⟨rfl, rfl⟩
      exf := fun b z => absurd z (nex b)
      bs := e0.bs
      bsz := e0.bsz
      noex := fun b _ _ => nex b
      exfs := fun b z => absurd z (nex b)
      funs := e0.funs
      frf := e0.frf }
  have many : vs.length = ps.length := by rw [hv.length, hl]
  -- what a name that is seen holds
  have names : ∀ (i : Nat) (y : Str) (v : V), (X.N ++ ps)[i]? = some y → (σ ++ vs.map some)[i]? = some (some v) → Vis scope y →
      ∃ u, RelV v u ∧ Look (lamCxP X A outer s1 HZ E scope f c' ps).env h₁ (fun y => (ps.zip us).reverse.lookup y) y u := by
    intro i y v t1 t2 seen
    by_cases hi : i < X.N.length
    · -- one of the maker's
      rw [List.getElem?_append_left hi] at t1
      rw [List.getElem?_append_left (by rw [I.len]; exact hi)] at t2
      rcases seen with t | t | t
      · exact absurd (List.mem_of_getElem? t1) (hdis _ (L.own _ (PySem.mem_of_lookup t) rfl))
      · exact absurd rfl (L.cell _ (PySem.mem_of_lookup t))
      · have from_ := L.free _ (PySem.mem_of_lookup t) rfl
        obtain ⟨mm, _, told⟩ := I.loc
        obtain ⟨u, ru, how⟩ := told i y v t1 t2 (from_.elim (fun q => .inr (.inl q)) fun q => .inr (.inr q))
        obtain ⟨b, hb⟩ := caught_has (cells := X.env.cells) t
        have hb' := back hb
        refine ⟨u, ru, .inr ⟨.inr t, b, hb, ?_⟩⟩
        rcases how with ⟨loc, _⟩ | ⟨_, b2, hb2, isC⟩
        · have loc : X.env.scope.names.lookup y = some .local := loc
          rcases from_ with q | q
          · rw [show X.env.scope.names.lookup y = _ from q] at loc; cases loc
          · rw [show X.env.scope.names.lookup y = _ from q] at loc; cases loc
        · rw [hb'] at hb2
          cases hb2
          exact still (I.freeC y _ hb') isC
    · -- a parameter
      rw [List.getElem?_append_right (by omega)] at t1
      rw [List.getElem?_append_right (by rw [I.len]; omega), I.len, List.getElem?_map] at t2
      obtain ⟨v', hv', ev⟩ := Option.map_eq_some_iff.mp t2
      cases ev
      obtain ⟨u, hu, ru⟩ := hv.get hv'
      exact ⟨u, ru, .inl ⟨L.par _ (List.mem_of_getElem? t1), mem_reverse_lookup L.nd hl t1 hu⟩⟩
  exact
    { ok := ok
      os := rfl
      bare := e0.bare
      base := Un.kept kp
      loc := ⟨_, hns, names⟩
      cell := fun y b t => by
        obtain ⟨v, isC⟩ := I.cell y b (back t)
        exact ⟨v, still (I.freeC y b (back t)) isC⟩
      free := e0.hok.fresh (Nat.le_refl _)
      freeC := fun y b t => by
        obtain ⟨v, ob, hob, _⟩ := I.cell y b (back t)
        exact un.free b ob hob (I.freeC y b (back t)) (by simp)
      pin := fun q hq => absurd (show q ∈ ([] : List (Addr × Obj)) from hq) (by simp)
      hok := e0.hok.kept kp
      len := by
        show (σ ++ vs.map some).length = (X.N ++ ps).length
        rw [List.length_append, List.length_append, List.length_map, I.len, many] }
end
/-! ### what is called -/
/-- act(..): slot i holds the object of number l -/
def eAct (i l n : Nat) (act : On') (fs : EFs) : EF := fun τ M => match τ[i]? with
  | some (some (.obj j)) => if j = l then (fs τ M).bind fun as M1 => if as.length = n then act as M1 else .bad else .bad
  | _ => .bad
/-- in Z a call of what stands at number l does act -/
def ActOk (Z : Cx) (Tb : Tbl) (r : List Addr) (h : Hp) (l n : Nat) (act : On') : Prop :=
  ∀ (W : WR) (pn : List (Addr × Obj)) (xe : Value → Shared → Prop) (a : Str) (i : Nat) (p1 p2 : Pos) (es : List Expr) (fs : EFs), W.Tb = Tb → W.r = r → W.h = h → Takes (Z.tr pn xe) W.w → AA (Z.tr pn xe) W es fs → Z.N[i]? = some a → Vis Z.env.scope a →
    (a == ("__debug__" : Str)) = false → (a == ("__classdict__" : Str)) = false →
    ((es = [] ∧ fs = eNil) ∨ ∃ e es', es = e :: es' ∧ starEach (e :: es') Z.env = (false, eval e Z.env) :: starEach es' Z.env ∧ (backTo p2 (starEach es' Z.env)).any (·.1) = false) → AE (Z.tr pn xe) W (.Call (.Name a p1) es [] p2) (eAct i l n act fs)
/-- a lambda's call, its slots those of its maker and its arguments -/
def lamA (τ : Sl) (f : EF) : On' := fun as M => f (τ ++ as.map some) M
section
variable {X : Cx} {pins : List (Addr × Obj)} {σ : L2.St} {H HZ : Hp} {s s1 : Shared}
theorem RS0.app {ρ : List Addr} {H : Hp} {τ : Sl} {σ : L2.St} (r : RS0 ρ H τ σ) {as : List A} {vs : List V} (i : IsAll ρ H as vs) : RS0 ρ H (τ ++ as.map some) (σ ++ vs.map some) := by
  induction r with
  | nil =>
    induction as generalizing vs with
    | nil => cases i; exact .nil
    | cons a as ih =>
      cases i with
      | cons i is => exact .yes i (ih is)
  | no _ ih => exact .no ih
  | yes j _ ih => exact .yes j ih
theorem RE.conv {α β : Type} {G : Gx} {W W' : WR} {σ σ' : L2.St} {ρ : List Addr} {H : Hp} {rel : Rel α β} {o : EO α} {Q : β → Hp → Prop} (h : ∀ cls d H', W cls d σ H' → W' cls d σ' H') (r : RE G W σ ρ H rel o Q) : RE G W' σ' ρ H rel o Q := by
  cases o with
  | ok a M => exact r
  | ex e M => exact fun c d H2 ρ2 x2 g2 m i => h _ _ _ (r c d H2 ρ2 x2 g2 m i)
  | bad => exact r
/-- nothing of the frame's beginning is asked -/
abbrev wE (E : XK) (Tb : Tbl) : WR := ⟨fun cls d _ H => E cls d H, Tb, [], fun _ => none⟩
theorem RS.base {E : XK} {Tb : Tbl} {ρ : List Addr} {H : Hp} {τ : Sl} {σ : L2.St} (r : RS0 ρ H τ σ) : RS (wE E Tb) ρ H τ σ := ⟨⟨ρ, rfl⟩, fun _ _ _ z => (nomatch z), r⟩
theorem act_ok {Eg : XK} {Ng : List Str} {qg : Str} {sg : Scope} {g f c' : Addr} {cdg pm ctv : Value} {params : Arguments} {body : Expr} {scope : Scope} {k l : Nat} {ps : List Str} {Tb : Tbl} {r ρm : List Addr} {τ : Sl} {flam : EF}
    (I : Inv X pins σ H s) (L : LamP X.env.scope scope ps) (hla : LamAt X s H params body scope f c' pm ctv) (hdis : ∀ x ∈ ps, x ∉ X.N) (hx : Ext ρm r) (hl : r[l]? = some f) (hs : RS0 ρm H τ σ)
    (hbind : ∀ us : List Value, us.length = ps.length → bindArgs (PySem.W.kla_fn "<lambda>" (X.env.qual ++ "<lambda>") params body scope (cloFrom X.env.cells scope.names []) pm (.ref c') ctv) ⟨us, []⟩ = pure (ps.zip us))
    (hr : Room (k + 1) (X.A.deeper (envOfC qg sg s.heap.objs.size g cdg)))
    (hbody : ∀ (A : Around) (outer : List Env) (s : Shared) (H : Hp) (E : XK), Room k (A.deeper (LamX.lamEnv X scope s.heap.objs.size f c')) → AE (lamCxP X A outer s H E scope f c' ps) (wE E Tb) body flam) :
    ActOk (cxOf (L2.CX X.prog X.w) X.prog X.w X.K X.mg X.base Ng qg sg g cdg X.A X.stack s H Eg) Tb r H l ps.length (lamA τ flam) := by
  intro W pn xe a i p1 p2 es fs hT hWr hWh tk ha hN hv hd hcd hsh
  refine ⟨fun pinsZ sZ σZ HZ Q IZ h => ?_⟩
  obtain ⟨hf, hfn, hfr, hco⟩ := hla
  obtain ⟨τZ, M, ρ, rs, rm, rr⟩ := h
  unfold eAct at rr
  split at rr
  · rename_i j ej
    split at rr
    · rename_i ejl
      subst ejl
      obtain ⟨v0, hv0, iv⟩ := rs.get ej
      have ef : v0 = .ref f := by
        cases iv with
        | obj hj =>
          have q := rs.ext
          rw [hWr] at q
          have := q.get hl
          rw [hj] at this
          cases this
          rfl
      subst ef
      refine wpAny_Call_Name_kw (thn ((pe_var (X := (cxOf (L2.CX X.prog X.w) X.prog X.w X.K X.mg X.base Ng qg sg g cdg X.A X.stack s H Eg).tr pn xe) (pos := p1) (i := i) hN hv hd hcd).run pinsZ sZ σZ HZ (fun v H1 => v = .ref f ∧ H1 = HZ) IZ ⟨.ref f, hv0, rfl, rfl⟩) fun u s1 ⟨v, H1, I1, r1, q1⟩ => ?_)
      obtain ⟨ev, eH⟩ := q1
      subst ev
      rw [eH] at I1
      obtain rfl : u = Value.ref f := r1
      have ofn : ∀ {s1 : Shared} {H1 : Hp}, Inv ((cxOf (L2.CX X.prog X.w) X.prog X.w X.K X.mg X.base Ng qg sg g cdg X.A X.stack s H Eg).tr pn xe) pinsZ σZ H1 s1 → s1.heap.get? f = some (PySem.W.kla_obj "<lambda>" (X.env.qual ++ "<lambda>") params body scope (cloFrom X.env.cells scope.names []) pm c' ctv) :=
        fun I1 => I1.base.keep f _ hf hfn hfr (fun z => nomatch (show f ∈ ([] : List Addr) from z))
      -- the call itself
      have fin : ∀ (us : List Value) (vs : List V) (s2 : Shared) (H2 : Hp) (as : List A) (M2 : Store) (ρ2 : List Addr), Inv ((cxOf (L2.CX X.prog X.w) X.prog X.w X.K X.mg X.base Ng qg sg g cdg X.A X.stack s H Eg).tr pn xe) pinsZ σZ H2 s2 → Vals vs us →
          RS W ρ2 H2 τZ σZ → RM (X.am W.Tb) ρ2 H2 M2 → IsAll ρ2 H2 as vs → RE (X.gx W.Tb) W σZ ρ2 H2 Is (if as.length = ps.length then lamA τ flam as M2 else .bad) Q →
          wpAny (model X.prog X.w) (X.A.deeper (envOfC qg sg s.heap.objs.size g cdg)) (call (.ref f) us) (EP ((cxOf (L2.CX X.prog X.w) X.prog X.w X.K X.mg X.base Ng qg sg g cdg X.A X.stack s H Eg).tr pn xe) pinsZ σZ Q) xe s2 := by
        intro us vs s2 H2 as M2 ρ2 I2 rv rs2 rm2 ia rr2
        split at rr2
        · rename_i hn
          have of2 := ofn I2
          have hul : us.length = ps.length := by rw [← rv.length, ← ia.length]; exact hn
          have un : Un (frs X.stack) [] H H2 s.heap s2.heap := I2.base
          have hg := rs2.grow
          rw [hWh] at hg
          have hx2 := rs2.ext
          rw [hWr] at hx2
          have hc2 : H2 c' = some (LamX.CodeO c' (X.env.qual ++ "<lambda>")) := hg _ _ (.code _ _) hco
          obtain ⟨⟨oc, ws, t, hoc, hdc, hvc⟩, _, _⟩ := I2.hok c' _ hc2
          have rc : codeAny (model X.prog X.w) (X.A.deeper (envOfC qg sg s.heap.objs.size g cdg)) (.call (.ref f) ⟨us, []⟩) (CR (L2.CX X.prog X.w) (envOfC qg sg s.heap.objs.size g cdg :: X.stack) X.prog X.w H2 s2 Q (fun cls d H' => W cls d σZ H')) s2 := by
            refine PySem.W.kla_callFunE hr.depth of2 rfl L.co L.gen rfl ⟨c', oc, ws, t, rfl, hoc, hdc, hvc⟩ ?_
            rw [hbind us hul]
            refine wpAny_pure (wpAny_newFunctionEnv (fun y hy => L.cell y hy) (fun y hy => L.par _ (List.of_mem_zip (show (y.1, y.2) ∈ ps.zip us from hy)).1) (fun h₁ hns hsb => ⟨I2.nolimit.fresh _ hsb, ?_⟩) L.kind)
            show codeAny _ _ (.expr body (LamX.lamEnv X scope s2.heap.objs.size f c')) _ _
            have kp : ∀ b o, s2.heap.get? b = some o → h₁.get? b = some o := fun b o e => hsb.extBut b o (Nat.ne_of_lt (Heap.lt_size e)) (Heap.get?_push_of_some _ e)
            have J : Inv (lamCxP X (X.A.deeper (envOfC qg sg s.heap.objs.size g cdg)) (envOfC qg sg s.heap.objs.size g cdg :: X.stack) s2 H2 (fun cls d H' => W cls d σZ H') scope f c' ps) [] (σ ++ vs.map some) H2 { s2 with heap := h₁, toks := s2.toks + (ps.zip us).length } :=
              lam_startP I L I2.env0 hr.hd un hdis hul rv hns kp
            refine PySem.W.kla_codeExpr (wpAny_mono ((hbody _ _ s2 H2 (fun cls d H' => W cls d σZ H') (hr.deeper _)).run [] _ _ H2 Q J ?_) (fun v s' hq => ?_) fun e s' hq => hq)
            · refine ⟨τ ++ as.map some, M2, ρ2, RS.base (RS0.app (hs.mono (hx.trans hx2) hg) ia), by rw [← hT]; exact rm2, ?_⟩
              subst hT
              exact RE.conv (fun _ _ _ h => h) rr2
            · obtain ⟨w', H', J', rv, q⟩ := hq
              exact ⟨w', H', J'.os, J'.bare, J'.base, J'.hok, rv, q⟩
          refine wpAny_call (codeAny_mono rc fun r' s' hq => ?_)
          cases r' with
          | error e => exact tk e s' (XE.of_call I2 (fun _ _ _ h => h) hq)
          | ok fl =>
            cases fl with
            | ret u => exact I2.after hq
            | next => exact False.elim hq
            | brk => exact False.elim hq
            | cont => exact False.elim hq
        · exact rr2.elim
      rcases hsh with ⟨e1, e2⟩ | ⟨e, es', e1, e2, e3⟩
      · subst e1 e2
        refine PySem.W.callWith_F0 ⟨_, _, _, _, ofn I1⟩ ?_
        exact fin [] [] s1 HZ [] M ρ I1 .nil rs rm .nil rr
      · subst e1
        have hta : tG (X.gx W.Tb) W IsAll fs σZ HZ (fun vs H2 => ∃ as M2 ρ2, RS W ρ2 H2 τZ σZ ∧ RM (X.am W.Tb) ρ2 H2 M2 ∧ IsAll ρ2 H2 as vs ∧ RE (X.gx W.Tb) W σZ ρ2 H2 Is (if as.length = ps.length then lamA τ flam as M2 else .bad) Q) := by
          refine ⟨τZ, M, ρ, rs, rm, ?_⟩
          cases ef : fs τZ M with
          | ok as M2 =>
            rw [ef] at rr
            exact fun vs H2 ρ2 x2 g2 m2 i2 => ⟨as, M2, ρ2, rs.mono x2 g2, m2, i2, RE.mono rr x2 g2⟩
          | ex en M2 => rw [ef] at rr; exact rr
          | bad => rw [ef] at rr; exact rr
        refine PySem.W.callWith_F ⟨_, _, _, _, ofn I1⟩ (thn (ha.run p2 pinsZ s1 σZ HZ _ I1 hta) fun us s2 ⟨vs, H2, I2, rv, as, M2, ρ2, rs2, rm2, ia, rr2⟩ => ⟨⟨_, _, _, _, ofn I2⟩, ?_⟩) e2 e3
        exact fin us vs s2 H2 as M2 ρ2 I2 rv rs2 rm2 ia rr2
    · exact rr.elim
  · exact rr.elim
/-! ### the def that is handed a lambda (its last parameter) -/
structure FnL (P : Program) (w : World) (K : PySem.W.Frag) (mg : Str → Option Value) (Tb : Tbl) (base : Heap) (x : Str) (k n m len : Nat) (S : Nat → On' → SF) : Prop where
  ex : ∃ (fa : Addr) (fd : FuncData) (st : Stmt) (N ps : List Str), Fun K x x st fa fd ∧ FnScope N ps (defScope st) ∧ mg x = some (.ref fa) ∧ N.length = len ∧ ps.length = n ∧ Binds K fd ps [] ∧
    ∀ (cdv : Value) (A : Around) (outer : List Env) (s₀ : Shared) (H : Hp) (E : XK) (l : Nat) (r : List Addr) (act : On'), Room k (A.deeper (envOfC x (defScope st) s₀.heap.objs.size fa cdv)) →
      ActOk (cxOf (L2.CX P w) P w K mg base N x (defScope st) fa cdv A outer s₀ H E) Tb r H l m act →
      ASs (cxOf (L2.CX P w) P w K mg base N x (defScope st) fa cdv A outer s₀ H E) ⟨fun cls d _ H => E cls d H, Tb, r, H⟩ (defBody st) (S l act)
/-- where the maker's code object and its table stand -/
structure LamI (X : Cx) (Tb : Tbl) (c P : Addr) : Prop where
  code : X.env.code = .ref c
  tb : LamX.TabB X.base X.mg c P
  mem : (P, X.env.qual ++ "<lambda>") ∈ Tb
  un : ∀ p ∈ Tb, p.1 = P → p.2 = X.env.qual ++ "<lambda>"
def eLam (n len : Nat) (S : Nat → On' → SF) (flam : EF) (fs : EFs) : EF := fun τ M => (fs τ M).bind fun as M1 =>
  if as.length + 1 = n then defA len (S M1.length (lamA τ flam)) (as ++ [.obj M1.length]) (M1 ++ [.obj]) else .bad
/-- arguments and behind them the lambda -/
structure PLm (X : Cx) (Tb : Tbl) (es : List Expr) (params : Arguments) (body : Expr) (scope : Scope) (t : TA) : Prop where
  run : ∀ (pos : Pos) (pins : List (Addr × Obj)) (s : Shared) (σ : L2.St) (H : Hp) (Q : List V → Hp → Prop), Inv X pins σ H s → t σ H (fun vs H1 => LamX.Tabs Tb H1 ∧ Q vs H1) →
    wpAny (model X.prog X.w) X.A (spliced (backTo pos (starEach es X.env))) (fun us s2 => ∃ us0 f c' pm ctv vs H1 H2, us = us0 ++ [.ref f] ∧ Vals vs us0 ∧ Inv X pins σ H2 s2 ∧ LamX.ExtN H1 H2 ∧ LamX.Tabs Tb H2 ∧ LamAt X s2 H2 params body scope f c' pm ctv ∧ Q vs H1) X.xe s
theorem plm_nil {Tb : Tbl} {c P : Addr} {params : Arguments} {body : Expr} {scope : Scope} {ps : List Str} {lpos : Pos} (LI : LamI X Tb c P) (L : LamP X.env.scope scope ps) (hdef : defaultsOf params X.env = ([], []) := by rfl) :
    PLm X Tb [.Lambda params body scope lpos] params body scope tNil := by
  refine ⟨fun pos pins s σ H Q I h => ?_⟩
  obtain ⟨hT, q⟩ := h
  show wpAny _ _ (spliced ((false, eval (.Lambda params body scope lpos) X.env) :: backTo pos (starEach [] X.env))) _ _ s
  exact Calls.spliced_cons (LamX.lam_make2 I LI.tb LI.code LI.mem LI.un hT hdef (L.has I.ok) fun f c' pm' ctv H1 s' I1 eN T1 hf hfn hfr hco =>
    Calls.spliced_nil ⟨[], f, c', pm', ctv, [], H, H1, rfl, .nil, I1, eN, T1, ⟨hf, hfn, hfr, hco⟩, q⟩)
theorem plm_cons {Tb : Tbl} {params : Arguments} {body : Expr} {scope : Scope} {e : Expr} {es : List Expr} {te : TE} {t : TA} (ha : PE X e te) (hr : PLm X Tb es params body scope t) (hs : starEach (e :: es) X.env = (false, eval e X.env) :: starEach es X.env := by rfl) : PLm X Tb (e :: es) params body scope (tCons te t) := by
  refine ⟨fun pos pins s σ H Q I h => ?_⟩
  rw [hs]
  show wpAny _ _ (spliced ((false, eval e X.env) :: backTo pos (starEach es X.env))) _ _ s
  refine Calls.spliced_cons (thn (ha.run pins s σ H _ I h) fun u s1 ⟨x, H1, I1, r1, q1⟩ => ?_)
  refine thn (hr.run pos pins s1 σ H1 (fun vs H2 => Q (x :: vs) H2) I1 q1) fun us s2 ⟨us0, f, c', pm, ctv, vs, H1', H2, e1, rv, I2, eN, T2, la, q⟩ => ?_
  exact ⟨u :: us0, f, c', pm, ctv, x :: vs, H1', H2, by rw [e1]; rfl, .cons r1 rv, I2, eN, T2, la, q⟩
theorem PLm.pre {Tb : Tbl} {es : List Expr} {params : Arguments} {body : Expr} {scope : Scope} {t t' : TA} (h : PLm X Tb es params body scope t) (w : ∀ σ H Q, t' σ H Q → t σ H Q) : PLm X Tb es params body scope t' :=
  ⟨fun pos pins s σ H Q I q => h.run pos pins s σ H Q I (w _ _ _ q)⟩
def ALm (X : Cx) (W : WR) (es : List Expr) (params : Arguments) (body : Expr) (scope : Scope) (fs : EFs) : Prop := PLm X W.Tb es params body scope (tG (X.gx W.Tb) W IsAll fs)
theorem alm_nil {W : WR} {c P : Addr} {params : Arguments} {body : Expr} {scope : Scope} {ps : List Str} {lpos : Pos} (LI : LamI X W.Tb c P) (L : LamP X.env.scope scope ps) (hdef : defaultsOf params X.env = ([], []) := by rfl) :
    ALm X W [.Lambda params body scope lpos] params body scope eNil := (plm_nil LI L hdef).pre fun σ H Q h => by
  obtain ⟨τ, M, ρ, rs, rm, r⟩ := h
  exact r.okv (.refl _) (.refl _) rm .nil
theorem alm_cons {W : WR} {params : Arguments} {body : Expr} {scope : Scope} {e : Expr} {es : List Expr} {f : EF} {g : EFs} (h1 : AE X W e f) (h2 : ALm X W es params body scope g) (hs : starEach (e :: es) X.env = (false, eval e X.env) :: starEach es X.env := by rfl) : ALm X W (e :: es) params body scope (eCons f g) :=
  (plm_cons h1 h2 hs).pre fun σ H Q h => by
    refine (seqG Is h).imp fun x H1 h1 => ?_
    refine (seqK Is Is.ext IsAll h1).imp fun xs H2 h2 => ?_
    obtain ⟨τ, M, ρ, a, as, rs, rm, i, is, r⟩ := h2
    exact r.okv (.refl _) (.refl _) rm (.cons i is)
/-- x(e, .., lambda ..: body) -/
theorem ae_lam {W : WR} {x : Str} {kG kl k n m len : Nat} {S : Nat → On' → SF} {params : Arguments} {body : Expr} {scope : Scope} {ps : List Str} {p pos : Pos} {e : Expr} {es : List Expr} {fs : EFs} {flam : EF}
    (G : FnL X.prog X.w X.K X.mg W.Tb X.base x kG n m len S) (hr : Room k X.A) (tk : Takes X W.w) (hm : ps.length = m) (L : LamP X.env.scope scope ps)
    (ha : ALm X W (e :: es) params body scope fs)
    (hbody : ∀ (A : Around) (outer : List Env) (s s' : Shared) (H : Hp) (E : XK) (f c' : Addr), Room kl (A.deeper (LamX.lamEnv X scope s'.heap.objs.size f c')) → AE (lamCxP X A outer s' H E scope f c' ps) (wE E W.Tb) body flam)
    (hdis : ∀ x ∈ ps, x ∉ X.N) (hk1 : kG + 1 ≤ k := by omega) (hk2 : kl + 1 ≤ kG := by omega)
    (hbind : ∀ (qq : Str) (cl : List (Str × Addr)) (pm cv ctv : Value) (us : List Value), us.length = ps.length → bindArgs (PySem.W.kla_fn "<lambda>" qq params body scope cl pm cv ctv) ⟨us, []⟩ = pure (ps.zip us))
    (hg : Gl X x := by rfl) (hdb : (x == ("__debug__" : Str)) = false := by decide) (he : starEach (e :: es) X.env = (false, eval e X.env) :: starEach es X.env := by rfl) (hpl : (backTo pos (starEach es X.env)).any (·.1) = false := by rfl) :
    AE X W (.Call (.Name x p) (e :: es) [] pos) (eLam n len S flam fs) := by
  obtain ⟨fa, fd, st, N, qs, F, Sc, hmg, hlen, hn, hb, hS⟩ := G.ex
  refine ⟨fun pins s σ H Q I h => ?_⟩
  refine wpAny_Call_Name_kw (ld_glob I hg hmg ?_ hdb)
  have h2 : tG (X.gx W.Tb) W IsAll fs σ H (fun vs H1 => LamX.Tabs W.Tb H1 ∧ ∃ τ M ρ as, RS W ρ H1 τ σ ∧ RM (X.am W.Tb) ρ H1 M ∧ IsAll ρ H1 as vs ∧ RE (X.gx W.Tb) W σ ρ H1 Is (if as.length + 1 = n then defA len (S M.length (lamA τ flam)) (as ++ [.obj M.length]) (M ++ [.obj]) else .bad) Q) := by
    obtain ⟨τ, M, ρ, rs, rm, r⟩ := h
    refine ⟨τ, M, ρ, rs, rm, ?_⟩
    unfold eLam at r
    cases ef : fs τ M with
    | ok as M1 =>
      rw [ef] at r
      exact fun vs H1 ρ1 x1 g1 m1 i1 => ⟨m1.tabs, τ, M1, ρ1, as, rs.mono x1 g1, m1, i1, RE.mono r x1 g1⟩
    | ex en M1 => rw [ef] at r; exact r
    | bad => rw [ef] at r; exact r
  refine PySem.W.callWith_K (h₀ := X.base) I.ok.mod.kin F.kp (thn (ha.run pos pins s σ H _ I h2) fun us s1 ⟨us0, f, c', pm, ctv, vs, H1, H2, e1, rv, I2, eN, T2, la, τ, M, ρ, as, rs, rm, i, r⟩ => ⟨I2.kIn, ?_⟩) he hpl
  subst e1
  split at r
  · rename_i hn2
    have g12 : Grow H1 H2 := .ofT eN
    have rm2 : RM (X.am W.Tb) (ρ ++ [f]) H2 (M ++ [.obj]) := (rm.growT eN T2).name f
    have i2 : IsAll (ρ ++ [f]) H2 (as ++ [.obj M.length]) (vs ++ [.ref f]) := (i.mono (.snoc _ _) g12).append (.cons (.obj (by rw [← rm.len]; simp)) .nil)
    have rv2 : Vals (vs ++ [.ref f]) (us0 ++ [.ref f]) := rv.append (.cons rfl .nil)
    have hvl : (vs ++ [V.ref f]).length = qs.length := by rw [List.length_append, List.length_singleton, ← i.length, hn2, hn]
    obtain ⟨oc, od, kV, doc, pm2, an, cdv, ct, osl, rfl, lk, hcd⟩ := F.ex
    have rc : codeAny (model X.prog X.w) X.A (.call (.ref fa) ⟨us0 ++ [.ref f], []⟩) (CR (L2.CX X.prog X.w) X.stack X.prog X.w H2 s1 Q (fun cls d H' => W cls d σ H')) s1 := by
      have bt := hb s1 (us0 ++ [.ref f]) I2.kIn (by rw [List.append_nil, ← rv2.length]; exact hvl)
      rw [List.append_nil] at bt
      refine LamX.run_ofS (k := kG) lk hcd Sc (hr.mono hk1) I2.env0 bt rv2 hvl fun hr' => ?_
      have act := act_ok (Eg := fun cls d H' => W cls d σ H') (Ng := N) (qg := x) (sg := defScope st) (g := fa) (cdg := cdv) (l := M.length) (r := ρ ++ [f]) (Tb := W.Tb) I2 L la hdis (.snoc ρ f) (by rw [← rm.len]; simp) (rs.mono (.refl _) g12).s (fun us hl => hbind _ _ _ _ _ us hl) (hr'.mono hk2) fun A outer s' H' E' hr2 => hbody A outer s1 s' H' E' f c' hr2
      subst hm
      refine ⟨_, hS cdv X.A X.stack s1 H2 _ M.length (ρ ++ [f]) (lamA τ flam) hr' act, startA N.length (as ++ [A.obj M.length]), M ++ [Cell.obj], ρ ++ [f], ⟨.refl _, .refl _, start_ok i2 N⟩, rm2, ?_⟩
      have r2 := RE.mono r (.snoc ρ f) g12
      unfold defA at r2
      rw [hlen]
      cases eS : S M.length (lamA τ flam) (startA len (as ++ [.obj M.length])) (M ++ [.obj]) with
      | nx τ1 M1 => rw [eS] at r2; exact fun σ' H' ρ' x g m _ => r2 .non H' ρ' x g m .non
      | rt a M1 => rw [eS] at r2; exact r2
      | ex en τ1 M1 => rw [eS] at r2; exact fun c d σ' H' ρ' x g m _ ix => r2 c d H' ρ' x g m ix
      | bk τ1 M1 => rw [eS] at r2; exact r2.elim
      | ct τ1 M1 => rw [eS] at r2; exact r2.elim
      | bad => rw [eS] at r2; exact r2.elim
    refine wpAny_call (codeAny_mono rc fun r s2 hq => ?_)
    cases r with
    | error e => exact tk e s2 (XE.of_call I2 (fun _ _ _ h => h) hq)
    | ok fl =>
      cases fl with
      | ret u => exact I2.after hq
      | next => exact False.elim hq
      | brk => exact False.elim hq
      | cont => exact False.elim hq
  · exact r.elim
end
end AB
namespace AB
open PySem PySem.Spec PyProof.Rows L2
section
variable {P : Program} {w : World} {K : PySem.W.Frag} {mg : Str → Option Value} {Tb : Tbl} {base : Heap}
/-- where a def's lambdas lie -/
structure LamB (mg : Str → Option Value) (Tb : Tbl) (base : Heap) (fd : FuncData) (q : Str) (c P : Addr) : Prop where
  code : fd.code = .ref c
  tb : LamX.TabB base mg c P
  mem : (P, q) ∈ Tb
  un : ∀ p ∈ Tb, p.1 = P → p.2 = q
/-- a def that makes lambdas -/
theorem fn_AL {x : Str} {st : Stmt} {fa c Pt : Addr} {fd : FuncData} {N ps : List Str} {k : Nat} {s : SF} (F : Fun K x x st fa fd) (S : FnScope N ps (defScope st)) (B : LamB mg Tb base fd ((x ++ ".<locals>.") ++ "<lambda>") c Pt)
    (hbody : ∀ (cdv : Value) (A : Around) (outer : List Env) (s₀ : Shared) (H : Hp) (E : XK), Room k (A.deeper (envOfC x (defScope st) s₀.heap.objs.size fa cdv)) → LamI (cxOf (L2.CX P w) P w K mg base N x (defScope st) fa cdv A outer s₀ H E) Tb c Pt →
      ASs (cxOf (L2.CX P w) P w K mg base N x (defScope st) fa cdv A outer s₀ H E) ⟨fun cls d _ H => E cls d H, Tb, [], fun _ => none⟩ (defBody st) s) :
    FnOk P w K mg base (L2.CX P w) (k + 1) fa fd ps (spA ⟨mg, ⟨w, K, mg, Tb⟩⟩ ps.length (defA N.length s)) := by
  obtain ⟨oc, od, kV, doc, pm, an, cdv, ct, osl, rfl, lk, hcd⟩ := F.ex
  refine fn_of lk hcd S (fun vs H Q E h => ?_) fun A outer s₀ H vs Q E hr h => ⟨_, hbody cdv A outer s₀ H E hr ⟨B.code, B.tb, B.mem, B.un⟩, ?_⟩
  · obtain ⟨as, M, ρ, i, rm, hn, _⟩ := h
    rw [← i.length]; exact hn
  · obtain ⟨as, M, ρ, i, rm, hn, r⟩ := h
    refine ⟨startA N.length as, M, ρ, RS.base (E := E) (start_ok i N), rm, ?_⟩
    unfold defA at r
    cases e : s (startA N.length as) M with
    | nx τ M1 => rw [e] at r; exact fun σ' H' ρ' x g m _ => r .non H' ρ' x g m .non
    | rt a M1 => rw [e] at r; exact r
    | ex en τ M1 => rw [e] at r; exact fun c d σ' H' ρ' x g m _ ix => r c d H' ρ' x g m ix
    | bk τ M1 => rw [e] at r; exact r.elim
    | ct τ M1 => rw [e] at r; exact r.elim
    | bad => rw [e] at r; exact r.elim
/-- a def with defaults -/
theorem fn_AD {x qual : Str} {st : Stmt} {fa : Addr} {fd : FuncData} {N ps : List Str} {k : Nat} {s : SF} {dvs : List V} (F : FunD K x qual (defArgs st) (defBody st) (defScope st) dvs [] fa fd) (S : FnScope N ps (defScope st))
    (hbody : ∀ (cdv : Value) (A : Around) (outer : List Env) (s₀ : Shared) (H : Hp) (E : XK), Room k (A.deeper (envOfC qual (defScope st) s₀.heap.objs.size fa cdv)) →
      ASs (cxOf (L2.CX P w) P w K mg base N qual (defScope st) fa cdv A outer s₀ H E) ⟨fun cls d _ H => E cls d H, Tb, [], fun _ => none⟩ (defBody st) s) :
    FnOk P w K mg base (L2.CX P w) (k + 1) fa fd ps (spA ⟨mg, ⟨w, K, mg, Tb⟩⟩ ps.length (defA N.length s)) := by
  refine F.ok S (fun vs H Q E h => ?_) (fun cdv A outer s₀ H vs Q E hr h => ⟨_, hbody cdv A outer s₀ H E hr, ?_⟩)
  · obtain ⟨as, M, ρ, i, rm, hn, _⟩ := h
    rw [← i.length]; exact hn
  · obtain ⟨as, M, ρ, i, rm, hn, r⟩ := h
    refine ⟨startA N.length as, M, ρ, RS.base (E := E) (start_ok i N), rm, ?_⟩
    unfold defA at r
    cases e : s (startA N.length as) M with
    | nx τ M1 => rw [e] at r; exact fun σ' H' ρ' x g m _ => r .non H' ρ' x g m .non
    | rt a M1 => rw [e] at r; exact r
    | ex en τ M1 => rw [e] at r; exact fun c d σ' H' ρ' x g m _ ix => r c d H' ρ' x g m ix
    | bk τ M1 => rw [e] at r; exact r.elim
    | ct τ M1 => rw [e] at r; exact r.elim
    | bad => rw [e] at r; exact r.elim
end
section
variable {X : Cx} {W : WR} {pos : Pos}
/-- what slot i holds is called -/
theorem ae_act0 (i : Nat) {l n : Nat} {act : On'} {a : Str} {p1 : Pos} (ha : ActOk X W.Tb W.r W.h l n act) (tk : Takes X W.w) (hN : X.N[i]? = some a := by rfl) (hv : Vis X.env.scope a := by first | exact Or.inl rfl | exact Or.inr (Or.inl rfl) | exact Or.inr (Or.inr rfl))
    (hd : (a == ("__debug__" : Str)) = false := by decide) (hcd : (a == ("__classdict__" : Str)) = false := by decide) : AE X W (.Call (.Name a p1) [] [] pos) (eAct i l n act eNil) :=
  ha W X.pn X.xe a i p1 pos [] eNil rfl rfl rfl tk aa_nil hN hv hd hcd (.inl ⟨rfl, rfl⟩)
theorem ae_act (i : Nat) {l n : Nat} {act : On'} {a : Str} {p1 : Pos} {e : Expr} {es : List Expr} {fs : EFs} (ha : ActOk X W.Tb W.r W.h l n act) (tk : Takes X W.w) (h : AA X W (e :: es) fs) (hN : X.N[i]? = some a := by rfl) (hv : Vis X.env.scope a := by first | exact Or.inl rfl | exact Or.inr (Or.inl rfl) | exact Or.inr (Or.inr rfl))
    (hd : (a == ("__debug__" : Str)) = false := by decide) (hcd : (a == ("__classdict__" : Str)) = false := by decide)
    (he : starEach (e :: es) X.env = (false, eval e X.env) :: starEach es X.env := by rfl) (hpl : (backTo pos (starEach es X.env)).any (·.1) = false := by rfl) : AE X W (.Call (.Name a p1) (e :: es) [] pos) (eAct i l n act fs) :=
  ha W X.pn X.xe a i p1 pos (e :: es) fs rfl rfl rfl tk h hN hv hd hcd (.inr ⟨e, es, rfl, he, hpl⟩)
/-- .. in a try's body -/
theorem ae_actT0 (i : Nat) {l n : Nat} {act : On'} {a : Str} {p1 : Pos} {pn : List (Addr × Obj)} {xe : Value → Shared → Prop} (ha : ActOk X W.Tb W.r W.h l n act) (tk : Takes (X.tr pn xe) W.w) (hN : X.N[i]? = some a := by rfl) (hv : Vis X.env.scope a := by first | exact Or.inl rfl | exact Or.inr (Or.inl rfl) | exact Or.inr (Or.inr rfl))
    (hd : (a == ("__debug__" : Str)) = false := by decide) (hcd : (a == ("__classdict__" : Str)) = false := by decide) : AE (X.tr pn xe) W (.Call (.Name a p1) [] [] pos) (eAct i l n act eNil) :=
  ha W pn xe a i p1 pos [] eNil rfl rfl rfl tk aa_nil hN hv hd hcd (.inl ⟨rfl, rfl⟩)
end
end AB
/-! AB28: the end of a law over tables of code objects -/
namespace AB
open PySem PySem.Spec PyProof.Rows L2
/-- the code object of the def called x and its table, as the top has left them -/
def TabX (mg : Str → Option Value) (h : Heap) (x : Str) (f c P : Addr) : Prop :=
  ∃ (o : Obj) (fd : FuncData), mg x = some (.ref f) ∧ h.get? f = some o ∧ o.data = .func fd ∧ fd.code = .ref c ∧ PySem.W.CodeHd h c P ∧ h.get? P = some { cls := .none, data := .fields #[] }
theorem lookup_out {α : Type} {l : List (Addr × α)} {b : Addr} : (l.map (·.1)).contains b = false → l.lookup b = none := by
  induction l with
  | nil => intro _; rfl
  | cons p l ih =>
    obtain ⟨x, y⟩ := p
    intro h
    rw [List.map_cons, List.contains_cons, Bool.or_eq_false_iff] at h
    rw [List.lookup_cons, h.1]
    exact ih h.2
/-- what the head's part doesn't hold -/
theorem km_out {K : Params → PySem.W.Frag} {as : List Addr} {e : ∀ P, as = (K P).map (·.1)} {ts : List Addr} {w : World} {h : Heap} (Y : (PySem.W.kmHook K as e ts).says w h) {b : Addr} (hb : as.contains b = false) : (K w.params).lookup b = none :=
  lookup_out (by rw [← e w.params]; exact hb)
theorem walk_ofX {l : PySem.W.OpenLaw} {n k : Nat} {q : Program} {loose : List Str} {XP : (Str → Option Value) → Heap → Prop} {YP : World → Heap → Prop} {d : DefRec} {K : Params → PySem.W.Frag} {CX : World → CXT} {x : Str} (makers : List Str)
    (hn : l.most = some n) (hz : n ≤ sizeLine) (hdf : d.params.defaults = []) (hr : Room k callerA) (hmk : (makers.all fun y => (recsOf q).any fun e => e.name == y) = true) (hY : ∀ (w : World) (h : Heap), YP w h → (K w.params).In h)
    (F : ∀ (w : World) (mg : Str → Option Value) (fa : Addr) (h : Heap), YP w h → (K w.params).In h → h.Ns mainGlobals mg → mg d.name = some (.ref fa) → (∀ y ∈ makers, ∃ f c P, TabX mg h y f c P) → LamX.LawAtS l w (K w.params) (CX w) k n x mg fa h)
    (hCX : ∀ (w : World) (H : Hp) (s : Shared) (e : Value) (s' : Shared), CX w [] H s (fun _ _ _ => False) e s' → False) :
    PySem.W.WalkO q loose XP YP l.row.toRowW d [] (fun f vs => PySem.call f vs) := by
  refine Att.attach_callB hn hdf fun w z0 z1 mg mb fa ob pm cdv dc a vs ns Gr Yh h1 h2 h3 hfa h4 h5 h6 hbits h7 => ?_
  have inK := hY w _ Yh
  have found : ∀ y ∈ makers, ∃ f c P, TabX mg z1.heap y f c P := fun y hy => by
    obtain ⟨e, he, en⟩ := List.any_eq_true.mp (List.all_eq_true.mp hmk y hy)
    obtain ⟨f, of, fd, c, P, t1, t2, t3, t4, t5, t6⟩ := Gr.T.tab e he
    have ey : e.name = y := eq_of_beq en
    subst ey
    exact ⟨f, c, P, of, fd, t1, t2, t3, t4, .of t5 t6, t6.2⟩
  obtain ⟨fd, cs, sp, tb1, tb2, tb3, bd, sat, ok⟩ := F w mg fa _ Yh inK Gr.T.g hfa found
  exact LamX.law_callTs inK Gr.T.g Gr.T.b Gr.T.builtins Gr.T.nolimit h7 tb1 tb2 tb3 Gr.T.bmain h4 h5 (Nat.le_trans h6 hz) hr ok bd (fun H t1 t2 => sat H a ns h6 hbits t1 t2) fun H e s' => hCX w H z1 e s'
end AB
/-! AB29: backward steps for lambdas -/
namespace AB
open PySem PySem.Spec PyProof.Rows L2
section
variable {τ : Sl} {M : Store} {Q : A → Store → Prop}
theorem w_lam {n len : Nat} {S : Nat → On' → SF} {f : EF} {fs : EFs} (h : (fs τ M).W fun as M1 => as.length + 1 = n ∧ (defA len (S M1.length (lamA τ f)) (as ++ [.obj M1.length]) (M1 ++ [.obj])).W Q) : (eLam n len S f fs τ M).W Q :=
  w_bind (h.imp fun _ _ h => by rw [if_pos h.1]; exact h.2)
theorem w_act {i l n : Nat} {act : On'} {fs : EFs} (e : τ[i]? = some (some (.obj l))) (h : (fs τ M).W fun as M1 => as.length = n ∧ (act as M1).W Q) : (eAct i l n act fs τ M).W Q := by
  unfold eAct
  rw [e]
  dsimp only
  rw [if_pos rfl]
  exact w_bind (h.imp fun _ _ h => by rw [if_pos h.1]; exact h.2)
theorem w_lamA {f : EF} {as : List A} (h : (f (τ ++ as.map some) M).W Q) : (lamA τ f as M).W Q := h
end
end AB
namespace P09
open PySem PySem.Spec PyProof.Rows L2 AB
def topS (i : Nat) : Stmt := PySem.Challenge.pw_toldwhat_k09_whole_slips.main.body.getD i (.Pass ⟨0, 0, 0, 0⟩)
def tb_WORDS : List (Str × List Str) := [("end", ["put"]), ("ends", ["front", "put"]), ("stack", ["chop", "put"]), ("deque", ["behead", "chop", "front", "put"]), ("in", ["put"]), ("inout", ["put", "take"]), ("relabel", ["put", "turn"]), ("reverse", ["put", "turn"])]
structure Txt (w : World) (K : PySem.W.Frag) (mg : Str → Option Value) : Prop where
  b_all : mg "all" = none
  b_bool : mg "bool" = none
  b_enumerate : mg "enumerate" = none
  b_int : mg "int" = none
  b_isinstance : mg "isinstance" = none
  b_len : mg "len" = none
  b_list : mg "list" = none
  b_range : mg "range" = none
  b_set : mg "set" = none
  b_sorted : mg "sorted" = none
  b_str : mg "str" = none
  b_tuple : mg "tuple" = none
  c_MOST_ANSWER : ∃ t, mg "MOST_ANSWER" = some (.int 3 t)
  c_MOST_LETTERS : ∃ t, mg "MOST_LETTERS" = some (.int 3 t)
  c_MOST_MEMORIES : ∃ t, mg "MOST_MEMORIES" = some (.int 3000 t)
  c_MOST_MESSAGES : ∃ t, mg "MOST_MESSAGES" = some (.int 100 t)
  g_WORDS : ∃ a, mg "WORDS" = some (.ref a) ∧ KTab K w a tb_WORDS
  p_permutations : mg "permutations" = some (.type "itertools.permutations")
section
variable {P : Program} {w : World} {K : PySem.W.Frag} {mg : Str → Option Value} {Tb : Tbl} {base : Heap}
abbrev s_law_taken : Stmt := topS 35
theorem sc_law_taken : FnScope ["row", "many", "cell", "found"] ["row", "many"] (defScope s_law_taken) := ⟨rfl, rfl, rfl, by decide +kernel, rfl, by decide +kernel, by decide +kernel⟩
def S_law_taken : SF :=
  (sSeq (sIf (eB (eOp oGt (eOp oIx (eVar 0) (eC (.int 3))) (eC (.int 0)))) (sSeq (sAsg (.nm 3) (eOp oMod (eFn oInt1 (eCons (eOp oIx (eVar 0) (eC (.int 3))) eNil)) (eVar 1)))
    (sSeq (sSetL (eVar 0) (eC (.int 3)) (eOp oFdiv (eOp oIx (eVar 0) (eC (.int 3))) (eVar 1)))
    (sSeq (sRet (eVar 3))
    sNil))) sNil)
    (sSeq (sSetL (eVar 0) (eC (.int 1)) (eOp oAdd (eOp oIx (eVar 0) (eC (.int 1))) (eC (.int 1))))
    (sSeq (sIf (eB (eOp oGt (eOp oIx (eVar 0) (eC (.int 1))) (eFn oLenN (eCons (eOp oIx (eVar 0) (eC (.int 0))) eNil)))) (sSeq (sSetL (eVar 0) (eC (.int 2)) (eOp oMod (eFn oInt1 (eCons (eOp oAdd (eOp oMul (eOp oIx (eVar 0) (eC (.int 2))) (eC (.int 48271))) (eC (.int 11))) eNil)) (eC (.int 2147483647))))
    (sSeq (sRet (eOp oMod (eFn oInt1 (eCons (eOp oFdiv (eOp oIx (eVar 0) (eC (.int 2))) (eC (.int 7))) eNil)) (eVar 1)))
    sNil)) sNil)
    (sSeq (sAsg (.nm 2) (eOp oIx (eOp oIx (eVar 0) (eC (.int 0))) (eOp oSub (eOp oIx (eVar 0) (eC (.int 1))) (eC (.int 1)))))
    (sSeq (sSetL (eVar 0) (eC (.int 2)) (eOp oMod (eFn oInt1 (eCons (eOp oAdd (eOp oAdd (eOp oMul (eOp oIx (eVar 0) (eC (.int 2))) (eC (.int 48271))) (eVar 2)) (eC (.int 11))) eNil)) (eC (.int 2147483647))))
    (sSeq (sIf (eB (eOp oGe (eVar 2) (eOp oPow (eC (.int 10)) (eC (.int 18))))) (sSeq (sSetL (eVar 0) (eC (.int 3)) (eOp oFdiv (eVar 2) (eVar 1)))
    sNil) sNil)
    (sSeq (sRet (eOp oMod (eFn oInt1 (eCons (eVar 2) eNil)) (eVar 1)))
    sNil)))))))
def F_law_taken : On' := defA 4 S_law_taken
set_option maxHeartbeats 16000000 in
theorem ok_law_taken {fa : Addr} {fd : FuncData} (T : Txt w K mg)  (F : Fun K "_law_taken" "_law_taken" s_law_taken fa fd) (hm : mg "_law_taken" = some (.ref fa)) : FnX P w K mg Tb base "_law_taken" 1 2 F_law_taken := by
  refine ⟨fa, fd, ["row", "many"], fn_A (k := 0) F sc_law_taken (fun cdv A outer s₀ H E hr => ?_), hm, F.kp, F.binds (ps := ["row", "many"]) fun _ _ _ _ _ _ us hl => match us, hl with | [_, _], _ => rfl⟩
  unfold S_law_taken
  exact (ass_cons (as_if (at_cmp (op_gtA) (ae_ix (ae_v 0) ae_int) ae_int) (ass_cons (as_set 3 sc_law_taken.nd (ae_op op_modA (ae_Ty cr_int T.b_int (aa_cons (ae_ix (ae_v 0) ae_int) aa_nil)) (ae_v 1)))
    (ass_cons (as_setL (ae_v 0) ae_int (ae_op op_fdivA (ae_ix (ae_v 0) ae_int) (ae_v 1)))
    (ass_cons (as_ret (ae_v 3))
    ass_nil))) ass_nil)
    (ass_cons (as_setL (ae_v 0) ae_int (ae_op op_addA (ae_ix (ae_v 0) ae_int) ae_int))
    (ass_cons (as_if (at_cmp (op_gtA) (ae_ix (ae_v 0) ae_int) (ae_B cr_lenN T.b_len (aa_cons (ae_ix (ae_v 0) ae_int) aa_nil))) (ass_cons (as_setL (ae_v 0) ae_int (ae_op op_modA (ae_Ty cr_int T.b_int (aa_cons (ae_op op_addA (ae_op op_mulA (ae_ix (ae_v 0) ae_int) ae_int) ae_int) aa_nil)) ae_int))
    (ass_cons (as_ret (ae_op op_modA (ae_Ty cr_int T.b_int (aa_cons (ae_op op_fdivA (ae_ix (ae_v 0) ae_int) ae_int) aa_nil)) (ae_v 1)))
    ass_nil)) ass_nil)
    (ass_cons (as_set 2 sc_law_taken.nd (ae_ix (ae_ix (ae_v 0) ae_int) (ae_op op_subA (ae_ix (ae_v 0) ae_int) ae_int)))
    (ass_cons (as_setL (ae_v 0) ae_int (ae_op op_modA (ae_Ty cr_int T.b_int (aa_cons (ae_op op_addA (ae_op op_addA (ae_op op_mulA (ae_ix (ae_v 0) ae_int) ae_int) (ae_v 2)) ae_int) aa_nil)) ae_int))
    (ass_cons (as_if (at_cmp (op_geA) (ae_v 2) (ae_op op_powA ae_int ae_int)) (ass_cons (as_setL (ae_v 0) ae_int (ae_op op_fdivA (ae_v 2) (ae_v 1)))
    ass_nil) ass_nil)
    (ass_cons (as_ret (ae_op op_modA (ae_Ty cr_int T.b_int (aa_cons (ae_v 2) aa_nil)) (ae_v 1)))
    ass_nil)))))))
abbrev s_law_pick : Stmt := topS 36
theorem sc_law_pick : FnScope ["row", "things"] ["row", "things"] (defScope s_law_pick) := ⟨rfl, rfl, rfl, by decide +kernel, rfl, by decide +kernel, by decide +kernel⟩
def S_law_pick : SF :=
  (sSeq (sRet (eOp oIx (eVar 1) (eCall 2 F_law_taken (eCons (eVar 0) (eCons (eFn oLenN (eCons (eVar 1) eNil)) eNil)))))
    sNil)
def F_law_pick : On' := defA 2 S_law_pick
set_option maxHeartbeats 16000000 in
theorem ok_law_pick {fa : Addr} {fd : FuncData} (T : Txt w K mg) (G_law_taken : FnX P w K mg Tb base "_law_taken" 1 2 F_law_taken) (F : Fun K "_law_pick" "_law_pick" s_law_pick fa fd) (hm : mg "_law_pick" = some (.ref fa)) : FnX P w K mg Tb base "_law_pick" 2 2 F_law_pick := by
  refine ⟨fa, fd, ["row", "things"], fn_A (k := 1) F sc_law_pick (fun cdv A outer s₀ H E hr => ?_), hm, F.kp, F.binds (ps := ["row", "things"]) fun _ _ _ _ _ _ us hl => match us, hl with | [_, _], _ => rfl⟩
  unfold S_law_pick
  exact (ass_cons (as_ret (ae_ix (ae_v 1) (ae_callX G_law_taken (hr.mono (by first | decide | omega)) (takes_of rfl rfl rfl rfl) (aa_cons (ae_v 0) (aa_cons (ae_B cr_lenN T.b_len (aa_cons (ae_v 1) aa_nil)) aa_nil)))))
    ass_nil)
abbrev s_law_world : Stmt := topS 37
theorem sc_law_world : FnScope ["row", "some"] ["row"] (defScope s_law_world) := ⟨rfl, rfl, rfl, by decide +kernel, rfl, by decide +kernel, by decide +kernel⟩
def S_law_world : SF :=
  (sSeq (sAsg (.nm 1) (eLst (eCons (eC (.str (Str.ofString "end"))) (eCons (eC (.str (Str.ofString "ends"))) (eCons (eC (.str (Str.ofString "stack"))) (eCons (eC (.str (Str.ofString "deque"))) (eCons (eC (.str (Str.ofString "in"))) (eCons (eC (.str (Str.ofString "inout"))) (eCons (eC (.str (Str.ofString "relabel"))) (eCons (eC (.str (Str.ofString "reverse"))) eNil))))))))))
    (sSeq (sRet (eCall 2 F_law_pick (eCons (eVar 0) (eCons (eOp oAdd (eVar 1) (eLst (eCons (eC (.str (Str.ofString "inout"))) (eCons (eC (.str (Str.ofString "in"))) (eCons (eC (.str (Str.ofString "stack"))) eNil))))) eNil))))
    sNil))
def F_law_world : On' := defA 2 S_law_world
set_option maxHeartbeats 16000000 in
theorem ok_law_world {fa : Addr} {fd : FuncData} (T : Txt w K mg) (G_law_pick : FnX P w K mg Tb base "_law_pick" 2 2 F_law_pick) (F : Fun K "_law_world" "_law_world" s_law_world fa fd) (hm : mg "_law_world" = some (.ref fa)) : FnX P w K mg Tb base "_law_world" 3 1 F_law_world := by
  refine ⟨fa, fd, ["row"], fn_A (k := 2) F sc_law_world (fun cdv A outer s₀ H E hr => ?_), hm, F.kp, F.binds (ps := ["row"]) fun _ _ _ _ _ _ us hl => match us, hl with | [_], _ => rfl⟩
  unfold S_law_world
  exact (ass_cons (as_set 1 sc_law_world.nd (ae_lst (aa_cons ae_str (aa_cons ae_str (aa_cons ae_str (aa_cons ae_str (aa_cons ae_str (aa_cons ae_str (aa_cons ae_str (aa_cons ae_str aa_nil))))))))))
    (ass_cons (as_ret (ae_callX G_law_pick (hr.mono (by first | decide | omega)) (takes_of rfl rfl rfl rfl) (aa_cons (ae_v 0) (aa_cons (ae_op op_addA (ae_v 1) (ae_lst (aa_cons ae_str (aa_cons ae_str (aa_cons ae_str aa_nil))))) aa_nil))))
    ass_nil))
abbrev s_law_orders : Stmt := topS 38
theorem sc_law_orders : FnScope ["many", "found", "turn", "longer", "row", "one"] ["many"] (defScope s_law_orders) := ⟨rfl, rfl, rfl, by decide +kernel, rfl, by decide +kernel, by decide +kernel⟩
def S_law_orders : SF :=
  (sSeq (sAsg (.nm 1) (eLst (eCons (eTup eNil) eNil)))
    (sSeq (sFor (iRng1 (eCons (eVar 0) eNil)) (.nm 2) (sSeq (sAsg (.nm 3) (eLst eNil))
    (sSeq (sFor (iSeq (eVar 1)) (.nm 4) (sSeq (sAsg (.nm 3) (eOp oAdd (eVar 3) (eLc (iRng1 (eCons (eVar 0) eNil)) (.nm 5) (eB (eOp oNotIn (eVar 5) (eVar 4))) (eOp oAdd (eVar 4) (eTup (eCons (eVar 5) eNil))) [5])))
    sNil))
    (sSeq (sAsg (.nm 1) (eVar 3))
    sNil))))
    (sSeq (sRet (eFn oSortM (eCons (eVar 1) eNil)))
    sNil)))
def F_law_orders : On' := defA 6 S_law_orders
set_option maxHeartbeats 16000000 in
theorem ok_law_orders {fa : Addr} {fd : FuncData} (T : Txt w K mg)  (F : Fun K "_law_orders" "_law_orders" s_law_orders fa fd) (hm : mg "_law_orders" = some (.ref fa)) : FnX P w K mg Tb base "_law_orders" 1 1 F_law_orders := by
  refine ⟨fa, fd, ["many"], fn_A (k := 0) F sc_law_orders (fun cdv A outer s₀ H E hr => ?_), hm, F.kp, F.binds (ps := ["many"]) fun _ _ _ _ _ _ us hl => match us, hl with | [_], _ => rfl⟩
  unfold S_law_orders
  exact (ass_cons (as_set 1 sc_law_orders.nd (ae_lst (aa_cons (ae_tup aa_nil) aa_nil)))
    (ass_cons (as_for (passes_of rfl) rfl (ai_rng1 T.b_range (aa_cons (ae_v 0) aa_nil)) (ag_nm 2 sc_law_orders.nd) (ass_cons (as_set 3 sc_law_orders.nd (ae_lst aa_nil))
    (ass_cons (as_for (passes_of rfl) rfl (ai_seq (ae_v 1)) (ag_nm 4 sc_law_orders.nd) (ass_cons (as_set 3 sc_law_orders.nd (ae_op op_addA (ae_v 3) (ae_lc [("one", 5)] rfl sc_law_orders.nd (blkOk_by rfl) (by decide) (ai_rng1 T.b_range (aa_cons (ae_v 0) aa_nil)) (fun _ _ _ _ _ => (ag_nm 5 sc_law_orders.nd)) (fun _ _ _ _ _ => (ats_one (at_cmp (op_notInA (hu65 hr)) (ae_v 5) (ae_v 4)))) (fun _ _ _ _ _ => (ae_op op_addA (ae_v 4) (ae_tup (aa_cons (ae_v 5) aa_nil)))))))
    ass_nil))
    (ass_cons (as_set 1 sc_law_orders.nd (ae_v 3))
    ass_nil))))
    (ass_cons (as_ret (ae_B (cr_sortM (hu64 hr)) T.b_sorted (aa_cons (ae_v 1) aa_nil)))
    ass_nil)))
abbrev s_law_messages : Stmt := topS 39
theorem sc_law_messages : FnScope ["world", "letters", "kinds", "found", "kind", "letter", "order"] ["world", "letters"] (defScope s_law_messages) := ⟨rfl, rfl, rfl, by decide +kernel, rfl, by decide +kernel, by decide +kernel⟩
def S_law_messages : SF :=
  (sSeq (sAsg (.nm 2) (eDispN (pCons (eC (.str (Str.ofString "ends"))) (eLst (eCons (eC (.str (Str.ofString "front"))) eNil)) (pCons (eC (.str (Str.ofString "stack"))) (eLst (eCons (eC (.str (Str.ofString "chop"))) eNil)) (pCons (eC (.str (Str.ofString "deque"))) (eLst (eCons (eC (.str (Str.ofString "behead"))) (eCons (eC (.str (Str.ofString "chop"))) (eCons (eC (.str (Str.ofString "front"))) eNil)))) (pCons (eC (.str (Str.ofString "inout"))) (eLst (eCons (eC (.str (Str.ofString "take"))) eNil)) pNil))))))
    (sSeq (sAsg (.nm 3) (eLst eNil))
    (sSeq (sFor (iSeq (eOp oAdd (eGet2 (eVar 2) (eVar 0) (eLst eNil)) (eLst (eCons (eC (.str (Str.ofString "put"))) eNil)))) (.nm 4) (sSeq (sAsg (.nm 3) (eOp oAdd (eVar 3) (eLc (iRng1 (eCons (eVar 1) eNil)) (.nm 5) bYes (eTup (eCons (eVar 4) (eCons (eVar 5) eNil))) [5])))
    sNil))
    (sSeq (sIf (eB (eOp oEq (eVar 0) (eC (.str (Str.ofString "relabel"))))) (sSeq (sAsg (.nm 3) (eOp oAdd (eVar 3) (eLc (iSeq (eCall 1 F_law_orders (eCons (eVar 1) eNil))) (.nm 6) bYes (eTup (eCons (eC (.str (Str.ofString "turn"))) (eCons (eVar 6) eNil))) [6])))
    sNil) sNil)
    (sSeq (sIf (eB (eOp oEq (eVar 0) (eC (.str (Str.ofString "reverse"))))) (sSeq (sExpr (eMeth oAppend (eVar 3) (eCons (eTup (eCons (eC (.str (Str.ofString "turn"))) eNil)) eNil)))
    sNil) sNil)
    (sSeq (sRet (eFn oSortM (eCons (eVar 3) eNil)))
    sNil))))))
def F_law_messages : On' := defA 7 S_law_messages
set_option maxHeartbeats 16000000 in
theorem ok_law_messages {fa : Addr} {fd : FuncData} (T : Txt w K mg) (G_law_orders : FnX P w K mg Tb base "_law_orders" 1 1 F_law_orders) (F : Fun K "_law_messages" "_law_messages" s_law_messages fa fd) (hm : mg "_law_messages" = some (.ref fa)) : FnX P w K mg Tb base "_law_messages" 2 2 F_law_messages := by
  refine ⟨fa, fd, ["world", "letters"], fn_A (k := 1) F sc_law_messages (fun cdv A outer s₀ H E hr => ?_), hm, F.kp, F.binds (ps := ["world", "letters"]) fun _ _ _ _ _ _ us hl => match us, hl with | [_, _], _ => rfl⟩
  unfold S_law_messages
  exact (ass_cons (as_set 2 sc_law_messages.nd (ae_dispN (aps_cons ae_str (ae_lst (aa_cons ae_str aa_nil)) (aps_cons ae_str (ae_lst (aa_cons ae_str aa_nil)) (aps_cons ae_str (ae_lst (aa_cons ae_str (aa_cons ae_str (aa_cons ae_str aa_nil)))) (aps_cons ae_str (ae_lst (aa_cons ae_str aa_nil)) aps_nil))))))
    (ass_cons (as_set 3 sc_law_messages.nd (ae_lst aa_nil))
    (ass_cons (as_for (passes_of rfl) rfl (ai_seq (ae_op op_addA (ae_get2 (hu1 hr) (ae_v 2) (ae_v 0) (ae_lst aa_nil)) (ae_lst (aa_cons ae_str aa_nil)))) (ag_nm 4 sc_law_messages.nd) (ass_cons (as_set 3 sc_law_messages.nd (ae_op op_addA (ae_v 3) (ae_lc [("letter", 5)] rfl sc_law_messages.nd (blkOk_by rfl) (by decide) (ai_rng1 T.b_range (aa_cons (ae_v 1) aa_nil)) (fun _ _ _ _ _ => (ag_nm 5 sc_law_messages.nd)) (fun _ _ _ _ _ => ats_nil) (fun _ _ _ _ _ => (ae_tup (aa_cons (ae_v 4) (aa_cons (ae_v 5) aa_nil)))))))
    ass_nil))
    (ass_cons (as_if (at_cmp (op_eqA (hu64 hr)) (ae_v 0) ae_str) (ass_cons (as_set 3 sc_law_messages.nd (ae_op op_addA (ae_v 3) (ae_lc [("order", 6)] rfl sc_law_messages.nd (blkOk_by rfl) (by decide) (ai_seq (ae_callX G_law_orders (hr.mono (by first | decide | omega)) (takes_of rfl rfl rfl rfl) (aa_cons (ae_v 1) aa_nil))) (fun _ _ _ _ _ => (ag_nm 6 sc_law_messages.nd)) (fun _ _ _ _ _ => ats_nil) (fun _ _ _ _ _ => (ae_tup (aa_cons ae_str (aa_cons (ae_v 6) aa_nil)))))))
    ass_nil) ass_nil)
    (ass_cons (as_if (at_cmp (op_eqA (hu64 hr)) (ae_v 0) ae_str) (ass_cons (as_expr (ae_append (ae_v 3) (aa_cons (ae_tup (aa_cons ae_str aa_nil)) aa_nil)))
    ass_nil) ass_nil)
    (ass_cons (as_ret (ae_B (cr_sortM (hu64 hr)) T.b_sorted (aa_cons (ae_v 3) aa_nil)))
    ass_nil))))))
abbrev s_law_alike : Stmt := topS 40
theorem sc_law_alike : FnScope ["found", "due", "k"] ["found", "due"] (defScope s_law_alike) := ⟨rfl, rfl, rfl, by decide +kernel, rfl, by decide +kernel, by decide +kernel⟩
def S_law_alike (R_law_alike : On') : SF :=
  (sSeq (sIf (eT (eFn oIsi (eCons (eVar 1) (eCons (eTup (eCons (eC (.ty "tuple")) (eCons (eC (.ty "list")) eNil))) eNil)))) (sSeq (sIf (bOr (bNot (eT (eFn oIsi (eCons (eVar 0) (eCons (eTup (eCons (eC (.ty "tuple")) (eCons (eC (.ty "list")) eNil))) eNil))))) (eB (eOp oNe (eFn oIsi (eCons (eVar 0) (eCons (eC (.ty "list")) eNil))) (eFn oIsi (eCons (eVar 1) (eCons (eC (.ty "list")) eNil)))))) (sSeq (sRet (eC (.bl false)))
    sNil) sNil)
    (sSeq (sIf (eB (eOp oNe (eFn oLenN (eCons (eVar 0) eNil)) (eFn oLenN (eCons (eVar 1) eNil)))) (sSeq (sRet (eC (.bl false)))
    sNil) sNil)
    (sSeq (sRet (eOp oEq (eLc (iRng1 (eCons (eFn oLenN (eCons (eVar 1) eNil)) eNil)) (.nm 2) (bNot (eT (eCall 2 R_law_alike (eCons (eOp oIx (eVar 0) (eVar 2)) (eCons (eOp oIx (eVar 1) (eVar 2)) eNil))))) (eVar 2) [2]) (eLst eNil)))
    sNil))) sNil)
    (sSeq (sIf (bOr (eB (eOp oIs (eVar 1) (eC .non))) (eT (eFn oIsi (eCons (eVar 1) (eCons (eC (.ty "str")) eNil))))) (sSeq (sRet (eAnd (eOp oEq (eVar 0) (eVar 1)) (eOp oEq (eFn oIsi (eCons (eVar 0) (eCons (eC (.ty "str")) eNil))) (eFn oIsi (eCons (eVar 1) (eCons (eC (.ty "str")) eNil))))))
    sNil) sNil)
    (sSeq (sRet (eAnd (eFn oIsi (eCons (eVar 0) (eCons (eC (.ty "int")) eNil))) (eAnd (eOp oEq (eFn oIsi (eCons (eVar 0) (eCons (eC (.ty "bool")) eNil))) (eFn oIsi (eCons (eVar 1) (eCons (eC (.ty "bool")) eNil)))) (eOp oEq (eVar 0) (eVar 1)))))
    sNil)))
def F_law_alike : Nat → On'
  | 0 => fun _ _ => .bad
  | n + 1 => defA 3 (S_law_alike (F_law_alike n))
set_option maxHeartbeats 16000000 in
theorem ok_law_alike {fa : Addr} {fd : FuncData} (T : Txt w K mg)  (F : Fun K "_law_alike" "_law_alike" s_law_alike fa fd) (hm : mg "_law_alike" = some (.ref fa)) : ∀ n, FnX P w K mg Tb base "_law_alike" (0 + n) 2 (F_law_alike n)
  | 0 => ⟨fa, fd, ["found", "due"], fn_bad, hm, F.kp, F.binds (ps := ["found", "due"]) fun _ _ _ _ _ _ us hl => match us, hl with | [_, _], _ => rfl⟩
  | n + 1 => by
    have G_law_alike := ok_law_alike T  F hm n
    refine ⟨fa, fd, ["found", "due"], fn_A (k := 0 + n) F sc_law_alike (fun cdv A outer s₀ H E hr => ?_), hm, F.kp, F.binds (ps := ["found", "due"]) fun _ _ _ _ _ _ us hl => match us, hl with | [_, _], _ => rfl⟩
    unfold S_law_alike
    exact (ass_cons (as_if (at_val (ae_B cr_isi T.b_isinstance (aa_cons (ae_v 1) (aa_cons (ae_tup (aa_cons (ae_type T.b_tuple) (aa_cons (ae_type T.b_list) aa_nil))) aa_nil)))) (ass_cons (as_if (AW.at (aw_or (at_not (at_val (ae_B cr_isi T.b_isinstance (aa_cons (ae_v 0) (aa_cons (ae_tup (aa_cons (ae_type T.b_tuple) (aa_cons (ae_type T.b_list) aa_nil))) aa_nil))))) (aw_or1 (at_cmp (op_neA (hu64 hr)) (ae_B cr_isi T.b_isinstance (aa_cons (ae_v 0) (aa_cons (ae_type T.b_list) aa_nil))) (ae_B cr_isi T.b_isinstance (aa_cons (ae_v 1) (aa_cons (ae_type T.b_list) aa_nil))))))) (ass_cons (as_ret ae_bl)
    ass_nil) ass_nil)
    (ass_cons (as_if (at_cmp (op_neA (hu64 hr)) (ae_B cr_lenN T.b_len (aa_cons (ae_v 0) aa_nil)) (ae_B cr_lenN T.b_len (aa_cons (ae_v 1) aa_nil))) (ass_cons (as_ret ae_bl)
    ass_nil) ass_nil)
    (ass_cons (as_ret (ae_cmp (op_eqA (hu64 hr)) (ae_lc [("k", 2)] rfl sc_law_alike.nd (blkOk_by rfl) (by decide) (ai_rng1 T.b_range (aa_cons (ae_B cr_lenN T.b_len (aa_cons (ae_v 1) aa_nil)) aa_nil)) (fun _ _ _ _ _ => (ag_nm 2 sc_law_alike.nd)) (fun _ _ _ _ _ => (ats_one (at_not (at_val (ae_callX G_law_alike (hr.mono (by omega)) takes0 (aa_cons (ae_ix (ae_v 0) (ae_v 2)) (aa_cons (ae_ix (ae_v 1) (ae_v 2)) aa_nil))))))) (fun _ _ _ _ _ => (ae_v 2))) (ae_lst aa_nil)))
    ass_nil))) ass_nil)
    (ass_cons (as_if (AW.at (aw_or (at_cmp (op_isA) (ae_v 1) ae_non) (aw_or1 (at_val (ae_B cr_isi T.b_isinstance (aa_cons (ae_v 1) (aa_cons (ae_type T.b_str) aa_nil))))))) (ass_cons (as_ret (ae_and (ae_cmp (op_eqA (hu64 hr)) (ae_v 0) (ae_v 1)) (ae_one (ae_cmp (op_eqA (hu64 hr)) (ae_B cr_isi T.b_isinstance (aa_cons (ae_v 0) (aa_cons (ae_type T.b_str) aa_nil))) (ae_B cr_isi T.b_isinstance (aa_cons (ae_v 1) (aa_cons (ae_type T.b_str) aa_nil)))))))
    ass_nil) ass_nil)
    (ass_cons (as_ret (ae_and (ae_B cr_isi T.b_isinstance (aa_cons (ae_v 0) (aa_cons (ae_type T.b_int) aa_nil))) (ae_and (ae_cmp (op_eqA (hu64 hr)) (ae_B cr_isi T.b_isinstance (aa_cons (ae_v 0) (aa_cons (ae_type T.b_bool) aa_nil))) (ae_B cr_isi T.b_isinstance (aa_cons (ae_v 1) (aa_cons (ae_type T.b_bool) aa_nil)))) (ae_one (ae_cmp (op_eqA (hu64 hr)) (ae_v 0) (ae_v 1))))))
    ass_nil)))
abbrev s_check_world : Stmt := topS 16
theorem sc_check_world : FnScope ["world"] ["world"] (defScope s_check_world) := ⟨rfl, rfl, rfl, by decide +kernel, rfl, by decide +kernel, by decide +kernel⟩
def S_check_world : SF :=
  (sSeq (sIf (bOr (bNot (eT (eFn oIsi (eCons (eVar 0) (eCons (eC (.ty "str")) eNil))))) (eB (eInT true tb_WORDS (eVar 0)))) sBad sNil)
    sNil)
def F_check_world : On' := defA 1 S_check_world
set_option maxHeartbeats 16000000 in
theorem ok_check_world {fa : Addr} {fd : FuncData} (T : Txt w K mg)  (F : Fun K "check_world" "check_world" s_check_world fa fd) (hm : mg "check_world" = some (.ref fa)) : FnX P w K mg Tb base "check_world" 1 1 F_check_world := by
  refine ⟨fa, fd, ["world"], fn_A (k := 0) F sc_check_world (fun cdv A outer s₀ H E hr => ?_), hm, F.kp, F.binds (ps := ["world"]) fun _ _ _ _ _ _ us hl => match us, hl with | [_], _ => rfl⟩
  unfold S_check_world
  exact (ass_cons (as_if (AW.at (aw_or (at_not (at_val (ae_B cr_isi T.b_isinstance (aa_cons (ae_v 0) (aa_cons (ae_type T.b_str) aa_nil))))) (aw_or1 (at_ninT T.g_WORDS.choose_spec.1 T.g_WORDS.choose_spec.2 (ae_v 0))))) ass_never ass_nil)
    ass_nil)
abbrev s_is_number : Stmt := topS 10
theorem sc_is_number : FnScope ["value", "low", "high"] ["value", "low", "high"] (defScope s_is_number) := ⟨rfl, rfl, rfl, by decide +kernel, rfl, by decide +kernel, by decide +kernel⟩
def S_is_number : SF :=
  (sSeq (sRet (eAnd (eFn oIsi (eCons (eVar 0) (eCons (eC (.ty "int")) eNil))) (eAnd (eNot (eFn oIsi (eCons (eVar 0) (eCons (eC (.ty "bool")) eNil)))) (eChain oLe oLe (eVar 1) (eVar 0) (eVar 2)))))
    sNil)
def F_is_number : On' := defA 3 S_is_number
set_option maxHeartbeats 16000000 in
theorem ok_is_number {fa : Addr} {fd : FuncData} (T : Txt w K mg)  (F : Fun K "is_number" "is_number" s_is_number fa fd) (hm : mg "is_number" = some (.ref fa)) : FnX P w K mg Tb base "is_number" 1 3 F_is_number := by
  refine ⟨fa, fd, ["value", "low", "high"], fn_A (k := 0) F sc_is_number (fun cdv A outer s₀ H E hr => ?_), hm, F.kp, F.binds (ps := ["value", "low", "high"]) fun _ _ _ _ _ _ us hl => match us, hl with | [_, _, _], _ => rfl⟩
  unfold S_is_number
  exact (ass_cons (as_ret (ae_and (ae_B cr_isi T.b_isinstance (aa_cons (ae_v 0) (aa_cons (ae_type T.b_int) aa_nil))) (ae_and (ae_not (ae_B cr_isi T.b_isinstance (aa_cons (ae_v 0) (aa_cons (ae_type T.b_bool) aa_nil)))) (ae_one (ae_chain (op_leA) (op_leA) (ae_v 1) (ae_v 0) (ae_v 2))))))
    ass_nil)
abbrev s_check_letters : Stmt := topS 12
theorem sc_check_letters : FnScope ["letters"] ["letters"] (defScope s_check_letters) := ⟨rfl, rfl, rfl, by decide +kernel, rfl, by decide +kernel, by decide +kernel⟩
def S_check_letters : SF :=
  (sSeq (sIf (bNot (eT (eCall 3 F_is_number (eCons (eVar 0) (eCons (eC (.int 1)) (eCons (eC (.int 3)) eNil)))))) sBad sNil)
    sNil)
def F_check_letters : On' := defA 1 S_check_letters
set_option maxHeartbeats 16000000 in
theorem ok_check_letters {fa : Addr} {fd : FuncData} (T : Txt w K mg) (G_is_number : FnX P w K mg Tb base "is_number" 1 3 F_is_number) (F : Fun K "check_letters" "check_letters" s_check_letters fa fd) (hm : mg "check_letters" = some (.ref fa)) : FnX P w K mg Tb base "check_letters" 2 1 F_check_letters := by
  refine ⟨fa, fd, ["letters"], fn_A (k := 1) F sc_check_letters (fun cdv A outer s₀ H E hr => ?_), hm, F.kp, F.binds (ps := ["letters"]) fun _ _ _ _ _ _ us hl => match us, hl with | [_], _ => rfl⟩
  unfold S_check_letters
  exact (ass_cons (as_if (at_not (at_val (ae_callX G_is_number (hr.mono (by first | decide | omega)) (takes_of rfl rfl rfl rfl) (aa_cons (ae_v 0) (aa_cons ae_int (aa_cons (ae_glob T.c_MOST_LETTERS.choose_spec (fun _ _ => .int 3) ⟨_, rfl⟩) aa_nil)))))) ass_never ass_nil)
    ass_nil)
abbrev s_are_numbers : Stmt := topS 11
theorem sc_are_numbers : FnScope ["value", "many", "high", "number"] ["value", "many", "high"] (defScope s_are_numbers) := ⟨rfl, rfl, rfl, by decide +kernel, rfl, by decide +kernel, by decide +kernel⟩
def S_are_numbers : SF :=
  (sSeq (sIf (bOr (bNot (eT (eFn oIsi (eCons (eVar 0) (eCons (eC (.ty "tuple")) eNil))))) (eB (eOp oNe (eFn oLenN (eCons (eVar 0) eNil)) (eVar 1)))) (sSeq (sRet (eC (.bl false)))
    sNil) sNil)
    (sSeq (sRet (eFn oAll (eCons (eLc (iSeq (eVar 0)) (.nm 3) bYes (eCall 3 F_is_number (eCons (eVar 3) (eCons (eC (.int 0)) (eCons (eVar 2) eNil)))) [3]) eNil)))
    sNil))
def F_are_numbers : On' := defA 4 S_are_numbers
set_option maxHeartbeats 16000000 in
theorem ok_are_numbers {fa : Addr} {fd : FuncData} (T : Txt w K mg) (G_is_number : FnX P w K mg Tb base "is_number" 1 3 F_is_number) (F : Fun K "are_numbers" "are_numbers" s_are_numbers fa fd) (hm : mg "are_numbers" = some (.ref fa)) : FnX P w K mg Tb base "are_numbers" 2 3 F_are_numbers := by
  refine ⟨fa, fd, ["value", "many", "high"], fn_A (k := 1) F sc_are_numbers (fun cdv A outer s₀ H E hr => ?_), hm, F.kp, F.binds (ps := ["value", "many", "high"]) fun _ _ _ _ _ _ us hl => match us, hl with | [_, _, _], _ => rfl⟩
  unfold S_are_numbers
  exact (ass_cons (as_if (AW.at (aw_or (at_not (at_val (ae_B cr_isi T.b_isinstance (aa_cons (ae_v 0) (aa_cons (ae_type T.b_tuple) aa_nil))))) (aw_or1 (at_cmp (op_neA (hu64 hr)) (ae_B cr_lenN T.b_len (aa_cons (ae_v 0) aa_nil)) (ae_v 1))))) (ass_cons (as_ret ae_bl)
    ass_nil) ass_nil)
    (ass_cons (as_ret (ae_B (cr_allA rfl) T.b_all (aa_cons (ae_lc [("number", 3)] rfl sc_are_numbers.nd (blkOk_by rfl) (by decide) (ai_seq (ae_v 0)) (fun _ _ _ _ _ => (ag_nm 3 sc_are_numbers.nd)) (fun _ _ _ _ _ => ats_nil) (fun _ _ _ _ _ => (ae_callX G_is_number (hr.mono (by first | decide | omega)) takes0 (aa_cons (ae_v 3) (aa_cons ae_int (aa_cons (ae_v 2) aa_nil)))))) aa_nil)))
    ass_nil))
abbrev s_check_states : Stmt := topS 25
theorem sc_check_states : FnScope ["value", "many", "steps", "answers", "state", "row"] ["value", "many"] (defScope s_check_states) := ⟨rfl, rfl, rfl, by decide +kernel, rfl, by decide +kernel, by decide +kernel⟩
def S_check_states : SF :=
  (sSeq (sIf (bOr (bNot (eT (eFn oIsi (eCons (eVar 0) (eCons (eC (.ty "tuple")) eNil))))) (eB (eOp oNe (eFn oLenN (eCons (eVar 0) eNil)) (eC (.int 2))))) sBad sNil)
    (sSeq (sAsg (.tp [(.nm 2), (.nm 3)]) (eVar 0))
    (sSeq (sIf (bOr (bNot (eT (eFn oIsi (eCons (eVar 2) (eCons (eC (.ty "tuple")) eNil))))) (bNot (eB (eChain oLe oLe (eC (.int 1)) (eFn oLenN (eCons (eVar 2) eNil)) (eC (.int 3000)))))) sBad sNil)
    (sSeq (sIf (bOr (bNot (eT (eFn oIsi (eCons (eVar 3) (eCons (eC (.ty "tuple")) eNil))))) (eB (eOp oNe (eFn oLenN (eCons (eVar 3) eNil)) (eFn oLenN (eCons (eVar 2) eNil))))) sBad sNil)
    (sSeq (sFor (iEnumA (eCons (eVar 2) eNil)) (.tp [(.nm 4), (.nm 5)]) (sSeq (sIf (bOr (bNot (eT (eCall 3 F_are_numbers (eCons (eVar 5) (eCons (eVar 1) (eCons (eOp oSub (eFn oLenN (eCons (eVar 2) eNil)) (eC (.int 1))) eNil)))))) (bNot (eT (eCall 3 F_is_number (eCons (eOp oIx (eVar 3) (eVar 4)) (eCons (eC (.int 0)) (eCons (eC (.int 3)) eNil))))))) sBad sNil)
    sNil))
    sNil)))))
def F_check_states : On' := defA 6 S_check_states
set_option maxHeartbeats 16000000 in
theorem ok_check_states {fa : Addr} {fd : FuncData} (T : Txt w K mg) (G_are_numbers : FnX P w K mg Tb base "are_numbers" 2 3 F_are_numbers) (G_is_number : FnX P w K mg Tb base "is_number" 1 3 F_is_number) (F : Fun K "check_states" "check_states" s_check_states fa fd) (hm : mg "check_states" = some (.ref fa)) : FnX P w K mg Tb base "check_states" 3 2 F_check_states := by
  refine ⟨fa, fd, ["value", "many"], fn_A (k := 2) F sc_check_states (fun cdv A outer s₀ H E hr => ?_), hm, F.kp, F.binds (ps := ["value", "many"]) fun _ _ _ _ _ _ us hl => match us, hl with | [_, _], _ => rfl⟩
  unfold S_check_states
  exact (ass_cons (as_if (AW.at (aw_or (at_not (at_val (ae_B cr_isi T.b_isinstance (aa_cons (ae_v 0) (aa_cons (ae_type T.b_tuple) aa_nil))))) (aw_or1 (at_cmp (op_neA (hu64 hr)) (ae_B cr_lenN T.b_len (aa_cons (ae_v 0) aa_nil)) ae_int)))) ass_never ass_nil)
    (ass_cons (as_asg (ae_v 0) (ag_tp rfl (ags_cons (ag_nm 2 sc_check_states.nd) (ags_cons (ag_nm 3 sc_check_states.nd) ags_nil))))
    (ass_cons (as_if (AW.at (aw_or (at_not (at_val (ae_B cr_isi T.b_isinstance (aa_cons (ae_v 2) (aa_cons (ae_type T.b_tuple) aa_nil))))) (aw_or1 (at_not (at_chain (op_leA) (op_leA) ae_int (ae_B cr_lenN T.b_len (aa_cons (ae_v 2) aa_nil)) (ae_glob T.c_MOST_MEMORIES.choose_spec (fun _ _ => .int 3000) ⟨_, rfl⟩)))))) ass_never ass_nil)
    (ass_cons (as_if (AW.at (aw_or (at_not (at_val (ae_B cr_isi T.b_isinstance (aa_cons (ae_v 3) (aa_cons (ae_type T.b_tuple) aa_nil))))) (aw_or1 (at_cmp (op_neA (hu64 hr)) (ae_B cr_lenN T.b_len (aa_cons (ae_v 3) aa_nil)) (ae_B cr_lenN T.b_len (aa_cons (ae_v 2) aa_nil)))))) ass_never ass_nil)
    (ass_cons (as_for (passes_of rfl) rfl (ai_enum T.b_enumerate (aa_cons (ae_v 2) aa_nil)) (ag_tp rfl (ags_cons (ag_nm 4 sc_check_states.nd) (ags_cons (ag_nm 5 sc_check_states.nd) ags_nil))) (ass_cons (as_if (AW.at (aw_or (at_not (at_val (ae_callX G_are_numbers (hr.mono (by first | decide | omega)) (takes_of rfl rfl rfl rfl) (aa_cons (ae_v 5) (aa_cons (ae_v 1) (aa_cons (ae_op op_subA (ae_B cr_lenN T.b_len (aa_cons (ae_v 2) aa_nil)) ae_int) aa_nil)))))) (aw_or1 (at_not (at_val (ae_callX G_is_number (hr.mono (by first | decide | omega)) (takes_of rfl rfl rfl rfl) (aa_cons (ae_ix (ae_v 3) (ae_v 4)) (aa_cons ae_int (aa_cons (ae_glob T.c_MOST_ANSWER.choose_spec (fun _ _ => .int 3) ⟨_, rfl⟩) aa_nil))))))))) ass_never ass_nil)
    ass_nil))
    ass_nil)))))
abbrev s_messages_with : Stmt := topS 17
theorem sc_messages_with : FnScope ["world", "letters", "word", "row", "letter"] ["world", "letters", "word"] (defScope s_messages_with) := ⟨rfl, rfl, rfl, by decide +kernel, rfl, by decide +kernel, by decide +kernel⟩
def S_messages_with : SF :=
  (sSeq (sIf (eB (eOp oNe (eVar 2) (eC (.str (Str.ofString "turn"))))) (sSeq (sRet (eLc (iRng1 (eCons (eVar 1) eNil)) (.nm 4) bYes (eTup (eCons (eVar 2) (eCons (eVar 4) eNil))) [4]))
    sNil) sNil)
    (sSeq (sIf (eB (eOp oEq (eVar 0) (eC (.str (Str.ofString "reverse"))))) (sSeq (sRet (eLst (eCons (eTup (eCons (eC (.str (Str.ofString "turn"))) eNil)) eNil)))
    sNil) sNil)
    (sSeq (sRet (eLc (iPerm (g1 (eVar 1))) (.nm 3) bYes (eTup (eCons (eC (.str (Str.ofString "turn"))) (eCons (eVar 3) eNil))) [3]))
    sNil)))
def F_messages_with : On' := defA 5 S_messages_with
set_option maxHeartbeats 16000000 in
theorem ok_messages_with {fa : Addr} {fd : FuncData} (T : Txt w K mg)  (F : Fun K "messages_with" "messages_with" s_messages_with fa fd) (hm : mg "messages_with" = some (.ref fa)) : FnX P w K mg Tb base "messages_with" 1 3 F_messages_with := by
  refine ⟨fa, fd, ["world", "letters", "word"], fn_A (k := 0) F sc_messages_with (fun cdv A outer s₀ H E hr => ?_), hm, F.kp, F.binds (ps := ["world", "letters", "word"]) fun _ _ _ _ _ _ us hl => match us, hl with | [_, _, _], _ => rfl⟩
  unfold S_messages_with
  exact (ass_cons (as_if (at_cmp (op_neA (hu64 hr)) (ae_v 2) ae_str) (ass_cons (as_ret (ae_lc [("letter", 4)] rfl sc_messages_with.nd (blkOk_by rfl) (by decide) (ai_rng1 T.b_range (aa_cons (ae_v 1) aa_nil)) (fun _ _ _ _ _ => (ag_nm 4 sc_messages_with.nd)) (fun _ _ _ _ _ => ats_nil) (fun _ _ _ _ _ => (ae_tup (aa_cons (ae_v 2) (aa_cons (ae_v 4) aa_nil))))))
    ass_nil) ass_nil)
    (ass_cons (as_if (at_cmp (op_eqA (hu64 hr)) (ae_v 0) ae_str) (ass_cons (as_ret (ae_lst (aa_cons (ae_tup (aa_cons ae_str aa_nil)) aa_nil)))
    ass_nil) ass_nil)
    (ass_cons (as_ret (ae_lc [("row", 3)] rfl sc_messages_with.nd (blkOk_by rfl) (by decide) (ai_perm rfl T.p_permutations (ar_1 T.b_range (ae_v 1))) (fun _ _ _ _ _ => (ag_nm 3 sc_messages_with.nd)) (fun _ _ _ _ _ => ats_nil) (fun _ _ _ _ _ => (ae_tup (aa_cons ae_str (aa_cons (ae_v 3) aa_nil))))))
    ass_nil)))
abbrev s_messages : Stmt := topS 15
theorem sc_messages : FnScope ["world", "letters", "found", "word"] ["world", "letters"] (defScope s_messages) := ⟨rfl, rfl, rfl, by decide +kernel, rfl, by decide +kernel, by decide +kernel⟩
def S_messages : SF :=
  (sSeq (sExpr (eCall 1 F_check_world (eCons (eVar 0) eNil)))
    (sSeq (sExpr (eCall 1 F_check_letters (eCons (eVar 1) eNil)))
    (sSeq (sAsg (.nm 2) (eLst eNil))
    (sSeq (sFor (iK (kIx tb_WORDS (eVar 0))) (.nm 3) (sSeq (sExpr (eMeth oExtend (eVar 2) (eCons (eCall 3 F_messages_with (eCons (eVar 0) (eCons (eVar 1) (eCons (eVar 3) eNil)))) eNil)))
    sNil))
    (sSeq (sRet (eFn oTuple (eCons (eFn oSortM (eCons (eVar 2) eNil)) eNil)))
    sNil)))))
def F_messages : On' := defA 4 S_messages
set_option maxHeartbeats 16000000 in
theorem ok_messages {fa : Addr} {fd : FuncData} (T : Txt w K mg) (G_check_world : FnX P w K mg Tb base "check_world" 1 1 F_check_world) (G_check_letters : FnX P w K mg Tb base "check_letters" 2 1 F_check_letters) (G_messages_with : FnX P w K mg Tb base "messages_with" 1 3 F_messages_with) (F : Fun K "messages" "messages" s_messages fa fd) (hm : mg "messages" = some (.ref fa)) : FnX P w K mg Tb base "messages" 3 2 F_messages := by
  refine ⟨fa, fd, ["world", "letters"], fn_A (k := 2) F sc_messages (fun cdv A outer s₀ H E hr => ?_), hm, F.kp, F.binds (ps := ["world", "letters"]) fun _ _ _ _ _ _ us hl => match us, hl with | [_, _], _ => rfl⟩
  unfold S_messages
  exact (ass_cons (as_expr (ae_callX G_check_world (hr.mono (by first | decide | omega)) (takes_of rfl rfl rfl rfl) (aa_cons (ae_v 0) aa_nil)))
    (ass_cons (as_expr (ae_callX G_check_letters (hr.mono (by first | decide | omega)) (takes_of rfl rfl rfl rfl) (aa_cons (ae_v 1) aa_nil)))
    (ass_cons (as_set 2 sc_messages.nd (ae_lst aa_nil))
    (ass_cons (as_for (passes_of rfl) rfl (ai_K (ak_ix T.g_WORDS.choose_spec.1 T.g_WORDS.choose_spec.2 (ae_v 0))) (ag_nm 3 sc_messages.nd) (ass_cons (as_expr (ae_extend (ae_v 2) (aa_cons (ae_callX G_messages_with (hr.mono (by first | decide | omega)) (takes_of rfl rfl rfl rfl) (aa_cons (ae_v 0) (aa_cons (ae_v 1) (aa_cons (ae_v 3) aa_nil)))) aa_nil)))
    ass_nil))
    (ass_cons (as_ret (ae_Ty cr_tuple T.b_tuple (aa_cons (ae_B (cr_sortM (hu64 hr)) T.b_sorted (aa_cons (ae_v 2) aa_nil)) aa_nil)))
    ass_nil)))))
abbrev s_check_keeper : Stmt := topS 24
theorem sc_check_keeper : FnScope ["world", "letters", "value"] ["world", "letters", "value"] (defScope s_check_keeper) := ⟨rfl, rfl, rfl, by decide +kernel, rfl, by decide +kernel, by decide +kernel⟩
def S_check_keeper : SF :=
  (sSeq (sExpr (eCall 2 F_check_states (eCons (eVar 2) (eCons (eFn oLenN (eCons (eCall 2 F_messages (eCons (eVar 0) (eCons (eVar 1) eNil))) eNil)) eNil))))
    sNil)
def F_check_keeper : On' := defA 3 S_check_keeper
set_option maxHeartbeats 16000000 in
theorem ok_check_keeper {fa : Addr} {fd : FuncData} (T : Txt w K mg) (G_check_states : FnX P w K mg Tb base "check_states" 3 2 F_check_states) (G_messages : FnX P w K mg Tb base "messages" 3 2 F_messages) (F : Fun K "check_keeper" "check_keeper" s_check_keeper fa fd) (hm : mg "check_keeper" = some (.ref fa)) : FnX P w K mg Tb base "check_keeper" 4 3 F_check_keeper := by
  refine ⟨fa, fd, ["world", "letters", "value"], fn_A (k := 3) F sc_check_keeper (fun cdv A outer s₀ H E hr => ?_), hm, F.kp, F.binds (ps := ["world", "letters", "value"]) fun _ _ _ _ _ _ us hl => match us, hl with | [_, _, _], _ => rfl⟩
  unfold S_check_keeper
  exact (ass_cons (as_expr (ae_callX G_check_states (hr.mono (by first | decide | omega)) (takes_of rfl rfl rfl rfl) (aa_cons (ae_v 2) (aa_cons (ae_B cr_lenN T.b_len (aa_cons (ae_callX G_messages (hr.mono (by first | decide | omega)) (takes_of rfl rfl rfl rfl) (aa_cons (ae_v 0) (aa_cons (ae_v 1) aa_nil))) aa_nil)) aa_nil))))
    ass_nil)
abbrev s_check_messages : Stmt := topS 27
theorem sc_check_messages : FnScope ["row", "is_told", "index", "message"] ["row", "is_told"] (defScope s_check_messages) := ⟨rfl, rfl, rfl, by decide +kernel, rfl, by decide +kernel, by decide +kernel⟩
def S_check_messages (l0 : Nat) (act : On') : SF :=
  (sSeq (sIf (bOr (bNot (eT (eFn oIsi (eCons (eVar 0) (eCons (eC (.ty "tuple")) eNil))))) (eB (eOp oGt (eFn oLenN (eCons (eVar 0) eNil)) (eC (.int 100))))) sBad sNil)
    (sSeq (sFor (iEnumA (eCons (eVar 0) eNil)) (.tp [(.nm 2), (.nm 3)]) (sSeq (sIf (bNot (eT (eAct 1 l0 1 act (eCons (eVar 3) eNil)))) sBad sNil)
    sNil))
    sNil))
set_option maxHeartbeats 16000000 in
theorem ok_check_messages {k : Nat} (hk : 0 ≤ k) {fa : Addr} {fd : FuncData} (T : Txt w K mg)  (F : Fun K "check_messages" "check_messages" s_check_messages fa fd) (hm : mg "check_messages" = some (.ref fa)) : FnL P w K mg Tb base "check_messages" k 2 1 4 S_check_messages := by
  refine ⟨fa, fd, s_check_messages, ["row", "is_told", "index", "message"], ["row", "is_told"], F, sc_check_messages, hm, rfl, rfl, F.binds (ps := ["row", "is_told"]) fun _ _ _ _ _ _ us hl => match us, hl with | [_, _], _ => rfl, fun cdv A outer s₀ H E l0 r act hr ha => ?_⟩
  unfold S_check_messages
  exact (ass_cons (as_if (AW.at (aw_or (at_not (at_val (ae_B cr_isi T.b_isinstance (aa_cons (ae_v 0) (aa_cons (ae_type T.b_tuple) aa_nil))))) (aw_or1 (at_cmp (op_gtA) (ae_B cr_lenN T.b_len (aa_cons (ae_v 0) aa_nil)) (ae_glob T.c_MOST_MESSAGES.choose_spec (fun _ _ => .int 100) ⟨_, rfl⟩))))) ass_never ass_nil)
    (ass_cons (as_for (passes_of rfl) rfl (ai_enum T.b_enumerate (aa_cons (ae_v 0) aa_nil)) (ag_tp rfl (ags_cons (ag_nm 2 sc_check_messages.nd) (ags_cons (ag_nm 3 sc_check_messages.nd) ags_nil))) (ass_cons (as_if (at_not (at_val (ae_act 1 ha (takes_of rfl rfl rfl rfl) (aa_cons (ae_v 3) aa_nil)))) ass_never ass_nil)
    ass_nil))
    ass_nil))
abbrev s_is_permutation : Stmt := topS 19
theorem sc_is_permutation : FnScope ["value", "letters"] ["value", "letters"] (defScope s_is_permutation) := ⟨rfl, rfl, rfl, by decide +kernel, rfl, by decide +kernel, by decide +kernel⟩
def S_is_permutation : SF :=
  (sSeq (sRet (eAnd (eCall 3 F_are_numbers (eCons (eVar 0) (eCons (eVar 1) (eCons (eOp oSub (eVar 1) (eC (.int 1))) eNil)))) (eOp oEq (eUn oLenSetX (eVar 0)) (eVar 1))))
    sNil)
def F_is_permutation : On' := defA 2 S_is_permutation
set_option maxHeartbeats 16000000 in
theorem ok_is_permutation {fa : Addr} {fd : FuncData} (T : Txt w K mg) (G_are_numbers : FnX P w K mg Tb base "are_numbers" 2 3 F_are_numbers) (F : Fun K "is_permutation" "is_permutation" s_is_permutation fa fd) (hm : mg "is_permutation" = some (.ref fa)) : FnX P w K mg Tb base "is_permutation" 3 2 F_is_permutation := by
  refine ⟨fa, fd, ["value", "letters"], fn_A (k := 2) F sc_is_permutation (fun cdv A outer s₀ H E hr => ?_), hm, F.kp, F.binds (ps := ["value", "letters"]) fun _ _ _ _ _ _ us hl => match us, hl with | [_, _], _ => rfl⟩
  unfold S_is_permutation
  exact (ass_cons (as_ret (ae_and (ae_callX G_are_numbers (hr.mono (by first | decide | omega)) (takes_of rfl rfl rfl rfl) (aa_cons (ae_v 0) (aa_cons (ae_v 1) (aa_cons (ae_op op_subA (ae_v 1) ae_int) aa_nil)))) (ae_one (ae_cmp (op_eqA (hu64 hr)) (ae_lenSetX T.b_len T.b_set (ae_v 0)) (ae_v 1)))))
    ass_nil)
abbrev s_is_message : Stmt := topS 18
theorem sc_is_message : FnScope ["world", "letters", "value"] ["world", "letters", "value"] (defScope s_is_message) := ⟨rfl, rfl, rfl, by decide +kernel, rfl, by decide +kernel, by decide +kernel⟩
def S_is_message : SF :=
  (sSeq (sIf (bOr (bNot (eT (eFn oIsi (eCons (eVar 2) (eCons (eC (.ty "tuple")) eNil))))) (bOr (bNot (eB (eChain oLe oLe (eC (.int 1)) (eFn oLenN (eCons (eVar 2) eNil)) (eC (.int 2))))) (eB (eInK true (eOp oIx (eVar 2) (eC (.int 0))) (kIx tb_WORDS (eVar 0)))))) (sSeq (sRet (eC (.bl false)))
    sNil) sNil)
    (sSeq (sIf (bAnd (eB (eOp oEq (eOp oIx (eVar 2) (eC (.int 0))) (eC (.str (Str.ofString "turn"))))) (eB (eOp oEq (eVar 0) (eC (.str (Str.ofString "reverse")))))) (sSeq (sRet (eOp oEq (eFn oLenN (eCons (eVar 2) eNil)) (eC (.int 1))))
    sNil) sNil)
    (sSeq (sIf (eB (eOp oEq (eFn oLenN (eCons (eVar 2) eNil)) (eC (.int 1)))) (sSeq (sRet (eC (.bl false)))
    sNil) sNil)
    (sSeq (sIf (eB (eOp oEq (eOp oIx (eVar 2) (eC (.int 0))) (eC (.str (Str.ofString "turn"))))) (sSeq (sRet (eCall 2 F_is_permutation (eCons (eOp oIx (eVar 2) (eC (.int 1))) (eCons (eVar 1) eNil))))
    sNil) sNil)
    (sSeq (sRet (eCall 3 F_is_number (eCons (eOp oIx (eVar 2) (eC (.int 1))) (eCons (eC (.int 0)) (eCons (eOp oSub (eVar 1) (eC (.int 1))) eNil)))))
    sNil)))))
def F_is_message : On' := defA 3 S_is_message
set_option maxHeartbeats 16000000 in
theorem ok_is_message {fa : Addr} {fd : FuncData} (T : Txt w K mg) (G_is_permutation : FnX P w K mg Tb base "is_permutation" 3 2 F_is_permutation) (G_is_number : FnX P w K mg Tb base "is_number" 1 3 F_is_number) (F : Fun K "is_message" "is_message" s_is_message fa fd) (hm : mg "is_message" = some (.ref fa)) : FnX P w K mg Tb base "is_message" 4 3 F_is_message := by
  refine ⟨fa, fd, ["world", "letters", "value"], fn_A (k := 3) F sc_is_message (fun cdv A outer s₀ H E hr => ?_), hm, F.kp, F.binds (ps := ["world", "letters", "value"]) fun _ _ _ _ _ _ us hl => match us, hl with | [_, _, _], _ => rfl⟩
  unfold S_is_message
  exact (ass_cons (as_if (AW.at (aw_or (at_not (at_val (ae_B cr_isi T.b_isinstance (aa_cons (ae_v 2) (aa_cons (ae_type T.b_tuple) aa_nil))))) (aw_or (at_not (at_chain (op_leA) (op_leA) ae_int (ae_B cr_lenN T.b_len (aa_cons (ae_v 2) aa_nil)) ae_int)) (aw_or1 (at_ninK (ae_ix (ae_v 2) ae_int) (ak_ix T.g_WORDS.choose_spec.1 T.g_WORDS.choose_spec.2 (ae_v 0))))))) (ass_cons (as_ret ae_bl)
    ass_nil) ass_nil)
    (ass_cons (as_if (AW.at (aw_and (at_cmp (op_eqA (hu64 hr)) (ae_ix (ae_v 2) ae_int) ae_str) (aw_and1 (at_cmp (op_eqA (hu64 hr)) (ae_v 0) ae_str)))) (ass_cons (as_ret (ae_cmp (op_eqA (hu64 hr)) (ae_B cr_lenN T.b_len (aa_cons (ae_v 2) aa_nil)) ae_int))
    ass_nil) ass_nil)
    (ass_cons (as_if (at_cmp (op_eqA (hu64 hr)) (ae_B cr_lenN T.b_len (aa_cons (ae_v 2) aa_nil)) ae_int) (ass_cons (as_ret ae_bl)
    ass_nil) ass_nil)
    (ass_cons (as_if (at_cmp (op_eqA (hu64 hr)) (ae_ix (ae_v 2) ae_int) ae_str) (ass_cons (as_ret (ae_callX G_is_permutation (hr.mono (by first | decide | omega)) (takes_of rfl rfl rfl rfl) (aa_cons (ae_ix (ae_v 2) ae_int) (aa_cons (ae_v 1) aa_nil))))
    ass_nil) ass_nil)
    (ass_cons (as_ret (ae_callX G_is_number (hr.mono (by first | decide | omega)) (takes_of rfl rfl rfl rfl) (aa_cons (ae_ix (ae_v 2) ae_int) (aa_cons ae_int (aa_cons (ae_op op_subA (ae_v 1) ae_int) aa_nil)))))
    ass_nil)))))
abbrev s_check_row : Stmt := topS 26
theorem sc_check_row : FnScope ["world", "letters", "row"] ["world", "letters", "row"] (defScope s_check_row) := ⟨rfl, rfl, rfl, by decide +kernel, rfl, by decide +kernel, by decide +kernel⟩
def S_check_row : SF :=
  (sSeq (sExpr (eLam 2 4 S_check_messages (eCall 3 F_is_message (eCons (eVar 0) (eCons (eVar 1) (eCons (eVar 3) eNil)))) (eCons (eVar 2) eNil)))
    sNil)
def F_check_row : On' := defA 3 S_check_row
set_option maxHeartbeats 16000000 in
theorem ok_check_row {fa : Addr} {fd : FuncData} (T : Txt w K mg) (G_check_messages : FnL P w K mg Tb base "check_messages" 5 2 1 4 S_check_messages) (G_is_message : FnX P w K mg Tb base "is_message" 4 3 F_is_message) (F : Fun K "check_row" "check_row" s_check_row fa fd) (hm : mg "check_row" = some (.ref fa)) {cL pL : Addr} (B : LamB mg Tb base fd ((("check_row" : Str) ++ ".<locals>.") ++ "<lambda>") cL pL) : FnX P w K mg Tb base "check_row" 7 3 F_check_row := by
  refine ⟨fa, fd, ["world", "letters", "row"], fn_AL (k := 6) F sc_check_row B (fun cdv A outer s₀ H E hr LI => ?_), hm, F.kp, F.binds (ps := ["world", "letters", "row"]) fun _ _ _ _ _ _ us hl => match us, hl with | [_, _, _], _ => rfl⟩
  unfold S_check_row
  exact (ass_cons (as_expr (ae_lam (ps := ["message"]) (kl := 4) G_check_messages hr (takes_of rfl rfl rfl rfl) rfl (lamP_by (sc := defScope s_check_row) (by decide +kernel)) (alm_cons (ae_v 2) (alm_nil LI (lamP_by (sc := defScope s_check_row) (ps := ["message"]) (by decide +kernel)))) (fun A outer s s' H E f c' hr2 => (ae_callX G_is_message (hr2.mono (by first | decide | omega)) (takes_of rfl rfl rfl rfl) (aa_cons (ae_v 0) (aa_cons (ae_v 1) (aa_cons (ae_v 3) aa_nil))))) (show ∀ x ∈ (["message"] : List Str), x ∉ (["world", "letters", "row"] : List Str) from by decide +kernel) (by decide) (by decide) (fun _ _ _ _ _ us hl => match us, hl with | [_], _ => rfl)))
    ass_nil)
abbrev s_kept_answers : Stmt := topS 28
theorem sc_kept_answers : FnScope ["every", "keeper", "row", "numbers", "state", "found", "message", "steps", "answers", "number"] ["every", "keeper", "row"] (defScope s_kept_answers) := ⟨rfl, rfl, rfl, by decide +kernel, rfl, by decide +kernel, by decide +kernel⟩
def S_kept_answers : SF :=
  (sSeq (sAsg (.nm 3) (eDc (iEnumA (eCons (eVar 0) eNil)) (.tp [(.nm 9), (.nm 6)]) bYes (eVar 6) (eVar 9) [9, 6]))
    (sSeq (sAsg (.tp [(.nm 7), (.nm 8)]) (eVar 1))
    (sSeq (sAsg (.nm 4) (eC (.int 0)))
    (sSeq (sAsg (.nm 5) (eLst (eCons (eOp oIx (eVar 8) (eC (.int 0))) eNil)))
    (sSeq (sFor (iSeq (eVar 2)) (.nm 6) (sSeq (sAsg (.nm 4) (eOp oIx (eOp oIx (eVar 7) (eVar 4)) (eOp oNget (eVar 3) (eVar 6))))
    (sSeq (sExpr (eMeth oAppend (eVar 5) (eCons (eOp oIx (eVar 8) (eVar 4)) eNil)))
    sNil)))
    (sSeq (sRet (eFn oTuple (eCons (eVar 5) eNil)))
    sNil))))))
def F_kept_answers : On' := defA 10 S_kept_answers
set_option maxHeartbeats 16000000 in
theorem ok_kept_answers {fa : Addr} {fd : FuncData} (T : Txt w K mg)  (F : Fun K "kept_answers" "kept_answers" s_kept_answers fa fd) (hm : mg "kept_answers" = some (.ref fa)) : FnX P w K mg Tb base "kept_answers" 1 3 F_kept_answers := by
  refine ⟨fa, fd, ["every", "keeper", "row"], fn_A (k := 0) F sc_kept_answers (fun cdv A outer s₀ H E hr => ?_), hm, F.kp, F.binds (ps := ["every", "keeper", "row"]) fun _ _ _ _ _ _ us hl => match us, hl with | [_, _, _], _ => rfl⟩
  unfold S_kept_answers
  exact (ass_cons (as_setDc 3 [("number", 9), ("message", 6)] (hu9 hr) rfl sc_kept_answers.nd (sw_trueD rfl rfl rfl (by decide +kernel)) (blkOk_by rfl) (by decide) (ai_enum T.b_enumerate (aa_cons (ae_v 0) aa_nil)) (fun _ _ _ _ _ => (ag_tp rfl (ags_cons (ag_nm 9 sc_kept_answers.nd) (ags_cons (ag_nm 6 sc_kept_answers.nd) ags_nil)))) (fun _ _ _ _ _ => ats_nil) (fun _ _ _ _ _ => (ae_v 6)) (fun _ _ _ _ _ => (ae_v 9)))
    (ass_cons (as_asg (ae_v 1) (ag_tp rfl (ags_cons (ag_nm 7 sc_kept_answers.nd) (ags_cons (ag_nm 8 sc_kept_answers.nd) ags_nil))))
    (ass_cons (as_set 4 sc_kept_answers.nd ae_int)
    (ass_cons (as_set 5 sc_kept_answers.nd (ae_lst (aa_cons (ae_ix (ae_v 8) ae_int) aa_nil)))
    (ass_cons (as_for (passes_of rfl) rfl (ai_seq (ae_v 2)) (ag_nm 6 sc_kept_answers.nd) (ass_cons (as_set 4 sc_kept_answers.nd (ae_ix (ae_ix (ae_v 7) (ae_v 4)) (ae_nget (hu9 hr) (ae_v 3) (ae_v 6))))
    (ass_cons (as_expr (ae_append (ae_v 5) (aa_cons (ae_ix (ae_v 8) (ae_v 4)) aa_nil)))
    ass_nil)))
    (ass_cons (as_ret (ae_Ty cr_tuple T.b_tuple (aa_cons (ae_v 5) aa_nil)))
    ass_nil))))))
abbrev s_keep : Stmt := topS 23
theorem sc_keep : FnScope ["world", "letters", "keeper", "row"] ["world", "letters", "keeper", "row"] (defScope s_keep) := ⟨rfl, rfl, rfl, by decide +kernel, rfl, by decide +kernel, by decide +kernel⟩
def S_keep : SF :=
  (sSeq (sExpr (eCall 1 F_check_world (eCons (eVar 0) eNil)))
    (sSeq (sExpr (eCall 1 F_check_letters (eCons (eVar 1) eNil)))
    (sSeq (sExpr (eCall 3 F_check_keeper (eCons (eVar 0) (eCons (eVar 1) (eCons (eVar 2) eNil)))))
    (sSeq (sExpr (eCall 3 F_check_row (eCons (eVar 0) (eCons (eVar 1) (eCons (eVar 3) eNil)))))
    (sSeq (sRet (eCall 3 F_kept_answers (eCons (eCall 2 F_messages (eCons (eVar 0) (eCons (eVar 1) eNil))) (eCons (eVar 2) (eCons (eVar 3) eNil)))))
    sNil)))))
def F_keep : On' := defA 4 S_keep
set_option maxHeartbeats 16000000 in
theorem ok_keep {fa : Addr} {fd : FuncData} (T : Txt w K mg) (G_check_world : FnX P w K mg Tb base "check_world" 1 1 F_check_world) (G_check_letters : FnX P w K mg Tb base "check_letters" 2 1 F_check_letters) (G_check_keeper : FnX P w K mg Tb base "check_keeper" 4 3 F_check_keeper) (G_check_row : FnX P w K mg Tb base "check_row" 7 3 F_check_row) (G_kept_answers : FnX P w K mg Tb base "kept_answers" 1 3 F_kept_answers) (G_messages : FnX P w K mg Tb base "messages" 3 2 F_messages) (F : Fun K "keep" "keep" s_keep fa fd) (hm : mg "keep" = some (.ref fa)) : FnX P w K mg Tb base "keep" 8 4 F_keep := by
  refine ⟨fa, fd, ["world", "letters", "keeper", "row"], fn_A (k := 7) F sc_keep (fun cdv A outer s₀ H E hr => ?_), hm, F.kp, F.binds (ps := ["world", "letters", "keeper", "row"]) fun _ _ _ _ _ _ us hl => match us, hl with | [_, _, _, _], _ => rfl⟩
  unfold S_keep
  exact (ass_cons (as_expr (ae_callX G_check_world (hr.mono (by first | decide | omega)) (takes_of rfl rfl rfl rfl) (aa_cons (ae_v 0) aa_nil)))
    (ass_cons (as_expr (ae_callX G_check_letters (hr.mono (by first | decide | omega)) (takes_of rfl rfl rfl rfl) (aa_cons (ae_v 1) aa_nil)))
    (ass_cons (as_expr (ae_callX G_check_keeper (hr.mono (by first | decide | omega)) (takes_of rfl rfl rfl rfl) (aa_cons (ae_v 0) (aa_cons (ae_v 1) (aa_cons (ae_v 2) aa_nil)))))
    (ass_cons (as_expr (ae_callX G_check_row (hr.mono (by first | decide | omega)) (takes_of rfl rfl rfl rfl) (aa_cons (ae_v 0) (aa_cons (ae_v 1) (aa_cons (ae_v 3) aa_nil)))))
    (ass_cons (as_ret (ae_callX G_kept_answers (hr.mono (by first | decide | omega)) (takes_of rfl rfl rfl rfl) (aa_cons (ae_callX G_messages (hr.mono (by first | decide | omega)) (takes_of rfl rfl rfl rfl) (aa_cons (ae_v 0) (aa_cons (ae_v 1) aa_nil))) (aa_cons (ae_v 2) (aa_cons (ae_v 3) aa_nil)))))
    ass_nil)))))
abbrev s_check_slip : Stmt := topS 32
theorem sc_check_slip : FnScope ["world", "letters", "keeper", "row", "spot"] ["world", "letters", "keeper", "row", "spot"] (defScope s_check_slip) := ⟨rfl, rfl, rfl, by decide +kernel, rfl, by decide +kernel, by decide +kernel⟩
def S_check_slip : SF :=
  (sSeq (sExpr (eCall 1 F_check_world (eCons (eVar 0) eNil)))
    (sSeq (sExpr (eCall 1 F_check_letters (eCons (eVar 1) eNil)))
    (sSeq (sExpr (eCall 3 F_check_keeper (eCons (eVar 0) (eCons (eVar 1) (eCons (eVar 2) eNil)))))
    (sSeq (sExpr (eCall 3 F_check_row (eCons (eVar 0) (eCons (eVar 1) (eCons (eVar 3) eNil)))))
    (sSeq (sIf (bNot (eT (eCall 3 F_is_number (eCons (eVar 4) (eCons (eC (.int 0)) (eCons (eOp oSub (eFn oLenN (eCons (eVar 3) eNil)) (eC (.int 1))) eNil)))))) sBad sNil)
    sNil)))))
def F_check_slip : On' := defA 5 S_check_slip
set_option maxHeartbeats 16000000 in
theorem ok_check_slip {fa : Addr} {fd : FuncData} (T : Txt w K mg) (G_check_world : FnX P w K mg Tb base "check_world" 1 1 F_check_world) (G_check_letters : FnX P w K mg Tb base "check_letters" 2 1 F_check_letters) (G_check_keeper : FnX P w K mg Tb base "check_keeper" 4 3 F_check_keeper) (G_check_row : FnX P w K mg Tb base "check_row" 7 3 F_check_row) (G_is_number : FnX P w K mg Tb base "is_number" 1 3 F_is_number) (F : Fun K "check_slip" "check_slip" s_check_slip fa fd) (hm : mg "check_slip" = some (.ref fa)) : FnX P w K mg Tb base "check_slip" 8 5 F_check_slip := by
  refine ⟨fa, fd, ["world", "letters", "keeper", "row", "spot"], fn_A (k := 7) F sc_check_slip (fun cdv A outer s₀ H E hr => ?_), hm, F.kp, F.binds (ps := ["world", "letters", "keeper", "row", "spot"]) fun _ _ _ _ _ _ us hl => match us, hl with | [_, _, _, _, _], _ => rfl⟩
  unfold S_check_slip
  exact (ass_cons (as_expr (ae_callX G_check_world (hr.mono (by first | decide | omega)) (takes_of rfl rfl rfl rfl) (aa_cons (ae_v 0) aa_nil)))
    (ass_cons (as_expr (ae_callX G_check_letters (hr.mono (by first | decide | omega)) (takes_of rfl rfl rfl rfl) (aa_cons (ae_v 1) aa_nil)))
    (ass_cons (as_expr (ae_callX G_check_keeper (hr.mono (by first | decide | omega)) (takes_of rfl rfl rfl rfl) (aa_cons (ae_v 0) (aa_cons (ae_v 1) (aa_cons (ae_v 2) aa_nil)))))
    (ass_cons (as_expr (ae_callX G_check_row (hr.mono (by first | decide | omega)) (takes_of rfl rfl rfl rfl) (aa_cons (ae_v 0) (aa_cons (ae_v 1) (aa_cons (ae_v 3) aa_nil)))))
    (ass_cons (as_if (at_not (at_val (ae_callX G_is_number (hr.mono (by first | decide | omega)) (takes_of rfl rfl rfl rfl) (aa_cons (ae_v 4) (aa_cons ae_int (aa_cons (ae_op op_subA (ae_B cr_lenN T.b_len (aa_cons (ae_v 3) aa_nil)) ae_int) aa_nil)))))) ass_never ass_nil)
    ass_nil)))))
abbrev s_first_unlike : Stmt := topS 33
theorem sc_first_unlike : FnScope ["world", "letters", "keeper", "row", "spot", "others", "answers", "number", "other"] ["world", "letters", "keeper", "row", "spot", "others"] (defScope s_first_unlike) := ⟨rfl, rfl, rfl, by decide +kernel, rfl, by decide +kernel, by decide +kernel⟩
def S_first_unlike : SF :=
  (sSeq (sAsg (.nm 6) (eCall 3 F_kept_answers (eCons (eCall 2 F_messages (eCons (eVar 0) (eCons (eVar 1) eNil))) (eCons (eVar 2) (eCons (eVar 3) eNil)))))
    (sSeq (sFor (iEnumAK (eVar 5) (eVar 4)) (.tp [(.nm 7), (.nm 8)]) (sSeq (sIf (eB (eOp oNe (eOp oIx (eVar 6) (eOp oAdd (eVar 7) (eC (.int 1)))) (eVar 8))) (sSeq (sRet (eVar 7))
    sNil) sNil)
    sNil))
    (sSeq (sRet (eC .non))
    sNil)))
def F_first_unlike : On' := defA 9 S_first_unlike
set_option maxHeartbeats 16000000 in
theorem ok_first_unlike {fa : Addr} {fd : FuncData} (T : Txt w K mg) (G_kept_answers : FnX P w K mg Tb base "kept_answers" 1 3 F_kept_answers) (G_messages : FnX P w K mg Tb base "messages" 3 2 F_messages) (F : Fun K "first_unlike" "first_unlike" s_first_unlike fa fd) (hm : mg "first_unlike" = some (.ref fa)) : FnX P w K mg Tb base "first_unlike" 4 6 F_first_unlike := by
  refine ⟨fa, fd, ["world", "letters", "keeper", "row", "spot", "others"], fn_A (k := 3) F sc_first_unlike (fun cdv A outer s₀ H E hr => ?_), hm, F.kp, F.binds (ps := ["world", "letters", "keeper", "row", "spot", "others"]) fun _ _ _ _ _ _ us hl => match us, hl with | [_, _, _, _, _, _], _ => rfl⟩
  unfold S_first_unlike
  exact (ass_cons (as_set 6 sc_first_unlike.nd (ae_callX G_kept_answers (hr.mono (by first | decide | omega)) (takes_of rfl rfl rfl rfl) (aa_cons (ae_callX G_messages (hr.mono (by first | decide | omega)) (takes_of rfl rfl rfl rfl) (aa_cons (ae_v 0) (aa_cons (ae_v 1) aa_nil))) (aa_cons (ae_v 2) (aa_cons (ae_v 3) aa_nil)))))
    (ass_cons (as_for (passes_of rfl) rfl (ai_enumK T.b_enumerate (ae_v 5) (ae_v 4)) (ag_tp rfl (ags_cons (ag_nm 7 sc_first_unlike.nd) (ags_cons (ag_nm 8 sc_first_unlike.nd) ags_nil))) (ass_cons (as_if (at_cmp (op_neA (hu64 hr)) (ae_ix (ae_v 6) (ae_op op_addA (ae_v 7) ae_int)) (ae_v 8)) (ass_cons (as_ret (ae_v 7))
    ass_nil) ass_nil)
    ass_nil))
    (ass_cons (as_ret ae_non)
    ass_nil)))
abbrev s_doubled : Stmt := topS 31
theorem sc_doubled : FnScope ["world", "letters", "keeper", "row", "spot", "answers"] ["world", "letters", "keeper", "row", "spot"] (defScope s_doubled) := ⟨rfl, rfl, rfl, by decide +kernel, rfl, by decide +kernel, by decide +kernel⟩
def S_doubled : SF :=
  (sSeq (sExpr (eCall 5 F_check_slip (eCons (eVar 0) (eCons (eVar 1) (eCons (eVar 2) (eCons (eVar 3) (eCons (eVar 4) eNil)))))))
    (sSeq (sAsg (.nm 5) (eCall 3 F_kept_answers (eCons (eCall 2 F_messages (eCons (eVar 0) (eCons (eVar 1) eNil))) (eCons (eVar 2) (eCons (eOp oAdd (eSl (eVar 3) eNoPart (ePart (eOp oAdd (eVar 4) (eC (.int 1))))) (eSl (eVar 3) (ePart (eVar 4)) eNoPart)) eNil)))))
    (sSeq (sRet (eCall 6 F_first_unlike (eCons (eVar 0) (eCons (eVar 1) (eCons (eVar 2) (eCons (eVar 3) (eCons (eVar 4) (eCons (eSl (eVar 5) (ePart (eOp oAdd (eVar 4) (eC (.int 2)))) eNoPart) eNil))))))))
    sNil)))
def F_doubled : On' := defA 6 S_doubled
set_option maxHeartbeats 16000000 in
theorem ok_doubled {fa : Addr} {fd : FuncData} (T : Txt w K mg) (G_check_slip : FnX P w K mg Tb base "check_slip" 8 5 F_check_slip) (G_kept_answers : FnX P w K mg Tb base "kept_answers" 1 3 F_kept_answers) (G_messages : FnX P w K mg Tb base "messages" 3 2 F_messages) (G_first_unlike : FnX P w K mg Tb base "first_unlike" 4 6 F_first_unlike) (F : Fun K "doubled" "doubled" s_doubled fa fd) (hm : mg "doubled" = some (.ref fa)) : FnX P w K mg Tb base "doubled" 9 5 F_doubled := by
  refine ⟨fa, fd, ["world", "letters", "keeper", "row", "spot"], fn_A (k := 8) F sc_doubled (fun cdv A outer s₀ H E hr => ?_), hm, F.kp, F.binds (ps := ["world", "letters", "keeper", "row", "spot"]) fun _ _ _ _ _ _ us hl => match us, hl with | [_, _, _, _, _], _ => rfl⟩
  unfold S_doubled
  exact (ass_cons (as_expr (ae_callX G_check_slip (hr.mono (by first | decide | omega)) (takes_of rfl rfl rfl rfl) (aa_cons (ae_v 0) (aa_cons (ae_v 1) (aa_cons (ae_v 2) (aa_cons (ae_v 3) (aa_cons (ae_v 4) aa_nil)))))))
    (ass_cons (as_set 5 sc_doubled.nd (ae_callX G_kept_answers (hr.mono (by first | decide | omega)) (takes_of rfl rfl rfl rfl) (aa_cons (ae_callX G_messages (hr.mono (by first | decide | omega)) (takes_of rfl rfl rfl rfl) (aa_cons (ae_v 0) (aa_cons (ae_v 1) aa_nil))) (aa_cons (ae_v 2) (aa_cons (ae_op op_addA (ae_sl (ae_v 3) ap_none (ap_some (ae_op op_addA (ae_v 4) ae_int))) (ae_sl (ae_v 3) (ap_some (ae_v 4)) ap_none)) aa_nil)))))
    (ass_cons (as_ret (ae_callX G_first_unlike (hr.mono (by first | decide | omega)) (takes_of rfl rfl rfl rfl) (aa_cons (ae_v 0) (aa_cons (ae_v 1) (aa_cons (ae_v 2) (aa_cons (ae_v 3) (aa_cons (ae_v 4) (aa_cons (ae_sl (ae_v 5) (ap_some (ae_op op_addA (ae_v 4) ae_int)) ap_none) aa_nil))))))))
    ass_nil)))
abbrev s_lost : Stmt := topS 30
theorem sc_lost : FnScope ["world", "letters", "keeper", "row", "spot", "answers"] ["world", "letters", "keeper", "row", "spot"] (defScope s_lost) := ⟨rfl, rfl, rfl, by decide +kernel, rfl, by decide +kernel, by decide +kernel⟩
def S_lost : SF :=
  (sSeq (sExpr (eCall 5 F_check_slip (eCons (eVar 0) (eCons (eVar 1) (eCons (eVar 2) (eCons (eVar 3) (eCons (eVar 4) eNil)))))))
    (sSeq (sAsg (.nm 5) (eCall 3 F_kept_answers (eCons (eCall 2 F_messages (eCons (eVar 0) (eCons (eVar 1) eNil))) (eCons (eVar 2) (eCons (eOp oAdd (eSl (eVar 3) eNoPart (ePart (eVar 4))) (eSl (eVar 3) (ePart (eOp oAdd (eVar 4) (eC (.int 1)))) eNoPart)) eNil)))))
    (sSeq (sRet (eCall 6 F_first_unlike (eCons (eVar 0) (eCons (eVar 1) (eCons (eVar 2) (eCons (eVar 3) (eCons (eVar 4) (eCons (eSl (eVar 5) (ePart (eVar 4)) eNoPart) eNil))))))))
    sNil)))
def F_lost : On' := defA 6 S_lost
set_option maxHeartbeats 16000000 in
theorem ok_lost {fa : Addr} {fd : FuncData} (T : Txt w K mg) (G_check_slip : FnX P w K mg Tb base "check_slip" 8 5 F_check_slip) (G_kept_answers : FnX P w K mg Tb base "kept_answers" 1 3 F_kept_answers) (G_messages : FnX P w K mg Tb base "messages" 3 2 F_messages) (G_first_unlike : FnX P w K mg Tb base "first_unlike" 4 6 F_first_unlike) (F : Fun K "lost" "lost" s_lost fa fd) (hm : mg "lost" = some (.ref fa)) : FnX P w K mg Tb base "lost" 9 5 F_lost := by
  refine ⟨fa, fd, ["world", "letters", "keeper", "row", "spot"], fn_A (k := 8) F sc_lost (fun cdv A outer s₀ H E hr => ?_), hm, F.kp, F.binds (ps := ["world", "letters", "keeper", "row", "spot"]) fun _ _ _ _ _ _ us hl => match us, hl with | [_, _, _, _, _], _ => rfl⟩
  unfold S_lost
  exact (ass_cons (as_expr (ae_callX G_check_slip (hr.mono (by first | decide | omega)) (takes_of rfl rfl rfl rfl) (aa_cons (ae_v 0) (aa_cons (ae_v 1) (aa_cons (ae_v 2) (aa_cons (ae_v 3) (aa_cons (ae_v 4) aa_nil)))))))
    (ass_cons (as_set 5 sc_lost.nd (ae_callX G_kept_answers (hr.mono (by first | decide | omega)) (takes_of rfl rfl rfl rfl) (aa_cons (ae_callX G_messages (hr.mono (by first | decide | omega)) (takes_of rfl rfl rfl rfl) (aa_cons (ae_v 0) (aa_cons (ae_v 1) aa_nil))) (aa_cons (ae_v 2) (aa_cons (ae_op op_addA (ae_sl (ae_v 3) ap_none (ap_some (ae_v 4))) (ae_sl (ae_v 3) (ap_some (ae_op op_addA (ae_v 4) ae_int)) ap_none)) aa_nil)))))
    (ass_cons (as_ret (ae_callX G_first_unlike (hr.mono (by first | decide | omega)) (takes_of rfl rfl rfl rfl) (aa_cons (ae_v 0) (aa_cons (ae_v 1) (aa_cons (ae_v 2) (aa_cons (ae_v 3) (aa_cons (ae_v 4) (aa_cons (ae_sl (ae_v 5) (ap_some (ae_v 4)) ap_none) aa_nil))))))))
    ass_nil)))
abbrev s_law : Stmt := topS 41
theorem sc_law : FnScope ["script", "row", "state", "keeper", "told", "states", "message", "spot", "world", "letters", "many", "steps", "every", "twice", "now", "due", "at", "found"] ["script"] (defScope s_law) := ⟨rfl, rfl, rfl, by decide +kernel, rfl, by decide +kernel, by decide +kernel⟩
def S_law : SF :=
  (sSeq (sAsg (.nm 1) (eLst (eCons (eVar 0) (eCons (eC (.int 0)) (eCons (eC (.int 1009)) (eCons (eC (.int 0)) eNil))))))
    (sSeq (sPar 8 9 (eCons (eCall 1 F_law_world (eCons (eVar 1) eNil)) (eCons (eOp oAdd (eC (.int 1)) (eCall 2 F_law_taken (eCons (eVar 1) (eCons (eC (.int 3)) eNil)))) eNil)))
    (sSeq (sAsg (.tp [(.nm 10), (.nm 11), (.nm 12)]) (eTup (eCons (eOp oAdd (eC (.int 1)) (eCall 2 F_law_taken (eCons (eVar 1) (eCons (eC (.int 5)) eNil)))) (eCons (eLst eNil) (eCons (eCall 2 F_law_messages (eCons (eVar 8) (eCons (eVar 9) eNil))) eNil)))))
    (sSeq (sFor (iRng1 (eCons (eVar 10) eNil)) (.nm 2) (sSeq (sExpr (eMeth oAppend (eVar 11) (eCons (eFn oTuple (eCons (eLc (iSeq (eVar 12)) (.nm 6) bYes (eCall 2 F_law_taken (eCons (eVar 1) (eCons (eVar 10) eNil))) [6]) eNil)) eNil)))
    sNil))
    (sSeq (sAsg (.nm 3) (eTup (eCons (eFn oTuple (eCons (eVar 11) eNil)) (eCons (eFn oTuple (eCons (eLc (iSeq (eVar 11)) (.nm 2) bYes (eCall 2 F_law_taken (eCons (eVar 1) (eCons (eC (.int 3)) eNil))) [2]) eNil)) eNil))))
    (sSeq (sAsg (.nm 4) (eFn oTuple (eCons (eLc (iRng1 (eCons (eOp oAdd (eC (.int 1)) (eCall 2 F_law_taken (eCons (eVar 1) (eCons (eC (.int 9)) eNil)))) eNil)) (.nm 6) bYes (eCall 2 F_law_pick (eCons (eVar 1) (eCons (eVar 12) eNil))) [6]) eNil)))
    (sSeq (sAsg (.nm 5) (eLst (eCons (eC (.int 0)) eNil)))
    (sSeq (sFor (iSeq (eVar 4)) (.nm 6) (sSeq (sExpr (eMeth oAppend (eVar 5) (eCons (eOp oIx (eOp oIx (eOp oIx (eVar 3) (eC (.int 0))) (eOp oIx (eVar 5) (eUn oNeg (eC (.int 1))))) (eMeth oIndexD (eVar 12) (eCons (eVar 6) eNil))) eNil)))
    sNil))
    (sSeq (sIf (bNot (eT (eCall 2 (F_law_alike 4) (eCons (eCall 4 F_keep (eCons (eVar 8) (eCons (eVar 9) (eCons (eVar 3) (eCons (eVar 4) eNil))))) (eCons (eFn oTuple (eCons (eLc (iSeq (eVar 5)) (.nm 2) bYes (eOp oIx (eOp oIx (eVar 3) (eC (.int 1))) (eVar 2)) [2]) eNil)) eNil))))) (sSeq (sRet (eC (.bl false)))
    sNil) sNil)
    (sSeq (sFor (iRng1 (eCons (eFn oLenN (eCons (eVar 4) eNil)) eNil)) (.nm 7) (sSeq (sFor (iSeq (eLst (eCons (eC (.bl false)) (eCons (eC (.bl true)) eNil)))) (.nm 13) (sSeq (sAsg (.nm 14) (eIf (eT (eVar 13)) (eOp oIx (eVar 5) (eOp oAdd (eVar 7) (eC (.int 1)))) (eOp oIx (eVar 5) (eVar 7))))
    (sSeq (sIf (eT (eVar 13)) (sSeq (sAsg (.nm 14) (eOp oIx (eOp oIx (eOp oIx (eVar 3) (eC (.int 0))) (eVar 14)) (eMeth oIndexD (eVar 12) (eCons (eOp oIx (eVar 4) (eVar 7)) eNil))))
    sNil) sNil)
    (sSeq (sAsg (.nm 15) (eC .non))
    (sSeq (sFor (iRng2 (eCons (eVar 7) (eCons (eFn oLenN (eCons (eVar 4) eNil)) eNil))) (.nm 16) (sSeq (sIf (eB (eOp oGt (eVar 16) (eVar 7))) (sSeq (sAsg (.nm 14) (eOp oIx (eOp oIx (eOp oIx (eVar 3) (eC (.int 0))) (eVar 14)) (eMeth oIndexD (eVar 12) (eCons (eOp oIx (eVar 4) (eVar 16)) eNil))))
    sNil) sNil)
    (sSeq (sIf (bAnd (eB (eOp oIs (eVar 15) (eC .non))) (eB (eOp oNe (eOp oIx (eOp oIx (eVar 3) (eC (.int 1))) (eVar 14)) (eOp oIx (eOp oIx (eVar 3) (eC (.int 1))) (eOp oIx (eVar 5) (eOp oAdd (eVar 16) (eC (.int 1)))))))) (sSeq (sAsg (.nm 15) (eVar 16))
    sNil) sNil)
    sNil)))
    (sSeq (sAsg (.nm 17) (eIf (eT (eVar 13)) (eCall 5 F_doubled (eCons (eVar 8) (eCons (eVar 9) (eCons (eVar 3) (eCons (eVar 4) (eCons (eVar 7) eNil)))))) (eCall 5 F_lost (eCons (eVar 8) (eCons (eVar 9) (eCons (eVar 3) (eCons (eVar 4) (eCons (eVar 7) eNil))))))))
    (sSeq (sIf (bNot (eT (eCall 2 (F_law_alike 4) (eCons (eVar 17) (eCons (eVar 15) eNil))))) (sSeq (sRet (eC (.bl false)))
    sNil) sNil)
    sNil)))))))
    sNil))
    (sSeq (sRet (eC (.bl true)))
    sNil)))))))))))
def F_law : On' := defA 18 S_law
set_option maxHeartbeats 16000000 in
theorem ok_law {fa : Addr} {fd : FuncData} (T : Txt w K mg) (G_law_world : FnX P w K mg Tb base "_law_world" 3 1 F_law_world) (G_law_taken : FnX P w K mg Tb base "_law_taken" 1 2 F_law_taken) (G_law_messages : FnX P w K mg Tb base "_law_messages" 2 2 F_law_messages) (G_law_pick : FnX P w K mg Tb base "_law_pick" 2 2 F_law_pick) (G_law_alike : FnX P w K mg Tb base "_law_alike" 4 2 (F_law_alike 4)) (G_keep : FnX P w K mg Tb base "keep" 8 4 F_keep) (G_doubled : FnX P w K mg Tb base "doubled" 9 5 F_doubled) (G_lost : FnX P w K mg Tb base "lost" 9 5 F_lost) (F : Fun K "law" "law" s_law fa fd) : FnOk P w K mg base (L2.CX P w) 10 fa fd ["script"] (spA ⟨mg, ⟨w, K, mg, Tb⟩⟩ 1 F_law) := by
  refine fn_A (k := 9) F sc_law (fun cdv A outer s₀ H E hr => ?_)
  unfold S_law
  exact (ass_cons (as_set 1 sc_law.nd (ae_lst (aa_cons (ae_v 0) (aa_cons ae_int (aa_cons ae_int (aa_cons ae_int aa_nil))))))
    (ass_cons (as_par 8 9 rfl sc_law.nd (aa_cons (ae_callX G_law_world (hr.mono (by first | decide | omega)) (takes_of rfl rfl rfl rfl) (aa_cons (ae_v 1) aa_nil)) (aa_cons (ae_op op_addA ae_int (ae_callX G_law_taken (hr.mono (by first | decide | omega)) (takes_of rfl rfl rfl rfl) (aa_cons (ae_v 1) (aa_cons ae_int aa_nil)))) aa_nil)))
    (ass_cons (as_asg (ae_tup (aa_cons (ae_op op_addA ae_int (ae_callX G_law_taken (hr.mono (by first | decide | omega)) (takes_of rfl rfl rfl rfl) (aa_cons (ae_v 1) (aa_cons ae_int aa_nil)))) (aa_cons (ae_lst aa_nil) (aa_cons (ae_callX G_law_messages (hr.mono (by first | decide | omega)) (takes_of rfl rfl rfl rfl) (aa_cons (ae_v 8) (aa_cons (ae_v 9) aa_nil))) aa_nil)))) (ag_tp rfl (ags_cons (ag_nm 10 sc_law.nd) (ags_cons (ag_nm 11 sc_law.nd) (ags_cons (ag_nm 12 sc_law.nd) ags_nil)))))
    (ass_cons (as_for (passes_of rfl) rfl (ai_rng1 T.b_range (aa_cons (ae_v 10) aa_nil)) (ag_nm 2 sc_law.nd) (ass_cons (as_expr (ae_append (ae_v 11) (aa_cons (ae_Ty cr_tuple T.b_tuple (aa_cons (ae_lc [("message", 6)] rfl sc_law.nd (blkOk_by rfl) (by decide) (ai_seq (ae_v 12)) (fun _ _ _ _ _ => (ag_nm 6 sc_law.nd)) (fun _ _ _ _ _ => ats_nil) (fun _ _ _ _ _ => (ae_callX G_law_taken (hr.mono (by first | decide | omega)) takes0 (aa_cons (ae_v 1) (aa_cons (ae_v 10) aa_nil))))) aa_nil)) aa_nil)))
    ass_nil))
    (ass_cons (as_set 3 sc_law.nd (ae_tup (aa_cons (ae_Ty cr_tuple T.b_tuple (aa_cons (ae_v 11) aa_nil)) (aa_cons (ae_Ty cr_tuple T.b_tuple (aa_cons (ae_lc [("state", 2)] rfl sc_law.nd (blkOk_by rfl) (by decide) (ai_seq (ae_v 11)) (fun _ _ _ _ _ => (ag_nm 2 sc_law.nd)) (fun _ _ _ _ _ => ats_nil) (fun _ _ _ _ _ => (ae_callX G_law_taken (hr.mono (by first | decide | omega)) takes0 (aa_cons (ae_v 1) (aa_cons ae_int aa_nil))))) aa_nil)) aa_nil))))
    (ass_cons (as_set 4 sc_law.nd (ae_Ty cr_tuple T.b_tuple (aa_cons (ae_lc [("message", 6)] rfl sc_law.nd (blkOk_by rfl) (by decide) (ai_rng1 T.b_range (aa_cons (ae_op op_addA ae_int (ae_callX G_law_taken (hr.mono (by first | decide | omega)) (takes_of rfl rfl rfl rfl) (aa_cons (ae_v 1) (aa_cons ae_int aa_nil)))) aa_nil)) (fun _ _ _ _ _ => (ag_nm 6 sc_law.nd)) (fun _ _ _ _ _ => ats_nil) (fun _ _ _ _ _ => (ae_callX G_law_pick (hr.mono (by first | decide | omega)) takes0 (aa_cons (ae_v 1) (aa_cons (ae_v 12) aa_nil))))) aa_nil)))
    (ass_cons (as_set 5 sc_law.nd (ae_lst (aa_cons ae_int aa_nil)))
    (ass_cons (as_for (passes_of rfl) rfl (ai_seq (ae_v 4)) (ag_nm 6 sc_law.nd) (ass_cons (as_expr (ae_append (ae_v 5) (aa_cons (ae_ix (ae_ix (ae_ix (ae_v 3) ae_int) (ae_ix (ae_v 5) (ae_un un_negA ae_int))) (ae_indexD (hu65 hr) (ae_v 12) (aa_cons (ae_v 6) aa_nil))) aa_nil)))
    ass_nil))
    (ass_cons (as_if (at_not (at_val (ae_callX G_law_alike (hr.mono (by first | decide | omega)) (takes_of rfl rfl rfl rfl) (aa_cons (ae_callX G_keep (hr.mono (by first | decide | omega)) (takes_of rfl rfl rfl rfl) (aa_cons (ae_v 8) (aa_cons (ae_v 9) (aa_cons (ae_v 3) (aa_cons (ae_v 4) aa_nil))))) (aa_cons (ae_Ty cr_tuple T.b_tuple (aa_cons (ae_lc [("state", 2)] rfl sc_law.nd (blkOk_by rfl) (by decide) (ai_seq (ae_v 5)) (fun _ _ _ _ _ => (ag_nm 2 sc_law.nd)) (fun _ _ _ _ _ => ats_nil) (fun _ _ _ _ _ => (ae_ix (ae_ix (ae_v 3) ae_int) (ae_v 2)))) aa_nil)) aa_nil))))) (ass_cons (as_ret ae_bl)
    ass_nil) ass_nil)
    (ass_cons (as_for (passes_of rfl) rfl (ai_rng1 T.b_range (aa_cons (ae_B cr_lenN T.b_len (aa_cons (ae_v 4) aa_nil)) aa_nil)) (ag_nm 7 sc_law.nd) (ass_cons (as_for (passes_of rfl) rfl (ai_seq (ae_lst (aa_cons ae_bl (aa_cons ae_bl aa_nil)))) (ag_nm 13 sc_law.nd) (ass_cons (as_set 14 sc_law.nd (ae_if (at_val (ae_v 13)) (ae_ix (ae_v 5) (ae_op op_addA (ae_v 7) ae_int)) (ae_ix (ae_v 5) (ae_v 7))))
    (ass_cons (as_if (at_val (ae_v 13)) (ass_cons (as_set 14 sc_law.nd (ae_ix (ae_ix (ae_ix (ae_v 3) ae_int) (ae_v 14)) (ae_indexD (hu65 hr) (ae_v 12) (aa_cons (ae_ix (ae_v 4) (ae_v 7)) aa_nil))))
    ass_nil) ass_nil)
    (ass_cons (as_set 15 sc_law.nd ae_non)
    (ass_cons (as_for (passes_of rfl) rfl (ai_rng2 T.b_range (aa_cons (ae_v 7) (aa_cons (ae_B cr_lenN T.b_len (aa_cons (ae_v 4) aa_nil)) aa_nil))) (ag_nm 16 sc_law.nd) (ass_cons (as_if (at_cmp (op_gtA) (ae_v 16) (ae_v 7)) (ass_cons (as_set 14 sc_law.nd (ae_ix (ae_ix (ae_ix (ae_v 3) ae_int) (ae_v 14)) (ae_indexD (hu65 hr) (ae_v 12) (aa_cons (ae_ix (ae_v 4) (ae_v 16)) aa_nil))))
    ass_nil) ass_nil)
    (ass_cons (as_if (AW.at (aw_and (at_cmp (op_isA) (ae_v 15) ae_non) (aw_and1 (at_cmp (op_neA (hu64 hr)) (ae_ix (ae_ix (ae_v 3) ae_int) (ae_v 14)) (ae_ix (ae_ix (ae_v 3) ae_int) (ae_ix (ae_v 5) (ae_op op_addA (ae_v 16) ae_int))))))) (ass_cons (as_set 15 sc_law.nd (ae_v 16))
    ass_nil) ass_nil)
    ass_nil)))
    (ass_cons (as_set 17 sc_law.nd (ae_if (at_val (ae_v 13)) (ae_callX G_doubled (hr.mono (by first | decide | omega)) (takes_of rfl rfl rfl rfl) (aa_cons (ae_v 8) (aa_cons (ae_v 9) (aa_cons (ae_v 3) (aa_cons (ae_v 4) (aa_cons (ae_v 7) aa_nil)))))) (ae_callX G_lost (hr.mono (by first | decide | omega)) (takes_of rfl rfl rfl rfl) (aa_cons (ae_v 8) (aa_cons (ae_v 9) (aa_cons (ae_v 3) (aa_cons (ae_v 4) (aa_cons (ae_v 7) aa_nil))))))))
    (ass_cons (as_if (at_not (at_val (ae_callX G_law_alike (hr.mono (by first | decide | omega)) (takes_of rfl rfl rfl rfl) (aa_cons (ae_v 17) (aa_cons (ae_v 15) aa_nil))))) (ass_cons (as_ret ae_bl)
    ass_nil) ass_nil)
    ass_nil)))))))
    ass_nil))
    (ass_cons (as_ret ae_bl)
    ass_nil)))))))))))
end
end P09
namespace P09
open PySem PySem.Spec PyProof.Rows L2 AB SM
/-! ### numbers, alike, draws (as over the questions) -/
abbrev nI (n : Nat) : A := .int n
abbrev tI (xs : List Nat) : A := .tup (xs.map nI)
section
variable {M : Store} {i j : Int} {xs : List A}
theorem isi_int : oIsi [.int i, .ty "int"] M = some (.bl true, M) := by simp [oIsi, tyOf?, isiT]
theorem isi_int_bool : oIsi [.int i, .ty "bool"] M = some (.bl false, M) := by simp [oIsi, tyOf?, isiT]
theorem isi_tup : oIsi [.tup xs, .ty "tuple"] M = some (.bl true, M) := by simp [oIsi, tyOf?, isiT]
theorem sizeLine_eq : sizeLine = 16777216 := rfl
theorem ne_int : oNe (.int i) (.int j) M = some (.bl (decide (i ≠ j)), M) := by
  show some (A.bl (!PyData.eqv (.int i) (.int j)), M) = _
  unfold PyData.eqv
  by_cases h : i = j <;> simp [h]
theorem eq_int : oEq (.int i) (.int j) M = some (.bl (decide (i = j)), M) := by
  show some (A.bl (PyData.eqv (.int i) (.int j)), M) = _
  unfold PyData.eqv
  by_cases h : i = j <;> simp [h]
end
theorem is_number_ok {M : Store} {n lo hi : Nat} (h1 : lo ≤ n) (h2 : n ≤ hi) : (F_is_number [nI n, nI lo, nI hi] M).W fun a M' => a = .bl true ∧ M' = M := by
  refine w_def ?_
  unfold S_is_number
  repeat walk_at "ws"
  refine w_toE isi_int ⟨true, rfl, ?_⟩
  rw [if_pos rfl]
  repeat walk_at "ws"
  refine w_toE isi_int_bool ⟨false, rfl, ⟨true, rfl, ?_⟩⟩
  rw [if_pos rfl]
  repeat walk_at "ws"
  refine w_toE rfl ⟨true, by simp; exact h1, ?_⟩
  rw [if_pos rfl]
  repeat walk_at "ws"
  exact w_toE rfl ⟨by simp; exact h2, rfl⟩
theorem bls_true : ∀ xs : List Nat, bls? (xs.map fun _ => A.bl true) = some (xs.map fun _ => true)
  | [] => rfl
  | x :: xs => by
    show (bls? (xs.map fun _ => A.bl true)).map (true :: ·) = _
    rw [bls_true xs]
    rfl
theorem all_true {M : Store} {l : Nat} {α : Type} (f : α → A) {xs : List α} (h : listAt M l = some (xs.map f)) (hf : ∀ x ∈ xs, f x = .bl true) : oAll [.lst l] M = some (.bl true, M) := by
  have e : ∀ xs : List α, (∀ x ∈ xs, f x = .bl true) → bls? (xs.map f) = some (xs.map fun _ => true) := by
    intro xs
    induction xs with
    | nil => intro _; rfl
    | cons x xs ih =>
      intro h
      show bls? (f x :: xs.map f) = _
      rw [h x (by simp)]
      show (bls? (xs.map f)).map (true :: ·) = _
      rw [ih fun y hy => h y (by simp [hy])]
      rfl
  show ((listAt M l).bind bls?).map _ = _
  rw [h]
  show (bls? (xs.map f)).map _ = _
  rw [e xs hf]
  simp
theorem are_numbers_ok {M : Store} {xs : List Nat} {hi : Nat} (hz : xs.length ≤ 1000) (h : ∀ x ∈ xs, x ≤ hi) : (F_are_numbers [tI xs, nI xs.length, nI hi] M).W fun a M' => a = .bl true ∧ Pre M M' := by
  refine w_def ?_
  unfold S_are_numbers
  repeat walk_at "ws"
  refine w_toE isi_tup ⟨true, rfl, ?_⟩
  rw [if_neg (by decide)]
  repeat walk_at "ws"
  refine w_toE rfl ?_
  repeat walk_at "ws"
  refine w_toE ne_int ⟨false, by simp, ?_⟩
  rw [if_neg (by decide)]
  repeat walk_at "ws"
  refine w_lc_map (fun _ => A.bl true) (w_iSeqT ?_)
  walk_at "ws"
  refine ⟨_, rfl, _, rfl, by rw [List.length_map, sizeLine_eq]; omega, fun M2 _ i => rfl, fun x M2 hx p => ?_, fun l M2 hl p h2 => ?_⟩
  · obtain ⟨n, hn, rfl⟩ := List.mem_map.mp hx
    refine ⟨_, rfl, ?_⟩
    repeat walk_at "ws"
    refine ⟨rfl, (is_number_ok (lo := 0) (Nat.zero_le _) (h n hn)).imp fun a M3 e => ⟨e.1, ?_⟩⟩
    rw [e.2]
    exact Fr.refl
  · walk_at "ws"
    refine w_toE (all_true (fun _ => A.bl true) (xs := xs.map nI) (listAt_of h2) fun _ _ => rfl) ⟨rfl, p⟩
/-! ### alike -/
abbrev tl : A := .tup [.ty "tuple", .ty "list"]
section
variable {M : Store} {i j : Int} {xs ys : List A} {b c : Bool} {l k : Nat}
theorem isiA_int : oIsi [.int i, tl] M = some (.bl false, M) := by simp [oIsi, tyOf?, isiT, isiAny]
theorem isiA_bl : oIsi [.bl b, tl] M = some (.bl false, M) := by simp [oIsi, tyOf?, isiT, isiAny]
theorem isiA_non : oIsi [.non, tl] M = some (.bl false, M) := by simp [oIsi, tyOf?, isiT, isiAny]
theorem isiA_tup : oIsi [.tup xs, tl] M = some (.bl true, M) := by simp [oIsi, tyOf?, isiT, isiAny]
theorem isiA_lst (h : listAt M l = some xs) : oIsi [.lst l, tl] M = some (.bl true, M) := by simp [oIsi, tyOf?, isiT, isiAny, h]
theorem isi_tup_list : oIsi [.tup xs, .ty "list"] M = some (.bl false, M) := by simp [oIsi, tyOf?, isiT]
theorem isi_lst_list (h : listAt M l = some xs) : oIsi [.lst l, .ty "list"] M = some (.bl true, M) := by simp [oIsi, tyOf?, isiT, h]
theorem isi_int_str : oIsi [.int i, .ty "str"] M = some (.bl false, M) := by simp [oIsi, tyOf?, isiT]
theorem isi_bl_str : oIsi [.bl b, .ty "str"] M = some (.bl false, M) := by simp [oIsi, tyOf?, isiT]
theorem isi_non_str : oIsi [.non, .ty "str"] M = some (.bl false, M) := by simp [oIsi, tyOf?, isiT]
theorem isi_bl_int : oIsi [.bl b, .ty "int"] M = some (.bl true, M) := by simp [oIsi, tyOf?, isiT]
theorem isi_bl_bool : oIsi [.bl b, .ty "bool"] M = some (.bl true, M) := by simp [oIsi, tyOf?, isiT]
theorem ne_bl : oNe (.bl b) (.bl c) M = some (.bl (b != c), M) := by
  show some (A.bl (!PyData.eqv (.bool b) (.bool c)), M) = _
  unfold PyData.eqv
  cases b <;> cases c <;> rfl
theorem eq_bl : oEq (.bl b) (.bl c) M = some (.bl (b == c), M) := by
  show some (A.bl (PyData.eqv (.bool b) (.bool c)), M) = _
  unfold PyData.eqv
  cases b <;> cases c <;> rfl
theorem eq_non : oEq .non .non M = some (.bl true, M) := by
  show some (A.bl (PyData.eqv .none .none), M) = _
  unfold PyData.eqv
  rfl
theorem datS_nil (h : listAt M l = some []) : datS M (.lst l) = some (.list []) := by
  have e : dat M 8 (.lst l) = some (.list []) := by
    show ((listAt M l).bind fun xs => (xs.mapM (dat M 7)).map PyData.list) = _
    rw [h]
    rfl
  unfold datS
  rw [e]
  rfl
theorem eq_nil (h : listAt M l = some []) (h2 : listAt M k = some []) : oEq (.lst l) (.lst k) M = some (.bl true, M) := by
  unfold oEq
  rw [datS_nil h, datS_nil h2]
  dsimp only
  unfold PyData.eqv PyData.eqvAll
  rfl
end
theorem alike_int {n : Nat} {M : Store} {i : Int} : (F_law_alike (n + 1) [.int i, .int i] M).W fun a M' => a = .bl true ∧ Pre M M' := by
  refine w_def ?_
  unfold S_law_alike
  repeat walk_at "ws"
  refine ⟨by decide, ?_⟩
  walk_at "ws"
  exact w_toE isiA_int ⟨false, rfl, by
    rw [if_neg (by decide)]
    repeat walk_at "ws"
    refine w_toE rfl ⟨false, rfl, ?_⟩
    rw [if_neg (by decide)]
    repeat walk_at "ws"
    refine w_toE isi_int_str ⟨false, rfl, ?_⟩
    rw [if_neg (by decide)]
    repeat walk_at "ws"
    refine w_toE isi_int ⟨true, rfl, ?_⟩
    rw [if_pos rfl]
    repeat walk_at "ws"
    refine w_toE isi_int_bool ?_
    repeat walk_at "ws"
    refine w_toE isi_int_bool ?_
    refine w_toE eq_bl ⟨true, rfl, ?_⟩
    rw [if_pos rfl]
    repeat walk_at "ws"
    refine w_toE eq_int ⟨by simp, Fr.refl⟩⟩
theorem alike_bl {n : Nat} {M : Store} {b : Bool} : (F_law_alike (n + 1) [.bl b, .bl b] M).W fun a M' => a = .bl true ∧ Pre M M' := by
  refine w_def ?_
  unfold S_law_alike
  repeat walk_at "ws"
  refine ⟨by decide, ?_⟩
  walk_at "ws"
  exact w_toE isiA_bl ⟨false, rfl, by
    rw [if_neg (by decide)]
    repeat walk_at "ws"
    refine w_toE rfl ⟨false, rfl, ?_⟩
    rw [if_neg (by decide)]
    repeat walk_at "ws"
    refine w_toE isi_bl_str ⟨false, rfl, ?_⟩
    rw [if_neg (by decide)]
    repeat walk_at "ws"
    refine w_toE isi_bl_int ⟨true, rfl, ?_⟩
    rw [if_pos rfl]
    repeat walk_at "ws"
    refine w_toE isi_bl_bool ?_
    repeat walk_at "ws"
    refine w_toE isi_bl_bool ?_
    refine w_toE eq_bl ⟨true, rfl, ?_⟩
    rw [if_pos rfl]
    repeat walk_at "ws"
    refine w_toE eq_bl ⟨by simp, Fr.refl⟩⟩
theorem alike_non {n : Nat} {M : Store} : (F_law_alike (n + 1) [.non, .non] M).W fun a M' => a = .bl true ∧ Pre M M' := by
  refine w_def ?_
  unfold S_law_alike
  repeat walk_at "ws"
  refine ⟨by decide, ?_⟩
  walk_at "ws"
  exact w_toE isiA_non ⟨false, rfl, by
    rw [if_neg (by decide)]
    repeat walk_at "ws"
    refine w_toE rfl ⟨true, rfl, ?_⟩
    rw [if_pos rfl, if_pos rfl]
    repeat walk_at "ws"
    refine w_toE eq_non ⟨true, rfl, ?_⟩
    rw [if_pos rfl]
    repeat walk_at "ws"
    refine w_toE isi_non_str ?_
    repeat walk_at "ws"
    refine w_toE isi_non_str ?_
    refine w_toE eq_bl ⟨rfl, Fr.refl⟩⟩
def zmax : Nat := 10000
theorem zmax_eq : zmax = 10000 := rfl
theorem not_yes {x : Bool} (h : x = true) : (!x) = false := by rw [h]; rfl
theorem alike_tup {n : Nat} {M : Store} {xs : List A} (hz : xs.length ≤ zmax) (h : ∀ x ∈ xs, ∀ M1 : Store, (F_law_alike n [x, x] M1).W fun a M' => a = .bl true ∧ Pre M1 M') : (F_law_alike (n + 1) [.tup xs, .tup xs] M).W fun a M' => a = .bl true ∧ Pre M M' := by
  refine w_def ?_
  unfold S_law_alike
  repeat walk_at "ws"
  refine ⟨by decide, ?_⟩
  walk_at "ws"
  refine w_toE isiA_tup ⟨true, rfl, ?_⟩
  rw [if_pos rfl]
  repeat walk_at "ws"
  refine ⟨by decide, ?_⟩
  walk_at "ws"
  refine w_toE isiA_tup ⟨true, rfl, ?_⟩
  rw [if_neg (by decide)]
  repeat walk_at "ws"
  refine w_toE isi_tup_list ?_
  repeat walk_at "ws"
  refine w_toE isi_tup_list ?_
  refine w_toE ne_bl ⟨false, rfl, ?_⟩
  rw [if_neg (by decide)]
  repeat walk_at "ws"
  refine w_toE rfl ?_
  repeat walk_at "ws"
  refine w_toE rfl ?_
  refine w_toE ne_int ⟨false, by simp, ?_⟩
  rw [if_neg (by decide)]
  repeat walk_at "ws"
  with_reducible refine w_lc ?_
  with_reducible refine w_rng1 ?_
  repeat walk_at "ws"
  refine w_toE rfl ?_
  walk_at "ws"
  have hz2 := zmax_eq
  refine ⟨xs.length, rfl, by omega, (List.range xs.length).map nI, fun i acc M2 => acc = [] ∧ Pre M M2, by simp [Src.size], by rw [sizeLine_eq]; simp; omega, ⟨rfl, Fr.refl.app _⟩, fun i acc M2 _ => ?_, fun i x acc M2 hx hI hl _ => ?_, fun acc M2 hI hl => ?_⟩
  · show some (if i < xs.length then some (A.int (0 + (i : Nat))) else none) = _
    by_cases hi : i < xs.length
    · rw [if_pos hi, List.getElem?_map, List.getElem?_range hi]
      simp
    · rw [if_neg hi, List.getElem?_eq_none (by simp; omega)]
  · obtain ⟨rfl, p⟩ := hI
    rw [List.getElem?_map] at hx
    obtain ⟨m, hm, rfl⟩ := Option.map_eq_some_iff.mp hx
    have hm2 := List.getElem?_eq_some_iff.mp hm
    obtain ⟨hi, e⟩ := hm2
    rw [List.getElem_range] at e
    rw [List.length_range] at hi
    subst e
    have ex : xs[i]? = some xs[i] := List.getElem?_eq_getElem hi
    refine ⟨_, rfl, ?_⟩
    repeat walk_at "ws"
    refine w_toE (ix_tup ex) ?_
    repeat walk_at "ws"
    refine w_toE (ix_tup ex) ?_
    walk_at "ws"
    refine ⟨rfl, (h xs[i] (List.getElem_mem hi) M2).imp ?_⟩
    rintro _ M3 ⟨rfl, p3⟩
    refine ⟨true, rfl, ?_⟩
    rw [if_neg (by decide)]
    exact ⟨Pre.at p3 hl, rfl, p.trans p3⟩
  · obtain ⟨rfl, p⟩ := hI
    repeat walk_at "ws"
    refine ⟨by decide, w_toE (eq_nil (listAt_of (at_app hl)) (listAt_of at_new)) ⟨rfl, p.app _⟩⟩
theorem alike_ints {n : Nat} {M : Store} {xs : List Nat} (hz : xs.length ≤ zmax) : (F_law_alike (n + 2) [tI xs, tI xs] M).W fun a M' => a = .bl true ∧ Pre M M' :=
  alike_tup (by rw [List.length_map]; exact hz) fun x hx M1 => by
    obtain ⟨m, _, rfl⟩ := List.mem_map.mp hx
    exact alike_int
theorem alike_rows {n : Nat} {M : Store} {xs : List (List Nat)} (hz : xs.length ≤ zmax) (hx : ∀ x ∈ xs, x.length ≤ zmax) : (F_law_alike (n + 3) [.tup (xs.map tI), .tup (xs.map tI)] M).W fun a M' => a = .bl true ∧ Pre M M' :=
  alike_tup (by rw [List.length_map]; exact hz) fun x hx2 M1 => by
    obtain ⟨m, hm, rfl⟩ := List.mem_map.mp hx2
    exact alike_ints (hx m hm)
/-! ### draws -/
def Row (ns : List Int) (a b c : Int) (M : Store) : Prop := M[0]? = some (.frz (ns.map .int)) ∧ M[1]? = some (.lst [.lst 0, .int a, .int b, .int c])
def RowOk (M : Store) : Prop := ∃ ns a b c, Row ns a b c M ∧ 0 ≤ a ∧ 0 ≤ b ∧ b < 2147483647
theorem RowOk.pre {M M' : Store} (h : RowOk M) (p : Pre M M') : RowOk M' := by
  obtain ⟨ns, a, b, c, ⟨h0, h1⟩, r⟩ := h
  exact ⟨ns, a, b, c, ⟨Pre.at p h0, Pre.at p h1⟩, r⟩
theorem RowOk.app {M : Store} (h : RowOk M) (t : List Cell) : RowOk (M ++ t) := h.pre (Fr.refl.app t)
theorem RowOk.lt {M : Store} (h : RowOk M) : 1 < M.length := by
  obtain ⟨ns, a, b, c, ⟨h0, h1⟩, r⟩ := h
  exact at_lt h1
theorem RowOk.set {M : Store} (h : RowOk M) {l : Nat} {c : Cell} (hl : 1 < l) : RowOk (M.set l c) := by
  obtain ⟨ns, a, b, c, ⟨h0, h1⟩, r⟩ := h
  exact ⟨ns, a, b, c, ⟨at_ne (by omega) h0, at_ne (by omega) h1⟩, r⟩
theorem setL_ok {M : Store} {l i : Nat} {xs : List A} {v : A} (h : M[l]? = some (.lst xs)) (hi : i < xs.length) : oSetL M (.lst l) (nI i) v = some (M.set l (.lst (xs.set i v))) := by
  unfold oSetL
  dsimp only
  rw [h]
  dsimp only
  unfold ixN
  rw [if_pos (by omega), if_pos (by omega)]
  simp
theorem mod_nat (x : Int) {n : Nat} (h : 1 ≤ n) : ∃ k : Nat, k < n ∧ x % (n : Int) = (k : Int) := by
  have h1 := Int.emod_nonneg x (show (n : Int) ≠ 0 by omega)
  have h2 := Int.emod_lt_of_pos x (show (0 : Int) < n by omega)
  exact ⟨(x % (n : Int)).toNat, by omega, by omega⟩
theorem mod_ok {M : Store} {x : Int} {n : Nat} (h : 1 ≤ n) : oMod (.int x) (nI n) M = some (.int (x % n), M) := by
  show (if 0 < (n : Int) then some (A.int (x % n), M) else none) = _
  rw [if_pos (by omega)]
theorem fdiv_ok {M : Store} {x : Int} {n : Nat} (h : 1 ≤ n) (h2 : n ≤ 1000) : oFdiv (.int x) (nI n) M = some (.int (x / n), M) := by
  show (if 0 < (n : Int) ∧ (n : Int) < 1073741824 then some (A.int (x / n), M) else none) = _
  rw [if_pos (by omega)]
theorem mul_ok {M : Store} {x : Int} : oMul (.int x) (.int 48271) M = some (.int (x * 48271), M) := by
  show (if (-(2 ^ 64) < x ∧ x < 2 ^ 64) ∨ (-(2 ^ 64) < (48271 : Int) ∧ (48271 : Int) < 2 ^ 64) then some (A.int (x * 48271), M) else none) = _
  rw [if_pos (by omega)]
theorem pow_ok {M : Store} : oPow (.int 10) (.int 18) M = some (.int (10 ^ 18), M) := by
  unfold oPow
  simp
theorem rowIx {ns : List Int} {a b c : Int} {M : Store} (r : Row ns a b c M) {i : Nat} {x : A} (h : [A.lst 0, .int a, .int b, .int c][i]? = some x) : oIx (.lst 1) (nI i) M = some (x, M) := ix_lst (listAt_of r.2) h
theorem Row.set {ns : List Int} {a b c : Int} {M : Store} (r : Row ns a b c M) {a' b' c' : Int} : Row ns a' b' c' (M.set 1 (.lst [.lst 0, .int a', .int b', .int c'])) := ⟨at_ne (by omega) r.1, at_set r.2⟩
def Drawn (n : Nat) (M : Store) (a : A) (M' : Store) : Prop := ∃ k : Nat, k < n ∧ a = nI k ∧ Fr (some 1) M M' ∧ RowOk M'
theorem taken_ok {M : Store} {n : Nat} (h : RowOk M) (h1 : 1 ≤ n) (h2 : n ≤ 1000) : (F_law_taken [.lst 1, nI n] M).W (Drawn n M) := by
  obtain ⟨ns, a, b, c, r, ha, hb, hb2⟩ := h
  refine w_def ?_
  unfold S_law_taken
  repeat walk_at "ws"
  refine w_toE (rowIx (i := 3) r rfl) ?_
  repeat walk_at "ws"
  refine w_toE rfl ⟨_, rfl, ?_⟩
  split
  · repeat walk_at "ws"
    refine w_toE (rowIx (i := 3) r rfl) ?_
    repeat walk_at "ws"
    refine w_toE rfl ?_
    repeat walk_at "ws"
    refine w_toE (mod_ok h1) ?_
    repeat walk_at "ws"
    refine w_toE (rowIx (i := 3) r rfl) ?_
    repeat walk_at "ws"
    refine w_toE (fdiv_ok h1 h2) ?_
    repeat walk_at "ws"
    refine ⟨_, setL_ok (i := 3) r.2 (by simp), ?_⟩
    repeat walk_at "ws"
    obtain ⟨k, hk, e⟩ := mod_nat c h1
    exact ⟨k, hk, by rw [e], Fr.refl.setr, ns, a, b, _, r.set, ha, hb, hb2⟩
  · repeat walk_at "ws"
    refine w_toE (rowIx (i := 1) r rfl) ?_
    repeat walk_at "ws"
    refine w_toE rfl ?_
    repeat walk_at "ws"
    refine ⟨_, setL_ok (i := 1) r.2 (by simp), ?_⟩
    have r1 : Row ns (a + 1) b c (M.set 1 (.lst [.lst 0, .int (a + 1), .int b, .int c])) := r.set
    have f1 : Fr (some 1) M (M.set 1 (.lst [.lst 0, .int (a + 1), .int b, .int c])) := Fr.refl.setr
    show ((sSeq _ _ : SF) _ (M.set 1 (.lst [.lst 0, .int (a + 1), .int b, .int c]))).W _ _
    revert r1 f1
    generalize M.set 1 (.lst [.lst 0, .int (a + 1), .int b, .int c]) = M1
    intro r1 f1
    repeat walk_at "ws"
    refine w_toE (rowIx (i := 1) r1 rfl) ?_
    repeat walk_at "ws"
    refine w_toE (rowIx (i := 0) r1 rfl) ?_
    repeat walk_at "ws"
    refine w_toE (len_lst (listAt_frz r1.1)) ?_
    refine w_toE rfl ⟨_, rfl, ?_⟩
    split
    · repeat walk_at "ws"
      refine w_toE (rowIx (i := 2) r1 rfl) ?_
      repeat walk_at "ws"
      refine w_toE mul_ok ?_
      repeat walk_at "ws"
      refine w_toE rfl ?_
      repeat walk_at "ws"
      refine w_toE rfl ?_
      repeat walk_at "ws"
      refine w_toE (mod_ok (n := 2147483647) (by omega)) ?_
      repeat walk_at "ws"
      refine ⟨_, setL_ok (i := 2) r1.2 (by simp), ?_⟩
      obtain ⟨k2, hk2, e2⟩ := mod_nat (b * 48271 + 11) (n := 2147483647) (by omega)
      have r2 : Row ns (a + 1) ((b * 48271 + 11) % ((2147483647 : Nat) : Int)) c (M1.set 1 (.lst [.lst 0, .int (a + 1), .int ((b * 48271 + 11) % ((2147483647 : Nat) : Int)), .int c])) := r1.set
      have f2 : Fr (some 1) M (M1.set 1 (.lst [.lst 0, .int (a + 1), .int ((b * 48271 + 11) % ((2147483647 : Nat) : Int)), .int c])) := f1.setr
      show ((sSeq _ _ : SF) _ (M1.set 1 (.lst [.lst 0, .int (a + 1), .int ((b * 48271 + 11) % ((2147483647 : Nat) : Int)), .int c]))).W _ _
      revert r2 f2
      generalize M1.set 1 (.lst [.lst 0, .int (a + 1), .int ((b * 48271 + 11) % ((2147483647 : Nat) : Int)), .int c]) = M2
      intro r2 f2
      repeat walk_at "ws"
      refine w_toE (rowIx (i := 2) r2 rfl) ?_
      repeat walk_at "ws"
      refine w_toE (fdiv_ok (n := 7) (by omega) (by omega)) ?_
      repeat walk_at "ws"
      refine w_toE rfl ?_
      repeat walk_at "ws"
      refine w_toE (mod_ok h1) ?_
      obtain ⟨k, hk, e⟩ := mod_nat ((b * 48271 + 11) % ((2147483647 : Nat) : Int) / ((7 : Nat) : Int)) h1
      exact ⟨k, hk, by rw [e], f2, ns, _, _, c, r2, by omega, by omega, by omega⟩
    · rename_i hlen
      have hlen : a < ns.length := by
        simp at hlen
        omega
      repeat walk_at "ws"
      refine w_toE (rowIx (i := 0) r1 rfl) ?_
      repeat walk_at "ws"
      refine w_toE (rowIx (i := 1) r1 rfl) ?_
      repeat walk_at "ws"
      refine w_toE rfl ?_
      obtain ⟨j, rfl⟩ := Int.eq_ofNat_of_zero_le ha
      have hj : j < ns.length := by omega
      have ej : ((j : Int) + 1 - 1) = ((j : Nat) : Int) := by omega
      rw [ej]
      refine w_toE (ix_lst (i := j) (x := .int ns[j]) (listAt_frz r1.1) (by rw [List.getElem?_map, List.getElem?_eq_getElem hj]; rfl)) ?_
      repeat walk_at "ws"
      refine w_toE (rowIx (i := 2) r1 rfl) ?_
      repeat walk_at "ws"
      refine w_toE mul_ok ?_
      repeat walk_at "ws"
      refine w_toE rfl ?_
      repeat walk_at "ws"
      refine w_toE rfl ?_
      repeat walk_at "ws"
      refine w_toE rfl ?_
      repeat walk_at "ws"
      refine w_toE (mod_ok (n := 2147483647) (by omega)) ?_
      repeat walk_at "ws"
      refine ⟨_, setL_ok (i := 2) r1.2 (by simp), ?_⟩
      obtain ⟨k2, hk2, e2⟩ := mod_nat (b * 48271 + ns[j] + 11) (n := 2147483647) (by omega)
      have r2 : Row ns (j + 1) ((b * 48271 + ns[j] + 11) % ((2147483647 : Nat) : Int)) c (M1.set 1 (.lst [.lst 0, .int (j + 1), .int ((b * 48271 + ns[j] + 11) % ((2147483647 : Nat) : Int)), .int c])) := r1.set
      have f2 : Fr (some 1) M (M1.set 1 (.lst [.lst 0, .int (j + 1), .int ((b * 48271 + ns[j] + 11) % ((2147483647 : Nat) : Int)), .int c])) := f1.setr
      show ((sSeq _ _ : SF) _ (M1.set 1 (.lst [.lst 0, .int (j + 1), .int ((b * 48271 + ns[j] + 11) % ((2147483647 : Nat) : Int)), .int c]))).W _ _
      revert r2 f2
      generalize M1.set 1 (.lst [.lst 0, .int (j + 1), .int ((b * 48271 + ns[j] + 11) % ((2147483647 : Nat) : Int)), .int c]) = M2
      intro r2 f2
      obtain ⟨k, hk, e⟩ := mod_nat ns[j] h1
      repeat walk_at "ws"
      refine w_toE pow_ok ?_
      refine w_toE rfl ⟨_, rfl, ?_⟩
      split
      · repeat walk_at "ws"
        refine w_toE (fdiv_ok h1 h2) ?_
        repeat walk_at "ws"
        refine ⟨_, setL_ok (i := 3) r2.2 (by simp), ?_⟩
        repeat walk_at "ws"
        refine w_toE rfl ?_
        repeat walk_at "ws"
        refine w_toE (mod_ok h1) ?_
        exact ⟨k, hk, by rw [e], f2.setr, ns, _, _, _, r2.set, by omega, by omega, by omega⟩
      · repeat walk_at "ws"
        refine w_toE rfl ?_
        repeat walk_at "ws"
        refine w_toE (mod_ok h1) ?_
        exact ⟨k, hk, by rw [e], f2, ns, _, _, _, r2, by omega, by omega, by omega⟩
theorem pick_ok {M : Store} {l : Nat} {xs : List A} (h : RowOk M) (hx : M[l]? = some (.lst xs)) (hl : 1 < l) (h1 : 1 ≤ xs.length) (h2 : xs.length ≤ 1000) : (F_law_pick [.lst 1, .lst l] M).W fun a M' => a ∈ xs ∧ Fr (some 1) M M' ∧ RowOk M' := by
  refine w_def ?_
  unfold S_law_pick
  repeat walk_at "ws"
  refine w_toE (len_lst (listAt_of hx)) ?_
  walk_at "ws"
  refine ⟨rfl, (taken_ok h h1 h2).imp ?_⟩
  rintro _ M1 ⟨k, hk, rfl, f, r⟩
  have e : xs[k]? = some xs[k] := List.getElem?_eq_getElem hk
  exact w_toE (ix_lst (listAt_of (f.at hx (by simp; omega))) e) ⟨List.getElem_mem hk, f, r⟩
end P09
namespace P09
open PySem PySem.Spec PyProof.Rows L2 AB SM
/-! ### messages -/
def worlds : List Str := ["end", "ends", "stack", "deque", "in", "inout", "relabel", "reverse"]
def wordsOf (w : Str) : List Str := (tb_WORDS.lookup w).getD []
def permRows (n : Nat) : List (List Int) := (List.range (PM.fct n)).map fun i => (PM.ix n i).map fun j : Nat => (j : Int)
def withWord (word : Str) (n : Nat) : List Msg := (List.range n).map fun a : Nat => (word, .num (a : Int))
def turnsOf (w : Str) (n : Nat) : List Msg := if w = "reverse" then [("turn", .one)] else (permRows n).map fun r => ("turn", .tup r)
def msgsWith (w : Str) (n : Nat) (word : Str) : List Msg := if word ≠ "turn" then withWord word n else turnsOf w n
def cat (w : Str) (n : Nat) : List Msg := (wordsOf w).flatMap (msgsWith w n)
def msgs (w : Str) (n : Nat) : List Msg := sortM (cat w n)
section
variable {M : Store} {x y : Str} {l : Nat} {xs ys : List A}
theorem datS_str (h : SeqAt.shaped (.str x) = true) : datS M (.str x) = some (.str x) := by
  unfold datS
  simp only [dat]
  rw [if_pos h]
theorem eq_str (hx : SeqAt.shaped (.str x) = true) (hy : SeqAt.shaped (.str y) = true) : oEq (.str x) (.str y) M = some (.bl (decide (x = y)), M) := by
  unfold oEq
  rw [datS_str hx, datS_str hy]
  dsimp only
  unfold PyData.eqv
  by_cases h : x = y <;> simp [h]
theorem ne_str (hx : SeqAt.shaped (.str x) = true) (hy : SeqAt.shaped (.str y) = true) : oNe (.str x) (.str y) M = some (.bl (decide (x ≠ y)), M) := by
  unfold oNe
  rw [datS_str hx, datS_str hy]
  dsimp only
  unfold PyData.eqv
  by_cases h : x = y <;> simp [h]
theorem add_lst {k : Nat} (h1 : M[l]? = some (.lst xs)) (h2 : M[k]? = some (.lst ys)) (hz : xs.length + ys.length ≤ 16777216) : oAdd (.lst l) (.lst k) M = some (.lst M.length, M ++ [.lst (xs ++ ys)]) := by
  unfold oAdd
  dsimp only
  rw [h1, h2]
  dsimp only
  rw [if_pos (by rw [sizeLine_eq]; exact hz)]
theorem extend_ok {k : Nat} (h1 : M[l]? = some (.lst xs)) (h2 : M[k]? = some (.lst ys)) (hz : xs.length + ys.length ≤ 16777216) : oExtend (.lst l) [.lst k] M = some (.non, M.set l (.lst (xs ++ ys))) := by
  unfold oExtend
  dsimp only
  rw [h1, h2]
  dsimp only
  rw [if_pos (by rw [sizeLine_eq]; exact hz)]
theorem rst_A (r : Rst) : rst? (rstA r) = some r := by
  cases r with
  | one => rfl
  | num i => rfl
  | tup ns => show (ints? (ns.map A.int)).map Rst.tup = _; rw [AB.ints_map]; rfl
theorem msgs_A : ∀ q : List Msg, msgs? (q.map msgA) = some q
  | [] => rfl
  | (w, r) :: q => by
    show (match rst? (rstA r), msgs? (q.map msgA) with
      | some m, some l => some ((w, m) :: l)
      | _, _ => none) = _
    rw [rst_A, msgs_A q]
theorem tups_A : ∀ m (q : List Msg), tups? ((m :: q).map msgA) = none
  | (w, r), q => rfl
theorem sortM_ok {m : Msg} {q : List Msg} (h : M[l]? = some (.lst ((m :: q).map msgA))) (hc : ((m :: q).all fun m' => (m :: q).all fun m2 => compat m' m2) = true) : oSortM [.lst l] M = some (.lst M.length, M ++ [.lst ((sortM (m :: q)).map msgA)]) := by
  unfold oSortM
  dsimp only
  rw [listAt_of h]
  dsimp only
  rw [tups_A, msgs_A]
  dsimp only
  rw [if_pos hc]
end
theorem world_ok {M : Store} (h : RowOk M) : (F_law_world [.lst 1] M).W fun a M' => (∃ w ∈ worlds, a = .str w) ∧ Fr (some 1) M M' ∧ RowOk M' := by
  refine w_def ?_
  unfold S_law_world
  repeat walk_at "wt"
  refine ⟨by rw [sizeLine_eq]; simp, ?_⟩
  repeat walk_at "wt"
  refine ⟨by rw [sizeLine_eq]; simp, ?_⟩
  refine w_toE (add_lst (at_app at_new) at_new (by simp)) ?_
  repeat walk_at "wt"
  refine ⟨rfl, ?_⟩
  have hl := h.lt
  refine (pick_ok (((h.app _).app _).app _) at_new (by simp <;> omega) (by simp) (by simp)).imp fun a M' ⟨ha, f, r⟩ => ⟨?_, ((((Fr.refl.app _).app _).app _).trans f), r⟩
  simp only [List.mem_append, List.mem_cons, List.not_mem_nil, or_false] at ha
  rcases ha with (rfl | rfl | rfl | rfl | rfl | rfl | rfl | rfl) | rfl | rfl | rfl <;> exact ⟨_, by decide, rfl⟩
theorem words_some : ∀ w ∈ worlds, tb_WORDS.lookup w = some (wordsOf w) := by decide
theorem check_world_ok {M : Store} {w : Str} (hw : w ∈ worlds) : (F_check_world [.str w] M).W fun a M' => M' = M := by
  refine w_def ?_
  unfold S_check_world
  repeat walk_at "wt"
  refine w_toE (by rfl) ⟨true, rfl, ?_⟩
  rw [if_neg (by decide)]
  repeat walk_at "wt"
  refine ⟨w, _, rfl, words_some w hw, false, rfl, ?_⟩
  rw [if_neg (by decide)]
  repeat walk_at "wt"
  rfl
theorem check_letters_ok {M : Store} {n : Nat} (h1 : 1 ≤ n) (h3 : n ≤ 3) : (F_check_letters [nI n] M).W fun a M' => M' = M := by
  refine w_def ?_
  unfold S_check_letters
  repeat walk_at "wt"
  refine ⟨rfl, (is_number_ok (lo := 1) (hi := 3) h1 h3).imp ?_⟩
  rintro a M1 ⟨rfl, rfl⟩
  refine ⟨true, rfl, ?_⟩
  rw [if_neg (by decide)]
  repeat walk_at "wt"
  rfl
section
variable {M : Store} {a b n l k : Nat} {xs : List Nat}
theorem add_nat : oAdd (nI a) (nI b) M = some (nI (a + b), M) := rfl
end
theorem rng_len {n : Nat} : ((List.range n).map nI).length = n := by simp
theorem rng_at {M : Store} {n i : Nat} : (Src.rng 0 n).at M i = some ((List.range n).map nI)[i]? := by
  show some (if i < n then some (A.int (0 + (i : Nat))) else none) = _
  by_cases hi : i < n
  · rw [if_pos hi, List.getElem?_map, List.getElem?_range hi]
    simp
  · rw [if_neg hi, List.getElem?_eq_none (by simp; omega)]
theorem w_lc_rng {fi : EI} {t : Tgt} {fe : EF} {own : List Nat} {τ : Sl} {M : Store} {Q : A → Store → Prop} {n : Nat} (g : Nat → A)
    (h : (fi τ M).W fun src M1 => src = .rng 0 n ∧ n ≤ 1000000 ∧ (∀ i M2, i < n → Pre M1 M2 → ∃ τ1, t.set (nI i) (wipeA τ own) = some τ1 ∧ (fe τ1 M2).W fun y M3 => y = g i ∧ Pre M2 M3) ∧
      (∀ l M2, M1.length ≤ l → Pre M1 M2 → M2[l]? = some (.lst ((List.range n).map g)) → Q (.lst l) M2)) : (eLc fi t bYes fe own τ M).W Q := by
  refine w_lc_map (fun a => match a with
    | .int i => g i.toNat
    | a => a) (h.imp fun src M1 ⟨e, hn, hs, hq⟩ => ?_)
  subst e
  refine ⟨(List.range n).map nI, by simp [Src.size], by rw [rng_len, sizeLine_eq]; omega, fun M2 _ i => rng_at, fun x M2 hx p => ?_, fun l M2 hl p h2 => hq l M2 hl p ?_⟩
  · obtain ⟨i, hi, rfl⟩ := List.mem_map.mp hx
    obtain ⟨τ1, e1, w⟩ := hs i M2 (List.mem_range.mp hi) p
    exact ⟨τ1, e1, w⟩
  · rw [h2, List.map_map]
    rfl
end P09
namespace P09
open PySem PySem.Spec PyProof.Rows L2 AB SM
theorem shaped_world : ∀ w ∈ worlds, SeqAt.shaped (.str w) = true := by decide +kernel
theorem shaped_word : ∀ w ∈ worlds, ∀ x ∈ wordsOf w, SeqAt.shaped (.str x) = true := by decide +kernel
theorem shaped_turn : SeqAt.shaped (.str "turn") = true := by decide +kernel
theorem shaped_rev : SeqAt.shaped (.str "reverse") = true := by decide +kernel
theorem shaped_rel : SeqAt.shaped (.str "relabel") = true := by decide +kernel
def nums : List Nat := [1, 2, 3]
theorem num_mem {n : Nat} (h1 : 1 ≤ n) (h3 : n ≤ 3) : n ∈ nums := by unfold nums; simp; omega
theorem cat_ok : ∀ w ∈ worlds, ∀ n ∈ nums, (cat w n).isEmpty = false ∧ (cat w n).length ≤ 100 ∧ ((cat w n).all fun m' => (cat w n).all fun m2 => compat m' m2) = true := by decide +kernel
theorem messages_with_ok {M : Store} {w x : Str} {n : Nat} (hw : w ∈ worlds) (hx : x ∈ wordsOf w) (h1 : 1 ≤ n) (h3 : n ≤ 3) :
    (F_messages_with [.str w, nI n, .str x] M).W fun a M' => ∃ l, a = .lst l ∧ M.length ≤ l ∧ M'[l]? = some (.lst ((msgsWith w n x).map msgA)) ∧ Pre M M' := by
  refine w_def ?_
  unfold S_messages_with
  repeat walk_at "wt"
  refine w_toE (ne_str (shaped_word w hw x hx) shaped_turn) ⟨_, rfl, ?_⟩
  unfold msgsWith
  by_cases ht : x = "turn"
  · subst ht
    rw [if_neg (by decide), if_neg (by decide)]
    repeat walk_at "wt"
    refine w_toE (eq_str (shaped_world w hw) shaped_rev) ⟨_, rfl, ?_⟩
    unfold turnsOf
    by_cases hr : w = "reverse"
    · subst hr
      rw [if_pos (by decide), if_pos rfl]
      repeat walk_at "wt"
      refine ⟨by simp [sizeLine_eq], ?_⟩
      repeat walk_at "wt"
      exact ⟨by simp [sizeLine_eq], _, rfl, Nat.le_refl _, at_new, Fr.refl.app _⟩
    · rw [if_neg (by simpa using hr), if_neg hr]
      repeat walk_at "wt"
      refine w_lc_map (fun a => .tup [.str "turn", a]) (w_iPerm ?_)
      repeat walk_at "wt"
      refine ⟨_, rfl, n, rfl, h1, h3, permA n, rfl, ?_, fun M2 _ i => rfl, fun y M2 hy p => ⟨_, rfl, ?_⟩, fun l M2 hl p h2 => ⟨l, rfl, hl, ?_, p⟩⟩
      · unfold permA; rw [List.length_map, List.length_range, sizeLine_eq]
        rcases (by omega : n = 1 ∨ n = 2 ∨ n = 3) with rfl | rfl | rfl <;> decide
      · repeat walk_at "wt"
        exact ⟨by simp [sizeLine_eq], rfl, Fr.refl⟩
      · rw [h2]
        unfold permA permRows
        simp only [List.map_map]
        congr 2
        refine List.map_congr_left fun i _ => ?_
        simp [msgA, rstA]
  · rw [if_pos (by simpa using ht), if_pos ht]
    repeat walk_at "wt"
    refine w_lc_rng (n := n) (fun i => .tup [.str x, nI i]) (w_rng1 ?_)
    repeat walk_at "wt"
    refine ⟨n, rfl, by omega, rfl, by omega, fun i M2 hi p => ⟨_, rfl, ?_⟩, fun l M2 hl p h2 => ⟨l, rfl, hl, ?_, p⟩⟩
    · repeat walk_at "wt"
      exact ⟨by simp [sizeLine_eq], rfl, Fr.refl⟩
    · rw [h2]
      unfold withWord
      rw [List.map_map]
      rfl
theorem flat_take {α β : Type} (f : α → List β) : ∀ {ws : List α} {i : Nat} {x : α}, ws[i]? = some x → (ws.take (i + 1)).flatMap f = (ws.take i).flatMap f ++ f x := by
  intro ws i x h
  rw [List.take_add_one, h, List.flatMap_append]
  simp
theorem flat_le {α β : Type} (f : α → List β) {ws : List α} (i : Nat) : ((ws.take i).flatMap f).length ≤ (ws.flatMap f).length := by
  have : ws.flatMap f = (ws.take i).flatMap f ++ (ws.drop i).flatMap f := by rw [← List.flatMap_append, List.take_append_drop]
  rw [this, List.length_append]; omega
theorem messages_ok {M : Store} {w : Str} {n : Nat} (hw : w ∈ worlds) (h1 : 1 ≤ n) (h3 : n ≤ 3) :
    (F_messages [.str w, nI n] M).W fun a M' => a = .tup ((msgs w n).map msgA) ∧ Pre M M' := by
  obtain ⟨hc1, hc2, hc3⟩ := cat_ok w hw n (num_mem h1 h3)
  refine w_def ?_
  unfold S_messages
  repeat walk_at "wt"
  refine ⟨rfl, (check_world_ok hw).imp ?_⟩
  rintro a M1 rfl
  repeat walk_at "wt"
  refine ⟨rfl, (check_letters_ok h1 h3).imp ?_⟩
  rintro a M2 rfl
  repeat walk_at "wt"
  refine ⟨by simp [sizeLine_eq], ?_⟩
  refine w_seq (w_for (w_iK (w_kIx ?_)))
  repeat walk_at "wt"
  refine ⟨w, _, rfl, words_some w hw, (wordsOf w).map A.str, fun i τ M' => τ.length = 4 ∧ τ[0]? = some (some (.str w)) ∧ τ[1]? = some (some (nI n)) ∧ τ[2]? = some (some (.lst M2.length)) ∧ M'[M2.length]? = some (.lst ((((wordsOf w).take i).flatMap (msgsWith w n)).map msgA)) ∧ Pre M2 M', rfl, ⟨rfl, rfl, rfl, rfl, at_new, Fr.refl.app _⟩, fun i τ M' _ => rfl, fun i x τ M' hx hI => ?_, fun τ M' hI => ?_⟩
  · obtain ⟨e0, e1, e2, e3, e4, p⟩ := hI
    rw [List.getElem?_map] at hx
    obtain ⟨y, hy, rfl⟩ := Option.map_eq_some_iff.mp hx
    refine ⟨_, rfl, ?_⟩
    have lt : 3 < τ.length := by omega
    refine w_seq (w_expr (w_meth (w_var (a := .lst M2.length) (by simpa [setN] using e3) ⟨isL_of e4, ?_⟩)))
    refine w_cons (w_call (w_cons (w_var (a := .str w) (by simpa [setN] using e1) (w_cons (w_var (a := nI n) (by simpa [setN] using e2) (w_cons (w_var (a := .str y) (by simp [setN, lt]) (w_nil ⟨rfl, ?_⟩))))))))
    refine (messages_with_ok hw (List.mem_of_getElem? hy) h1 h3).imp ?_
    rintro _ M3 ⟨l, rfl, hl, h2, p2⟩
    have e5 := p2.at e4
    refine w_nil (w_toE (extend_ok e5 h2 ?_) (w_sNil ⟨by simp [setN, e0], by simpa [setN] using e1, by simpa [setN] using e2, by simpa [setN] using e3, ?_, (p.trans p2).set (Nat.le_refl _)⟩))
    · have := flat_le (msgsWith w n) (ws := wordsOf w) (i + 1)
      rw [flat_take _ hy, List.length_append] at this
      have h100 : ((wordsOf w).flatMap (msgsWith w n)).length ≤ 100 := hc2
      rw [List.length_map, List.length_map]; omega
    · rw [at_set e5, flat_take _ hy, List.map_append]
  · obtain ⟨e0, e1, e2, e3, e4, p⟩ := hI
    rw [List.length_map, List.take_length] at e4
    have e4 : M'[M2.length]? = some (.lst ((cat w n).map msgA)) := e4
    cases hcat : cat w n with
    | nil => rw [hcat] at hc1; cases hc1
    | cons m q =>
      rw [hcat] at e4 hc3
      refine w_seq (w_ret (w_fn (w_cons (w_fn (w_cons (w_var (a := .lst M2.length) e3 (w_nil (w_toE (sortM_ok e4 hc3) (w_nil (w_toE (tuple_lst (listAt_of at_new)) ?_))))))))))
      refine ⟨?_, p.app _⟩
      unfold msgs; rw [hcat]
end P09
namespace P09
open PySem PySem.Spec PyProof.Rows L2 AB SM
/-! ### the law's own messages -/
def more (n : Nat) (r : List Nat) : List (List Nat) := ((List.range n).filter fun j => !r.contains j).map fun j => r ++ [j]
def ords (n : Nat) : Nat → List (List Nat)
  | 0 => [[]]
  | t + 1 => (ords n t).flatMap (more n)
def rI (r : List Nat) : List Int := r.map fun j : Nat => (j : Int)
def lawTurns (n : Nat) : List Msg := (SX.sortL ((ords n n).map rI)).map fun r => ("turn", .tup r)
def kindsT : List (Str × List Str) := [("ends", ["front"]), ("stack", ["chop"]), ("deque", ["behead", "chop", "front"]), ("inout", ["take"])]
def lawKinds (w : Str) : List Str := (kindsT.lookup w).getD [] ++ [("put" : Str)]
def turnOne : List Msg := [(("turn" : Str), Rst.one)]
def lawCat0 (w : Str) (n : Nat) : List Msg := (lawKinds w).flatMap (fun x => withWord x n)
def lawCat1 (w : Str) (n : Nat) : List Msg := lawCat0 w n ++ if w = "relabel" then lawTurns n else []
def lawCat (w : Str) (n : Nat) : List Msg := lawCat1 w n ++ if w = "reverse" then turnOne else []
theorem ords_ok : ∀ n ∈ nums, (ords n n).length ≤ 100 ∧ (∀ r ∈ ords n n, r ≠ []) ∧ (∀ t, t ≤ 3 → (ords n t).length ≤ 100) := by decide +kernel
theorem lawCat_ok : ∀ w ∈ worlds, ∀ n ∈ nums, (lawCat w n).isEmpty = false ∧ (lawCat w n).length ≤ 100 ∧ ((lawCat w n).all fun m' => (lawCat w n).all fun m2 => compat m' m2) = true ∧ sortM (lawCat w n) = msgs w n := by decide +kernel
theorem tI_rI (r : List Nat) : tI r = tupI (rI r) := by unfold tI tupI rI; rw [List.map_map]; rfl
theorem tups_I : ∀ {q : List (List Int)}, (∀ x ∈ q, x ≠ []) → tups? (q.map tupI) = some q
  | [], _ => rfl
  | x :: q, h => by
    have hx := h x (by simp)
    cases x with
    | nil => exact absurd rfl hx
    | cons i is =>
      show (match ints? ((i :: is).map A.int), tups? (q.map tupI) with
        | some (i :: is), some q => some ((i :: is) :: q)
        | _, _ => none) = _
      rw [AB.ints_map, tups_I fun y hy => h y (by simp [hy])]
theorem flats_nI : ∀ r : List Nat, (r.map nI).mapM flat? = some (r.map fun j : Nat => V.int (j : Int))
  | [] => rfl
  | j :: r => by
    rw [List.map_cons, List.mapM_cons, flats_nI r]
    rfl
theorem inV_nI (j : Nat) : ∀ r : List Nat, inV (.int (j : Int)) (r.map fun j : Nat => V.int (j : Int)) = r.contains j := by
  intro r
  induction r with
  | nil => rfl
  | cons k r ih =>
    unfold inV at ih ⊢
    rw [List.map_cons, List.any_cons, ih, List.contains_cons]
    congr 1
    show ((k : Int) == (j : Int)) = (j == k)
    exact Bool.eq_iff_iff.mpr (by simp; omega)
theorem notIn_nI {M : Store} {j : Nat} {r : List Nat} : oNotIn (nI j) (tI r) M = some (.bl (!r.contains j), M) := by
  unfold oNotIn notO oIn
  dsimp only
  rw [flats_nI]
  dsimp only [flat?]
  rw [inV_nI]
theorem more_ok {τ : Sl} {M : Store} {n : Nat} {r : List Nat} {Q : A → Store → Prop} (h0 : τ[0]? = some (some (nI n))) (h4 : τ[4]? = some (some (tI r))) (h5 : τ.length = 6) (hn : n ≤ 3) (hr : r.length ≤ 10)
    (hq : ∀ l M2, M.length ≤ l → Pre M M2 → M2[l]? = some (.lst ((more n r).map tI)) → Q (.lst l) M2) :
    (eLc (iRng1 (eCons (eVar 0) eNil)) (.nm 5) (eB (eOp oNotIn (eVar 5) (eVar 4))) (eOp oAdd (eVar 4) (eTup (eCons (eVar 5) eNil))) [5] τ M).W Q := by
  refine w_lc (w_rng1 ?_)
  refine w_cons (w_var (a := nI n) h0 (w_nil ⟨n, rfl, by omega, (List.range n).map nI, fun i acc M2 => acc = ((((List.range n).take i).filter fun j => !r.contains j).map fun j => tI (r ++ [j])) ∧ Pre M M2, by simp [Src.size], by simp [sizeLine_eq]; omega, ⟨rfl, Fr.refl.app _⟩, fun i acc M2 _ => rng_at, fun i x acc M2 hx hI hl _ => ?_, fun acc M2 hI hl => ?_⟩))
  · obtain ⟨rfl, p⟩ := hI
    have hi : i < n := by
      have := (List.getElem?_eq_some_iff.mp hx).1
      simpa using this
    have ex : x = nI i := by
      rw [List.getElem?_map, List.getElem?_range hi] at hx
      exact (Option.some.inj hx).symm
    subst ex
    have l5 : (wipeA τ [5]).length = 6 := by simp [wipeA, h5]
    refine ⟨_, rfl, ?_⟩
    have v5 : ((wipeA τ [5]).set 5 (some (nI i)))[5]? = some (some (nI i)) := by rw [List.getElem?_set_self (by omega)]
    have v4 : ((wipeA τ [5]).set 5 (some (nI i)))[4]? = some (some (tI r)) := by simp [wipeA, h4]
    refine w_B (w_op (w_var (a := nI i) v5 (w_var (a := tI r) v4 (w_toE notIn_nI ⟨_, rfl, ?_⟩))))
    have tk : ((List.range n).take (i + 1)).filter (fun j => !r.contains j) = ((List.range n).take i).filter (fun j => !r.contains j) ++ if (!r.contains i) = true then [i] else [] := by
      rw [List.take_add_one, List.getElem?_range hi, List.filter_append]
      cases hc : r.contains i
      · rw [if_pos (by simp), Option.toList_some, List.filter_cons_of_pos (by rw [hc]; rfl)]; rfl
      · rw [if_neg (by simp), Option.toList_some, List.filter_cons_of_neg (by rw [hc]; decide)]; rfl
    cases hc : r.contains i with
    | true =>
      rw [if_neg (by simp)]
      refine ⟨hl, ?_, p⟩
      rw [tk, hc]; simp
    | false =>
      rw [if_pos (by simp)]
      refine w_op (w_var (a := tI r) v4 (w_tup (w_cons (w_var (a := nI i) v5 (w_nil ⟨by simp [sizeLine_eq], ?_⟩)))))
      refine w_toE (a := tI (r ++ [i])) (M' := M2) ?_ ⟨hl, ?_, p.set (Nat.le_refl _)⟩
      · unfold oAdd
        dsimp only
        rw [if_pos (by simp [sizeLine_eq]; omega)]
        simp [tI]
      · rw [tk, hc]; simp
  · obtain ⟨rfl, p⟩ := hI
    refine hq _ _ (Nat.le_refl _) p ?_
    rw [hl]
    have : ((List.range n).map nI).length = n := rng_len
    rw [this, List.take_of_length_le (by simp)]
    unfold more
    rw [List.map_map]
    rfl
theorem orders_ok {M : Store} {n : Nat} (h1 : 1 ≤ n) (h3 : n ≤ 3) : (F_law_orders [nI n] M).W fun a M' => ∃ l, a = .lst l ∧ M.length ≤ l ∧ M'[l]? = some (.lst ((SX.sortL ((ords n n).map rI)).map tupI)) ∧ Pre M M' := by
  obtain ⟨q1, q2, q3⟩ := ords_ok n (num_mem h1 h3)
  have q4 : ∀ t, t ≤ 3 → ∀ r ∈ ords n t, r.length ≤ 10 := by
    have : ∀ n ∈ nums, ∀ t, t ≤ 3 → ∀ r ∈ ords n t, r.length ≤ 10 := by decide +kernel
    exact this n (num_mem h1 h3)
  have q5 : ∀ t, t ≤ 3 → (ords n t).length + 10 ≤ 200 := fun t ht => by have := q3 t ht; omega
  refine w_def ?_
  unfold S_law_orders
  repeat walk_at "wt"
  refine ⟨by simp [sizeLine_eq], ?_⟩
  repeat walk_at "wt"
  refine ⟨by simp [sizeLine_eq], ?_⟩
  refine w_seq (w_for (w_rng1 ?_))
  repeat walk_at "wt"
  refine ⟨n, rfl, by omega, (List.range n).map nI, fun i τ M' => τ.length = 6 ∧ τ[0]? = some (some (nI n)) ∧ ∃ l, τ[1]? = some (some (.lst l)) ∧ M.length ≤ l ∧ M'[l]? = some (.lst ((ords n i).map tI)) ∧ Pre M M', by simp [Src.size], ⟨rfl, rfl, _, rfl, Nat.le_refl _, at_new, Fr.refl.app _⟩, fun i τ M' _ => rng_at, fun i x τ M' hx hI => ?_, fun τ M' hI => ?_⟩
  · obtain ⟨e0, e1, l, e2, hl, e3, p⟩ := hI
    have hi : i < n := by
      have := (List.getElem?_eq_some_iff.mp hx).1
      simpa using this
    refine ⟨_, rfl, ?_⟩
    refine w_seq (w_set (w_lst (w_nil ⟨by simp [sizeLine_eq], ?_⟩)))
    refine w_seq (w_for (w_iSeqL (w_var (a := .lst l) (by simpa [setN] using e2) ⟨l, _, rfl, listAt_of (at_app e3), (ords n i).map tI,
      fun k τ M2 => τ.length = 6 ∧ τ[0]? = some (some (nI n)) ∧ M2[l]? = some (.lst ((ords n i).map tI)) ∧ (∃ l2, τ[3]? = some (some (.lst l2)) ∧ M'.length ≤ l2 ∧ M2[l2]? = some (.lst ((((ords n i).take k).flatMap (more n)).map tI))) ∧ Pre M' M2, ?_, ?_, ?_, ?_, ?_⟩)))
    · show lenAt _ l = _
      unfold lenAt
      rw [listAt_of (at_app e3)]
    · exact ⟨by simp [setN, e0], by simpa [setN] using e1, at_app e3, ⟨M'.length, by simp [setN, e0], Nat.le_refl _, at_new⟩, Fr.refl.app _⟩
    · intro k τ2 M2 hJ
      show (listAt M2 l).map (·[k]?) = _
      rw [listAt_of hJ.2.2.1]
      rfl
    · intro k x2 τ2 M2 hx2 hJ
      obtain ⟨j0, j1, j2, ⟨l2, j3, j4, j5⟩, j6⟩ := hJ
      rw [List.getElem?_map] at hx2
      obtain ⟨r, hr, rfl⟩ := Option.map_eq_some_iff.mp hx2
      have hrm := List.mem_of_getElem? hr
      refine ⟨_, rfl, ?_⟩
      refine w_seq (w_set (w_op (w_var (a := .lst l2) (by simpa [setN] using j3) (more_ok (n := n) (r := r) (by simpa [setN] using j1) (by simp [setN, j0]) (by simp [setN, j0]) h3 (q4 i (by omega) r hrm) fun l3 M3 hl3 p3 e5 => ?_))))
      have e6 := p3.at j5
      refine w_toE (add_lst e6 e5 ?_) (w_sNil ⟨by simp [setN, j0], by simpa [setN] using j1, at_app (p3.at j2), ⟨M3.length, by simp [setN, j0], by have := p3.1; have := j6.1; omega, ?_⟩, (j6.trans p3).app _⟩)
      · have b1 := flat_le (more n) (ws := ords n i) (k + 1)
        rw [flat_take _ hr, List.length_append] at b1
        have b2 : (ords n (i + 1)).length ≤ 100 := q3 (i + 1) (by omega)
        have b3 : ((ords n i).flatMap (more n)).length ≤ 100 := b2
        rw [List.length_map, List.length_map]; omega
      · rw [at_new, flat_take _ hr, List.map_append]
    · intro τ2 M2 hJ
      obtain ⟨j0, j1, j2, ⟨l2, j3, j4, j5⟩, j6⟩ := hJ
      rw [List.length_map, List.take_length] at j5
      exact w_seq (w_set (w_var (a := .lst l2) j3 (w_sNil ⟨by simp [j0], by simpa using j1, l2, by simp [j0], by have := p.1; omega, j5, p.trans j6⟩)))
  · obtain ⟨e0, e1, l, e2, hl, e3, p⟩ := hI
    have e3 : M'[l]? = some (.lst ((ords n n).map tI)) := by rw [rng_len] at e3; exact e3
    refine w_seq (w_ret (w_fn (w_cons (w_var (a := .lst l) e2 (w_nil ?_)))))
    have e4 : (ords n n).map tI = ((ords n n).map rI).map tupI := by
      rw [List.map_map]; exact List.map_congr_left fun r _ => tI_rI r
    refine w_toE (a := .lst M'.length) (M' := M' ++ [.lst ((SX.sortL ((ords n n).map rI)).map tupI)]) ?_ ⟨_, rfl, p.1, at_new, p.app _⟩
    unfold oSortM
    dsimp only
    rw [listAt_of e3, e4]
    dsimp only
    rw [tups_I fun x hx => ?_]
    obtain ⟨r, hr, rfl⟩ := List.mem_map.mp hx
    have := q2 r hr
    unfold rI
    simpa using this
end P09
namespace P09
open PySem PySem.Spec PyProof.Rows L2 AB SM
theorem kinds_ok {M : Store} {w : Str} {d k1 k2 k3 k4 e : Nat} (hw : w ∈ worlds) (hd : M[d]? = some (.dK [(.inr "ends", .lst k1), (.inr "stack", .lst k2), (.inr "deque", .lst k3), (.inr "inout", .lst k4)]))
    (h1 : M[k1]? = some (.lst [.str "front"])) (h2 : M[k2]? = some (.lst [.str "chop"])) (h3 : M[k3]? = some (.lst [.str "behead", .str "chop", .str "front"])) (h4 : M[k4]? = some (.lst [.str "take"])) (he : M[e]? = some (.lst [])) :
    ∃ o j, dGet M d (.str w) = some o ∧ o.getD (.lst e) = .lst j ∧ M[j]? = some (.lst (((kindsT.lookup w).getD []).map A.str)) := by
  unfold dGet
  rw [hd]
  unfold worlds at hw
  simp only [List.mem_cons, List.not_mem_nil, or_false] at hw
  rcases hw with rfl | rfl | rfl | rfl | rfl | rfl | rfl | rfl
  · exact ⟨_, _, rfl, rfl, he⟩
  · exact ⟨_, _, rfl, rfl, h1⟩
  · exact ⟨_, _, rfl, rfl, h2⟩
  · exact ⟨_, _, rfl, rfl, h3⟩
  · exact ⟨_, _, rfl, rfl, he⟩
  · exact ⟨_, _, rfl, rfl, h4⟩
  · exact ⟨_, _, rfl, rfl, he⟩
  · exact ⟨_, _, rfl, rfl, he⟩
theorem kinds_small : ∀ w ∈ worlds, ((kindsT.lookup w).getD []).length ≤ 5 := by decide +kernel
theorem withWord_A (x : Str) (n : Nat) : ((List.range n).map fun i => A.tup [.str x, nI i]) = (withWord x n).map msgA := by
  unfold withWord
  rw [List.map_map]
  rfl
theorem lawCat_le : ∀ w ∈ worlds, ∀ n ∈ nums, (lawCat0 w n).length ≤ 100 ∧ (lawCat1 w n).length ≤ 100 := by decide +kernel
theorem append_ok {M : Store} {l : Nat} {xs : List A} {y : A} (h : M[l]? = some (.lst xs)) (hz : xs.length < 16777216) : oAppend (.lst l) [y] M = some (.non, M.set l (.lst (xs ++ [y]))) := by
  unfold oAppend
  dsimp only
  rw [h]
  dsimp only
  rw [if_pos (by rw [sizeLine_eq]; exact hz)]
theorem merge4 {a b c d : A} : mergeA [] [((.inr ("ends" : Str) : Key), a), (.inr ("stack" : Str), b), (.inr ("deque" : Str), c), (.inr ("inout" : Str), d)] = [(.inr "ends", a), (.inr "stack", b), (.inr "deque", c), (.inr "inout", d)] := rfl
def e_kinds : EF := eDispN (pCons (eC (.str (Str.ofString "ends"))) (eLst (eCons (eC (.str (Str.ofString "front"))) eNil)) (pCons (eC (.str (Str.ofString "stack"))) (eLst (eCons (eC (.str (Str.ofString "chop"))) eNil)) (pCons (eC (.str (Str.ofString "deque"))) (eLst (eCons (eC (.str (Str.ofString "behead"))) (eCons (eC (.str (Str.ofString "chop"))) (eCons (eC (.str (Str.ofString "front"))) eNil)))) (pCons (eC (.str (Str.ofString "inout"))) (eLst (eCons (eC (.str (Str.ofString "take"))) eNil)) pNil))))
def IsKinds (d : Nat) (M : Store) : Prop := ∃ k1 k2 k3 k4, M[d]? = some (.dK [(.inr "ends", .lst k1), (.inr "stack", .lst k2), (.inr "deque", .lst k3), (.inr "inout", .lst k4)]) ∧
  M[k1]? = some (.lst [.str "front"]) ∧ M[k2]? = some (.lst [.str "chop"]) ∧ M[k3]? = some (.lst [.str "behead", .str "chop", .str "front"]) ∧ M[k4]? = some (.lst [.str "take"])
theorem IsKinds.pre {d : Nat} {M M' : Store} (h : IsKinds d M) (p : Pre M M') : IsKinds d M' := by
  obtain ⟨k1, k2, k3, k4, h0, h1, h2, h3, h4⟩ := h
  exact ⟨k1, k2, k3, k4, p.at h0, p.at h1, p.at h2, p.at h3, p.at h4⟩
theorem e_kinds_ok {τ : Sl} {M : Store} : (e_kinds τ M).W fun a M' => a = .dct M.length ∧ IsKinds M.length M' ∧ Pre M M' := by
  unfold e_kinds
  repeat walk_at "wt"
  refine ⟨by simp [sizeLine_eq], ?_⟩
  repeat walk_at "wt"
  refine ⟨by simp [sizeLine_eq], ?_⟩
  repeat walk_at "wt"
  refine ⟨by simp [sizeLine_eq], ?_⟩
  repeat walk_at "wt"
  refine ⟨by simp [sizeLine_eq], ?_⟩
  repeat walk_at "wt"
  refine ⟨_, by simp, rfl, by simp, ?_⟩
  refine ⟨rfl, ⟨M.length + 1, M.length + 2, M.length + 3, M.length + 4, ?_, ?_, ?_, ?_, ?_⟩, (((((Fr.refl.app _).app _).app _).app _).app _).set (Nat.le_refl _)⟩
  · rw [merge4]; simp
  all_goals simp
def e_kadd : EF := eOp oAdd (eGet2 (eVar 2) (eVar 0) (eLst eNil)) (eLst (eCons (eC (.str (Str.ofString "put"))) eNil))
theorem e_kadd_ok {τ : Sl} {M : Store} {w : Str} {d : Nat} (hw : w ∈ worlds) (h2 : τ[2]? = some (some (.dct d))) (h0 : τ[0]? = some (some (.str w))) (hd : IsKinds d M) :
    (e_kadd τ M).W fun a M' => ∃ l, a = .lst l ∧ M.length ≤ l ∧ M'[l]? = some (.lst ((lawKinds w).map A.str)) ∧ Pre M M' := by
  unfold e_kadd
  refine w_op (w_get2 (w_var (a := .dct d) h2 ?_))
  obtain ⟨k1, k2, k3, k4, f0, f1, f2, f3, f4⟩ := hd
  refine ⟨_, rfl, by unfold isDk; rw [f0], w_var (a := .str w) h0 (w_lst (w_nil ⟨by simp [sizeLine_eq], ?_⟩))⟩
  obtain ⟨o, j, ho, hj, hm⟩ := kinds_ok hw (at_app (t := [.lst []]) f0) (at_app f1) (at_app f2) (at_app f3) (at_app f4) at_new
  refine ⟨o, ho, ?_⟩
  rw [hj]
  refine w_lst (w_cons (w_C (w_nil ⟨by simp [sizeLine_eq], ?_⟩)))
  have hks := kinds_small w hw
  refine w_toE (add_lst (at_app hm) at_new (by simp; omega)) ⟨_, rfl, ?_, ?_, ((Fr.refl.app _).app _).app _⟩
  · simp
  · simp [lawKinds]
theorem law_messages_ok {M : Store} {w : Str} {n : Nat} (hw : w ∈ worlds) (h1 : 1 ≤ n) (h3 : n ≤ 3) :
    (F_law_messages [.str w, nI n] M).W fun a M' => ∃ l, a = .lst l ∧ M.length ≤ l ∧ M'[l]? = some (.lst ((msgs w n).map msgA)) ∧ Pre M M' := by
  obtain ⟨hc1, hc2, hc3, hc4⟩ := lawCat_ok w hw n (num_mem h1 h3)
  obtain ⟨hl0, hl1⟩ := lawCat_le w hw n (num_mem h1 h3)
  refine w_def ?_
  unfold S_law_messages
  refine w_seq (w_set (e_kinds_ok.imp ?_))
  rintro _ E ⟨rfl, hk, pE⟩
  refine w_seq (w_set (w_lst (w_nil ⟨by simp [sizeLine_eq], ?_⟩)))
  refine w_seq (w_for (w_iSeqL ((e_kadd_ok (d := M.length) hw rfl rfl (hk.pre (Fr.refl.app _))).imp ?_)))
  rintro _ G ⟨kl, rfl, hkl, g0, pG0⟩
  have pG : Pre E G := (Fr.refl.app _).trans pG0
  have g1 : G[E.length]? = some (.lst []) := pG0.at at_new
  have pM : Pre M G := pE.trans pG
  refine ⟨kl, (lawKinds w).map A.str, rfl, listAt_of g0, (lawKinds w).map A.str, fun i τ M' => τ.length = 7 ∧ τ[0]? = some (some (.str w)) ∧ τ[1]? = some (some (nI n)) ∧ ∃ l, τ[3]? = some (some (.lst l)) ∧ M.length ≤ l ∧ M'[l]? = some (.lst ((((lawKinds w).take i).flatMap fun x => withWord x n).map msgA)) ∧ M'[kl]? = some (.lst ((lawKinds w).map A.str)) ∧ Pre M M', ?_, ?_, ?_, ?_, ?_⟩
  · show lenAt _ _ = _
    unfold lenAt
    rw [listAt_of g0]
  · exact ⟨rfl, rfl, rfl, E.length, rfl, pE.1, g1, g0, pM⟩
  · intro i τ M' hI
    obtain ⟨_, _, _, l, _, _, _, h, _⟩ := hI
    show (listAt M' kl).map (·[i]?) = _
    rw [listAt_of h]
    rfl
  · intro i x τ M' hx hI
    obtain ⟨e0, e1, e2, l, e3, hl, e4, e5, p⟩ := hI
    rw [List.getElem?_map] at hx
    obtain ⟨y, hy, rfl⟩ := Option.map_eq_some_iff.mp hx
    refine ⟨_, rfl, ?_⟩
    have lt : 4 < τ.length := by omega
    refine w_seq (w_set (w_op (w_var (a := .lst l) (by simpa [setN] using e3) ?_)))
    refine w_lc_rng (n := n) (fun i => .tup [.str y, nI i]) (w_rng1 (w_cons (w_var (a := nI n) (by simpa [setN] using e2) (w_nil ⟨n, rfl, by omega, rfl, by omega, fun i M2 hi p => ⟨_, rfl, ?_⟩, fun l2 M2 hl2 p2 h2 => ?_⟩))))
    · refine w_tup (w_cons (w_var (a := .str y) (by simp [setN, wipeA, lt]) (w_cons (w_var (a := nI i) (by simp [setN, wipeA, e0]) (w_nil ⟨by simp [sizeLine_eq], rfl, Fr.refl⟩)))))
    · have b1 := flat_le (fun x => withWord x n) (ws := lawKinds w) (i + 1)
      rw [flat_take _ hy, List.length_append] at b1
      have b2 : ((lawKinds w).flatMap fun x => withWord x n).length ≤ 100 := hl0
      rw [withWord_A] at h2
      refine w_toE (add_lst (p2.at e4) h2 (by rw [List.length_map, List.length_map]; omega)) (w_sNil ⟨by simp [setN, e0], by simpa [setN] using e1, by simpa [setN] using e2, M2.length, by simp [setN, e0], Nat.le_trans p.1 p2.1, ?_, at_app (p2.at e5), (p.trans p2).app _⟩)
      rw [at_new, flat_take _ hy, List.map_append]
  · intro τ M' hI
    obtain ⟨e0, e1, e2, l, e3, hl, e4, -, p⟩ := hI
    rw [List.length_map, List.take_length] at e4
    have e4 : M'[l]? = some (.lst ((lawCat0 w n).map msgA)) := e4
    refine w_seq ?_
    have step1 : (sIf (eB (eOp oEq (eVar 0) (eC (.str "relabel")))) (sSeq (sAsg (.nm 3) (eOp oAdd (eVar 3) (eLc (iSeq (eCall 1 F_law_orders (eCons (eVar 1) eNil))) (.nm 6) bYes (eTup (eCons (eC (.str "turn")) (eCons (eVar 6) eNil))) [6]))) sNil) sNil τ M').W
      (fun τ2 M2 => τ2.length = 7 ∧ τ2[0]? = some (some (.str w)) ∧ ∃ l, τ2[3]? = some (some (.lst l)) ∧ M.length ≤ l ∧ M2[l]? = some (.lst ((lawCat1 w n).map msgA)) ∧ Pre M M2) (fun a M' => ∃ l, a = A.lst l ∧ M.length ≤ l ∧ M'[l]? = some (.lst ((msgs w n).map msgA)) ∧ Pre M M') := by
      refine w_if (w_B (w_op (w_var (a := .str w) e1 (w_C (w_toE (eq_str (shaped_world w hw) shaped_rel) ⟨_, rfl, ?_⟩)))))
      unfold lawCat1
      by_cases hr : w = "relabel"
      · subst hr
        rw [if_pos (by decide), if_pos rfl]
        refine w_seq (w_set (w_op (w_var (a := .lst l) e3 ?_)))
        refine w_lc_map (fun a => .tup [.str "turn", a]) (w_iSeqL (w_call (w_cons (w_var (a := nI n) e2 (w_nil ⟨rfl, ?_⟩)))))
        refine (orders_ok h1 h3).imp ?_
        rintro _ M2 ⟨l2, rfl, hl2, h2, p2⟩
        refine ⟨l2, _, rfl, listAt_of h2, (SX.sortL ((ords n n).map rI)).map tupI, ?_, ?_, fun M3 p3 i => ?_, fun x M3 hx p3 => ⟨_, rfl, ?_⟩, fun l3 M3 hl3 p3 h3' => ?_⟩
        · show lenAt _ _ = _
          unfold lenAt
          rw [listAt_of h2]
        · have : (lawTurns n).length ≤ 100 := by
            have : (lawCat1 "relabel" n).length ≤ 100 := hl1
            unfold lawCat1 at this
            rw [if_pos rfl, List.length_append] at this
            omega
          unfold lawTurns at this
          rw [List.length_map] at this
          rw [List.length_map, sizeLine_eq]; omega
        · show (listAt M3 l2).map (·[i]?) = _
          rw [listAt_of (p3.at h2)]
          rfl
        · refine w_tup (w_cons (w_C (w_cons (w_var (a := x) (by simp [wipeA, e0]) (w_nil ⟨by simp [sizeLine_eq], rfl, Fr.refl⟩)))))
        · have eT : ((SX.sortL ((ords n n).map rI)).map tupI).map (fun a => A.tup [.str "turn", a]) = (lawTurns n).map msgA := by
            unfold lawTurns
            rw [List.map_map, List.map_map]
            rfl
          rw [eT] at h3'
          have hl1' : (lawCat0 "relabel" n ++ lawTurns n).length ≤ 100 := by
            have : (lawCat1 "relabel" n).length ≤ 100 := hl1
            unfold lawCat1 at this
            rw [if_pos rfl] at this
            exact this
          rw [List.length_append] at hl1'
          refine w_toE (add_lst (Pre.at (p2.trans p3) e4) h3' (by rw [List.length_map, List.length_map]; omega)) (w_sNil ⟨by simp [e0], by simpa using e1, M3.length, by simp [e0], Nat.le_trans p.1 (p2.trans p3).1, ?_, (p.trans (p2.trans p3)).app _⟩)
          rw [at_new, List.map_append]
      · rw [if_neg (by simpa using hr), if_neg hr, List.append_nil]
        exact w_sNil ⟨e0, e1, l, e3, hl, e4, p⟩
    refine step1.imp ?_ (fun _ _ h => h)
    rintro τ2 M2 ⟨e0, e1, l, e3, hl, e4, p⟩
    refine w_seq ?_
    have step2 : (sIf (eB (eOp oEq (eVar 0) (eC (.str "reverse")))) (sSeq (sExpr (eMeth oAppend (eVar 3) (eCons (eTup (eCons (eC (.str "turn")) eNil)) eNil))) sNil) sNil τ2 M2).W
      (fun τ2 M2 => ∃ l, τ2[3]? = some (some (.lst l)) ∧ M.length ≤ l ∧ M2[l]? = some (.lst ((lawCat w n).map msgA)) ∧ Pre M M2) (fun a M' => ∃ l, a = A.lst l ∧ M.length ≤ l ∧ M'[l]? = some (.lst ((msgs w n).map msgA)) ∧ Pre M M') := by
      refine w_if (w_B (w_op (w_var (a := .str w) e1 (w_C (w_toE (eq_str (shaped_world w hw) shaped_rev) ⟨_, rfl, ?_⟩)))))
      unfold lawCat
      by_cases hr : w = "reverse"
      · subst hr
        rw [if_pos (by decide), if_pos rfl]
        refine w_seq (w_expr (w_meth (w_var (a := .lst l) e3 ⟨isL_of e4, w_cons (w_tup (w_cons (w_C (w_nil ⟨by simp [sizeLine_eq], w_nil ?_⟩)))) ⟩)))
        refine w_toE (append_ok e4 (by rw [List.length_map]; omega)) (w_sNil ⟨l, e3, hl, ?_, p.set hl⟩)
        rw [at_set e4, List.map_append]
        rfl
      · rw [if_neg (by simpa using hr), if_neg hr, List.append_nil]
        exact w_sNil ⟨l, e3, hl, e4, p⟩
    refine step2.imp ?_ (fun _ _ h => h)
    rintro τ3 M3 ⟨l, e3, hl, e4, p⟩
    refine w_seq (w_ret (w_fn (w_cons (w_var (a := .lst l) e3 (w_nil ?_)))))
    cases hcat : lawCat w n with
    | nil => rw [hcat] at hc1; cases hc1
    | cons m q =>
      rw [hcat] at e4 hc3
      refine w_toE (sortM_ok e4 hc3) ⟨M3.length, rfl, p.1, ?_, p.app _⟩
      rw [at_new, ← hc4, hcat]
end P09
namespace P09
open PySem PySem.Spec PyProof.Rows L2 AB SM
/-! ### messages are messages -/
def okM (w : Str) (n : Nat) (m : Msg) : Bool := (wordsOf w).contains m.1 && match m.2 with
  | .one => decide (m.1 = "turn") && decide (w = "reverse")
  | .num a => !decide (m.1 = "turn") && decide (0 ≤ a) && decide (a < (n : Int))
  | .tup ns => decide (m.1 = "turn") && !decide (w = "reverse") && decide (ns.length = n) && ns.all (fun i => decide (0 ≤ i) && decide (i < (n : Int))) && decide ((dd ns).length = n)
theorem msgs_okM : ∀ w ∈ worlds, ∀ n ∈ nums, ∀ m ∈ msgs w n, okM w n m = true := by decide +kernel
theorem inV_word : ∀ w ∈ worlds, ∀ x ∈ wordsOf w, inV (.str x) ((wordsOf w).map V.str) = true := by decide +kernel
theorem tup_nat {n : Nat} : ∀ {ns : List Int}, (ns.all fun i => decide (0 ≤ i) && decide (i < (n : Int))) = true → ∃ xs : List Nat, ns.map A.int = xs.map nI ∧ xs.length = ns.length ∧ ∀ x ∈ xs, x ≤ n - 1
  | [], _ => ⟨[], rfl, rfl, by simp⟩
  | i :: ns, h => by
    rw [List.all_cons, Bool.and_eq_true, Bool.and_eq_true, decide_eq_true_iff, decide_eq_true_iff] at h
    obtain ⟨xs, e1, e2, e3⟩ := tup_nat h.2
    obtain ⟨k, rfl⟩ := Int.eq_ofNat_of_zero_le h.1.1
    refine ⟨k :: xs, by rw [List.map_cons, List.map_cons, e1], by simp [e2], fun x hx => ?_⟩
    rcases List.mem_cons.mp hx with rfl | hx
    · have := h.1.2; omega
    · exact e3 x hx
theorem sub_one {M : Store} {n : Nat} (h1 : 1 ≤ n) : oSub (nI n) (.int 1) M = some (nI (n - 1), M) := by
  show some (A.int ((n : Int) - 1), M) = _
  rw [show ((n : Int) - 1) = ((n - 1 : Nat) : Int) by omega]
theorem is_permutation_ok {M : Store} {ns : List Int} {n : Nat} (h1 : 1 ≤ n) (h3 : n ≤ 3) (hl : ns.length = n) (ha : (ns.all fun i => decide (0 ≤ i) && decide (i < (n : Int))) = true) (hd : (dd ns).length = n) :
    (F_is_permutation [.tup (ns.map A.int), nI n] M).W fun a M' => a = .bl true ∧ Pre M M' := by
  obtain ⟨xs, e1, e2, e3⟩ := tup_nat ha
  refine w_def ?_
  unfold S_is_permutation
  repeat walk_at "wt"
  refine w_toE (sub_one h1) ?_
  repeat walk_at "wt"
  have en : n = xs.length := by omega
  refine ⟨rfl, ?_⟩
  have hh : (F_are_numbers [.tup (ns.map A.int), nI n, nI (n - 1)] M).W fun a M' => a = .bl true ∧ Pre M M' := by
    rw [e1]
    have := are_numbers_ok (M := M) (xs := xs) (hi := n - 1) (by omega) e3
    rw [← en] at this
    exact this
  refine hh.imp ?_
  rintro _ M1 ⟨rfl, p⟩
  refine ⟨true, rfl, ?_⟩
  rw [if_pos rfl]
  repeat walk_at "wt"
  refine w_toE (a := nI n) (M' := M1) ?_ ?_
  · unfold oLenSetX
    dsimp only
    rw [AB.ints_map]
    dsimp only
    rw [if_pos (by omega), hd]
  · repeat walk_at "wt"
    refine w_toE eq_int ⟨by simp, p⟩
theorem len_tup {xs : List A} {M : Store} {k : Nat} (h : xs.length = k) : oLenN [.tup xs] M = some (nI k, M) := by subst h; rfl
theorem is_message_ok {M : Store} {w : Str} {n : Nat} {m : Msg} (hw : w ∈ worlds) (h1 : 1 ≤ n) (h3 : n ≤ 3) (hm : m ∈ msgs w n) :
    (F_is_message [.str w, nI n, msgA m] M).W fun a M' => a = .bl true ∧ Pre M M' := by
  have ok := msgs_okM w hw n (num_mem h1 h3) m hm
  obtain ⟨x, r⟩ := m
  unfold okM at ok
  rw [Bool.and_eq_true] at ok
  obtain ⟨hx, ok⟩ := ok
  have hx : x ∈ wordsOf w := by simpa using hx
  have iv := inV_word w hw x hx
  have sx := shaped_word w hw x hx
  have sw := shaped_world w hw
  refine w_def ?_
  unfold S_is_message
  cases r with
  | one =>
    simp only [Bool.and_eq_true, decide_eq_true_iff] at ok
    obtain ⟨rfl, rfl⟩ := ok
    repeat walk_at "wt"
    refine w_toE isi_tup ⟨true, rfl, ?_⟩
    rw [if_neg (by decide)]
    repeat walk_at "wt"
    refine w_toE (len_tup (k := 1) rfl) ?_
    refine w_toE (a := .bl true) (by rfl) ⟨true, rfl, ?_⟩
    rw [if_pos rfl]
    repeat walk_at "wt"
    refine w_toE (a := .bl true) (by rfl) ⟨true, rfl, ?_⟩
    rw [if_neg (by decide)]
    repeat walk_at "wt"
    refine w_toE (a := .str "turn") (by rfl) ?_
    repeat walk_at "wt"
    refine ⟨_, _, rfl, words_some _ hw, _, rfl, _, rfl, ?_⟩
    rw [if_pos rfl, iv, if_neg (by decide)]
    repeat walk_at "wt"
    refine w_toE (a := .str "turn") (by rfl) ?_
    repeat walk_at "wt"
    refine w_toE (eq_str sx shaped_turn) ⟨_, rfl, ?_⟩
    rw [if_pos (by decide)]
    repeat walk_at "wt"
    refine w_toE (eq_str sw shaped_rev) ⟨_, rfl, ?_⟩
    rw [if_pos (by decide)]
    repeat walk_at "wt"
    refine w_toE (len_tup (k := 1) rfl) ?_
    repeat walk_at "wt"
    exact w_toE (a := .bl true) (by rfl) ⟨rfl, Fr.refl⟩
  | num a =>
    simp only [Bool.and_eq_true, decide_eq_true_iff, Bool.not_eq_true', decide_eq_false_iff_not] at ok
    obtain ⟨⟨hx2, ha⟩, hb⟩ := ok
    obtain ⟨k, rfl⟩ := Int.eq_ofNat_of_zero_le ha
    repeat walk_at "wt"
    refine w_toE isi_tup ⟨true, rfl, ?_⟩
    rw [if_neg (by decide)]
    repeat walk_at "wt"
    refine w_toE (len_tup (k := 2) rfl) ?_
    refine w_toE (a := .bl true) (by rfl) ⟨true, rfl, ?_⟩
    rw [if_pos rfl]
    repeat walk_at "wt"
    refine w_toE (a := .bl true) (by rfl) ⟨true, rfl, ?_⟩
    rw [if_neg (by decide)]
    repeat walk_at "wt"
    refine w_toE (a := .str x) (by rfl) ?_
    repeat walk_at "wt"
    refine ⟨w, _, rfl, words_some w hw, _, rfl, _, rfl, ?_⟩
    rw [if_pos rfl, iv, if_neg (by decide)]
    repeat walk_at "wt"
    refine w_toE (a := .str x) (by rfl) ?_
    repeat walk_at "wt"
    refine w_toE (eq_str sx shaped_turn) ⟨_, rfl, ?_⟩
    rw [if_neg (by simpa using hx2), if_neg (by decide)]
    repeat walk_at "wt"
    refine w_toE (len_tup (k := 2) rfl) ?_
    repeat walk_at "wt"
    refine w_toE (a := .bl false) (by rfl) ⟨false, rfl, ?_⟩
    rw [if_neg (by decide)]
    repeat walk_at "wt"
    refine w_toE (a := .str x) (by rfl) ?_
    repeat walk_at "wt"
    refine w_toE (eq_str sx shaped_turn) ⟨_, rfl, ?_⟩
    rw [if_neg (by simpa using hx2)]
    repeat walk_at "wt"
    refine w_toE (a := nI k) (by rfl) ?_
    repeat walk_at "wt"
    refine w_toE (sub_one h1) ?_
    repeat walk_at "wt"
    refine ⟨rfl, (is_number_ok (lo := 0) (Nat.zero_le _) (by omega)).imp ?_⟩
    rintro _ M1 ⟨rfl, rfl⟩
    exact ⟨rfl, Fr.refl⟩
  | tup ns =>
    simp only [Bool.and_eq_true, decide_eq_true_iff, Bool.not_eq_true', decide_eq_false_iff_not] at ok
    obtain ⟨⟨⟨⟨rfl, hr⟩, hl⟩, hall⟩, hdd⟩ := ok
    repeat walk_at "wt"
    refine w_toE isi_tup ⟨true, rfl, ?_⟩
    rw [if_neg (by decide)]
    repeat walk_at "wt"
    refine w_toE (len_tup (k := 2) rfl) ?_
    refine w_toE (a := .bl true) (by rfl) ⟨true, rfl, ?_⟩
    rw [if_pos rfl]
    repeat walk_at "wt"
    refine w_toE (a := .bl true) (by rfl) ⟨true, rfl, ?_⟩
    rw [if_neg (by decide)]
    repeat walk_at "wt"
    refine w_toE (a := .str "turn") (by rfl) ?_
    repeat walk_at "wt"
    refine ⟨w, _, rfl, words_some _ hw, _, rfl, _, rfl, ?_⟩
    rw [if_pos rfl, iv, if_neg (by decide)]
    repeat walk_at "wt"
    refine w_toE (a := .str "turn") (by rfl) ?_
    repeat walk_at "wt"
    refine w_toE (eq_str sx shaped_turn) ⟨_, rfl, ?_⟩
    rw [if_pos (by decide)]
    repeat walk_at "wt"
    refine w_toE (eq_str sw shaped_rev) ⟨_, rfl, ?_⟩
    rw [if_neg (by simpa using hr)]
    repeat walk_at "wt"
    refine w_toE (len_tup (k := 2) rfl) ?_
    repeat walk_at "wt"
    refine w_toE (a := .bl false) (by rfl) ⟨false, rfl, ?_⟩
    rw [if_neg (by decide)]
    repeat walk_at "wt"
    refine w_toE (a := .str "turn") (by rfl) ?_
    repeat walk_at "wt"
    refine w_toE (eq_str sx shaped_turn) ⟨_, rfl, ?_⟩
    rw [if_pos (by decide)]
    repeat walk_at "wt"
    refine w_toE (a := .tup (ns.map A.int)) (by rfl) ?_
    repeat walk_at "wt"
    exact ⟨rfl, is_permutation_ok h1 h3 hl hall hdd⟩
end P09
namespace P09
open PySem PySem.Spec PyProof.Rows L2 AB SM
/-! ### rows and keepers -/
theorem pairs_get : ∀ (xs : List A) (n i : Nat), (pairsFrom n xs)[i]? = xs[i]?.map fun x => A.tup [nI (n + i), x]
  | [], n, i => by simp [pairsFrom]
  | x :: xs, n, 0 => by simp [pairsFrom]
  | x :: xs, n, i + 1 => by
    simp only [pairsFrom, List.getElem?_cons_succ]
    rw [pairs_get xs (n + 1) i, show n + 1 + i = n + (i + 1) by omega]
theorem pairs_len : ∀ (xs : List A) (n : Nat), (pairsFrom n xs).length = xs.length
  | [], _ => rfl
  | x :: xs, n => by
    show (pairsFrom (n + 1) xs).length + 1 = xs.length + 1
    rw [pairs_len xs]
theorem check_messages_ok {M : Store} {l : Nat} {act : On'} {xs : List A} (hl : xs.length ≤ 100) (ha : ∀ x ∈ xs, ∀ M1 : Store, Pre M M1 → (act [x] M1).W fun a M2 => a = .bl true ∧ Pre M1 M2) :
    (defA 4 (S_check_messages l act) [.tup xs, .obj l] M).W fun a M' => Pre M M' := by
  refine w_def ?_
  unfold S_check_messages
  repeat walk_at "wt"
  refine w_toE isi_tup ⟨true, rfl, ?_⟩
  rw [if_neg (by decide)]
  repeat walk_at "wt"
  refine w_toE (len_tup (k := xs.length) rfl) ?_
  repeat walk_at "wt"
  refine w_toE (a := .bl false) (M' := M) (by show some (A.bl (decide _), M) = _; congr 3; simp; omega) ⟨false, rfl, ?_⟩
  rw [if_neg (by decide)]
  repeat walk_at "wt"
  refine w_for (w_enumT ?_)
  repeat walk_at "wt"
  refine ⟨_, rfl, pairsFrom 0 xs, fun i τ M' => ∃ y3 y4, τ = [some (.tup xs), some (.obj l), y3, y4] ∧ Pre M M', by simp [Src.size], ⟨_, _, rfl, Fr.refl⟩, fun _ _ _ _ => rfl, ?_, ?_⟩
  · rintro i x τ M' hx ⟨y3, y4, rfl, p⟩
    rw [pairs_get] at hx
    obtain ⟨z, hz, rfl⟩ := Option.map_eq_some_iff.mp hx
    refine ⟨_, rfl, ?_⟩
    repeat walk_at "wt"
    refine w_act rfl ?_
    repeat walk_at "wt"
    refine ⟨rfl, (ha z (List.mem_of_getElem? hz) _ p).imp ?_⟩
    rintro _ M2 ⟨rfl, p2⟩
    refine ⟨true, rfl, ?_⟩
    rw [if_neg (by decide)]
    repeat walk_at "wt"
    exact ⟨_, _, rfl, p.trans p2⟩
  · rintro τ M' ⟨y3, y4, rfl, p⟩
    repeat walk_at "wt"
    exact p
theorem check_row_ok {M : Store} {w : Str} {n : Nat} {q : List Msg} (hw : w ∈ worlds) (h1 : 1 ≤ n) (h3 : n ≤ 3) (hq : ∀ m ∈ q, m ∈ msgs w n) (hl : q.length ≤ 100) :
    (F_check_row [.str w, nI n, .tup (q.map msgA)] M).W fun a M' => Pre M M' := by
  refine w_def ?_
  unfold S_check_row
  repeat walk_at "wt"
  refine w_lam ?_
  repeat walk_at "wt"
  refine ⟨rfl, (check_messages_ok (M := M ++ [.obj]) (by rw [List.length_map]; exact hl) fun x hx M1 p => w_lamA ?_).imp ?_⟩
  · obtain ⟨m, hm, rfl⟩ := List.mem_map.mp hx
    repeat walk_at "wt"
    exact ⟨rfl, is_message_ok hw h1 h3 (hq m hm)⟩
  · rintro _ M' p
    repeat walk_at "wt"
    exact (Fr.refl.app _).trans p
/-- a keeper -/
structure Kp (w : Str) (n : Nat) (st : List (List Nat)) (an : List Nat) : Prop where
  l1 : 1 ≤ st.length
  l2 : st.length ≤ 1000
  l3 : an.length = st.length
  r : ∀ r ∈ st, r.length = (msgs w n).length ∧ ∀ x ∈ r, x ≤ st.length - 1
  a : ∀ x ∈ an, x ≤ 3
def kpA (st : List (List Nat)) (an : List Nat) : A := .tup [.tup (st.map tI), tI an]
theorem msgs_le : ∀ w ∈ worlds, ∀ n ∈ nums, (msgs w n).length ≤ 100 ∧ (msgs w n) ≠ [] := by decide +kernel
theorem check_states_ok {M : Store} {w : Str} {n : Nat} {st : List (List Nat)} {an : List Nat} (k : Kp w n st an) (hml : (msgs w n).length ≤ 100) :
    (F_check_states [kpA st an, nI (msgs w n).length] M).W fun a M' => Pre M M' := by
  have l1 := k.l1
  have l2 := k.l2
  refine w_def ?_
  unfold S_check_states kpA
  repeat walk_at "wt"
  refine w_toE isi_tup ⟨true, rfl, ?_⟩
  rw [if_neg (by decide)]
  repeat walk_at "wt"
  refine w_toE (len_tup (k := 2) rfl) ?_
  repeat walk_at "wt"
  refine w_toE ne_int ⟨false, by simp, ?_⟩
  rw [if_neg (by decide)]
  repeat walk_at "wt"
  refine ⟨_, rfl, ?_⟩
  repeat walk_at "wt"
  refine w_toE isi_tup ⟨true, rfl, ?_⟩
  rw [if_neg (by decide)]
  repeat walk_at "wt"
  refine w_toE (len_tup (k := st.length) (by rw [List.length_map])) ?_
  refine w_toE (a := .bl true) (M' := M) (by show some (A.bl (decide _), M) = _; congr 3; simp; omega) ⟨true, rfl, ?_⟩
  rw [if_pos rfl]
  repeat walk_at "wt"
  refine w_toE (a := .bl true) (M' := M) (by show some (A.bl (decide _), M) = _; congr 3; simp; omega) ⟨true, rfl, ?_⟩
  rw [if_neg (by decide)]
  repeat walk_at "wt"
  refine w_toE isi_tup ⟨true, rfl, ?_⟩
  rw [if_neg (by decide)]
  repeat walk_at "wt"
  refine w_toE (len_tup (k := an.length) (by rw [List.length_map])) ?_
  repeat walk_at "wt"
  refine w_toE (len_tup (k := st.length) (by rw [List.length_map])) ?_
  repeat walk_at "wt"
  refine w_toE ne_int ⟨false, by simp [k.l3], ?_⟩
  rw [if_neg (by decide)]
  repeat walk_at "wt"
  refine w_for (w_enumT ?_)
  repeat walk_at "wt"
  refine ⟨_, rfl, pairsFrom 0 (st.map tI), fun i τ M' => ∃ y6 y7, τ = [some (.tup [.tup (st.map tI), tI an]), some (nI (msgs w n).length), some (.tup (st.map tI)), some (tI an), y6, y7] ∧ Pre M M', by simp [Src.size], ⟨_, _, rfl, Fr.refl⟩, fun _ _ _ _ => rfl, ?_, ?_⟩
  · rintro i x τ M' hx ⟨y6, y7, rfl, p⟩
    rw [pairs_get, List.getElem?_map] at hx
    obtain ⟨z, hz, rfl⟩ := Option.map_eq_some_iff.mp hx
    obtain ⟨r, hr, rfl⟩ := Option.map_eq_some_iff.mp hz
    have hi : i < st.length := (List.getElem?_eq_some_iff.mp hr).1
    obtain ⟨hr1, hr2⟩ := k.r r (List.mem_of_getElem? hr)
    refine ⟨_, rfl, ?_⟩
    repeat walk_at "wt"
    refine w_toE (len_tup (k := st.length) (by rw [List.length_map])) ?_
    repeat walk_at "wt"
    refine w_toE (sub_one l1) ?_
    repeat walk_at "wt"
    rw [← hr1]
    refine ⟨rfl, (are_numbers_ok (by omega) hr2).imp ?_⟩
    rintro _ M2 ⟨rfl, p2⟩
    refine ⟨true, rfl, ?_⟩
    rw [if_neg (by decide)]
    have hia : i < an.length := by rw [k.l3]; exact hi
    repeat walk_at "wt"
    refine w_toE (a := nI an[i]) (M' := M2) (ix_tup (by rw [Nat.zero_add, List.getElem?_map, List.getElem?_eq_getElem hia]; rfl)) ?_
    repeat walk_at "wt"
    refine ⟨rfl, (is_number_ok (lo := 0) (hi := 3) (Nat.zero_le _) (k.a _ (List.getElem_mem hia))).imp ?_⟩
    rintro _ M3 ⟨rfl, rfl⟩
    refine ⟨true, rfl, ?_⟩
    rw [if_neg (by decide)]
    repeat walk_at "wt"
    rw [hr1]
    exact ⟨_, _, rfl, p.trans p2⟩
  · rintro τ M' ⟨y6, y7, rfl, p⟩
    repeat walk_at "wt"
    exact p
theorem check_keeper_ok {M : Store} {w : Str} {n : Nat} {st : List (List Nat)} {an : List Nat} (hw : w ∈ worlds) (h1 : 1 ≤ n) (h3 : n ≤ 3) (k : Kp w n st an) :
    (F_check_keeper [.str w, nI n, kpA st an] M).W fun a M' => Pre M M' := by
  have hml := (msgs_le w hw n (num_mem h1 h3)).1
  refine w_def ?_
  unfold S_check_keeper
  repeat walk_at "wt"
  refine ⟨rfl, (messages_ok hw h1 h3).imp ?_⟩
  rintro _ M1 ⟨rfl, p1⟩
  repeat walk_at "wt"
  refine w_toE (len_tup (k := (msgs w n).length) (by rw [List.length_map])) ?_
  repeat walk_at "wt"
  refine ⟨rfl, (check_states_ok k hml).imp ?_⟩
  rintro _ M2 p2
  repeat walk_at "wt"
  exact p1.trans p2
end P09
namespace P09
open PySem PySem.Spec PyProof.Rows L2 AB SM
/-! ### messages as keys -/
def nkl : Msg → List NestedKey
  | (x, .one) => [.text x]
  | (x, .num a) => [.text x, .num a]
  | (x, .tup ns) => [.text x, .tup (ns.map .num)]
def nk (m : Msg) : NestedKey := .tup (nkl m)
theorem nums_inj : ∀ {a b : List Int}, a.map NestedKey.num = b.map NestedKey.num → a = b
  | [], [], _ => rfl
  | [], _ :: _, h => by cases h
  | _ :: _, [], h => by cases h
  | x :: xs, y :: ys, h => by
    rw [List.map_cons, List.map_cons] at h
    injection h with h1 h2
    injection h1 with h1
    rw [nums_inj h2, h1]
theorem nk_inj {a b : Msg} (h : nk a = nk b) : a = b := by
  unfold nk at h
  injection h with h
  obtain ⟨x, r⟩ := a
  obtain ⟨y, t⟩ := b
  cases r with
  | one => cases t with
    | one => simp only [nkl] at h; injection h with h1 h2; injection h1 with h1; rw [h1]
    | num b => simp only [nkl] at h; injection h with h1 h2; cases h2
    | tup b => simp only [nkl] at h; injection h with h1 h2; cases h2
  | num a => cases t with
    | one => simp only [nkl] at h; injection h with h1 h2; cases h2
    | num b => simp only [nkl] at h; injection h with h1 h2; injection h1 with h1; injection h2 with h2; injection h2 with h2; rw [h1, h2]
    | tup b => simp only [nkl] at h; injection h with h1 h2; injection h2 with h2; cases h2
  | tup a => cases t with
    | one => simp only [nkl] at h; injection h with h1 h2; cases h2
    | num b => simp only [nkl] at h; injection h with h1 h2; injection h2 with h2; cases h2
    | tup b => simp only [nkl] at h; injection h with h1 h2; injection h1 with h1; injection h2 with h2; injection h2 with h2; rw [h1, nums_inj h2]
theorem nkeys_ints : ∀ r : List Int, nkeys? (r.map A.int) = some (r.map NestedKey.num)
  | [] => by simp [nkeys?]
  | x :: xs => by simp [nkeys?, nkey?, nkeys_ints xs]
theorem nkey_msg (m : Msg) : nkey? (msgA m) = some (nk m) := by
  obtain ⟨x, r⟩ := m
  cases r with
  | one => simp [msgA, rstA, nkey?, nkeys?, nk, nkl]
  | num a => simp [msgA, rstA, nkey?, nkeys?, nk, nkl]
  | tup a => simp [msgA, rstA, nkey?, nkeys?, nk, nkl, nkeys_ints]
theorem depth_nums : ∀ r : List Int, NestedKey.depthAll (r.map NestedKey.num) = 0
  | [] => by simp [NestedKey.depthAll]
  | x :: xs => by simp [NestedKey.depthAll, NestedKey.depth, depth_nums xs]
theorem depth_nk (m : Msg) : (nk m).depth ≤ 8 := by
  obtain ⟨x, r⟩ := m
  cases r <;> simp [nk, nkl, NestedKey.depth, NestedKey.depthAll, depth_nums]
def kvOf : Nat → List Msg → List (NestedKey × A)
  | _, [] => []
  | i, d :: ds => (nk d, nI i) :: kvOf (i + 1) ds
theorem kvOf_app : ∀ (i : Nat) (ds : List Msg) (d : Msg), kvOf i (ds ++ [d]) = kvOf i ds ++ [(nk d, nI (i + ds.length))]
  | i, [], d => rfl
  | i, x :: xs, d => by
    show (nk x, nI i) :: kvOf (i + 1) (xs ++ [d]) = _
    rw [kvOf_app (i + 1) xs d]
    show _ = (nk x, nI i) :: (kvOf (i + 1) xs ++ [(nk d, nI (i + (xs.length + 1)))])
    rw [show i + 1 + xs.length = i + (xs.length + 1) by omega]
theorem kvOf_len : ∀ (i : Nat) (ds : List Msg), (kvOf i ds).length = ds.length
  | _, [] => rfl
  | i, x :: xs => by
    show (kvOf (i + 1) xs).length + 1 = xs.length + 1
    rw [kvOf_len]
def pl : List Msg → Msg → Nat
  | [], _ => 0
  | x :: xs, m => if x = m then 0 else pl xs m + 1
theorem pl_lt {m : Msg} : ∀ {xs : List Msg}, m ∈ xs → pl xs m < xs.length
  | [], h => by cases h
  | x :: xs, h => by
    unfold pl
    by_cases e : x = m
    · rw [if_pos e]; simp
    · rw [if_neg e]
      have : m ∈ xs := by rcases List.mem_cons.mp h with h | h; exact absurd h.symm e; exact h
      have := pl_lt this
      simp; omega
theorem valA_kv (s : Msg) : ∀ (i : Nat) (ds : List Msg), (s ∈ ds ∧ valA (kvOf i ds) (nk s) = some (nI (i + pl ds s))) ∨ (s ∉ ds ∧ valA (kvOf i ds) (nk s) = none)
  | i, [] => .inr ⟨by simp, rfl⟩
  | i, x :: xs => by
    by_cases h : x = s
    · subst h
      refine .inl ⟨by simp, ?_⟩
      unfold valA kvOf pl
      rw [List.find?_cons]
      simp
    · have hn : ¬ nk x = nk s := fun z => h (nk_inj z)
      have e : valA (kvOf i (x :: xs)) (nk s) = valA (kvOf (i + 1) xs) (nk s) := by
        unfold valA
        show Option.map _ (List.find? _ ((nk x, nI i) :: kvOf (i + 1) xs)) = _
        rw [List.find?_cons]
        simp [hn]
      rw [e]
      rcases valA_kv s (i + 1) xs with ⟨h1, h2⟩ | ⟨h1, h2⟩
      · refine .inl ⟨by simp [h1], ?_⟩
        have e3 : pl (x :: xs) s = pl xs s + 1 := by
          show (if x = s then 0 else pl xs s + 1) = _
          rw [if_neg h]
        rw [h2, e3, show i + 1 + pl xs s = i + (pl xs s + 1) by omega]
      · refine .inr ⟨?_, h2⟩
        simp only [List.mem_cons, not_or]
        exact ⟨fun z => h z.symm, h1⟩
theorem nget_ok {M : Store} {d : Nat} {ds : List Msg} {m : Msg} (h : M[d]? = some (.dN (kvOf 0 ds))) (hm : m ∈ ds) : oNget (.dct d) (msgA m) M = some (nI (pl ds m), M) := by
  unfold oNget
  dsimp only
  rw [h, nkey_msg]
  show (if (nk m).depth ≤ 8 then (valA (kvOf 0 ds) (nk m)).map fun v => (v, M) else none) = _
  rw [if_pos (depth_nk m)]
  rcases valA_kv m 0 ds with ⟨_, h2⟩ | ⟨h1, _⟩
  · rw [h2, Nat.zero_add]; rfl
  · exact absurd hm h1
theorem nput_ok {M : Store} {d : Nat} {ds : List Msg} {m : Msg} (h : M[d]? = some (.dN (kvOf 0 ds))) (hz : ds.length < 1000) (hm : m ∉ ds) : nPut M d (msgA m) (nI ds.length) = some (M.set d (.dN (kvOf 0 (ds ++ [m])))) := by
  unfold nPut
  rw [h, nkey_msg]
  show (if (nk m).depth ≤ 8 ∧ (kvOf 0 ds).length < sizeLine ∧ (valA (kvOf 0 ds) (nk m)).isNone = true then some (M.set d (.dN (kvOf 0 ds ++ [(nk m, nI ds.length)]))) else none) = _
  rw [if_pos, kvOf_app, Nat.zero_add]
  refine ⟨depth_nk m, by rw [kvOf_len, sizeLine_eq]; omega, ?_⟩
  rcases valA_kv m 0 ds with ⟨h1, _⟩ | ⟨_, h2⟩
  · exact absurd h1 hm
  · rw [h2]; rfl
theorem msgs_nodup : ∀ w ∈ worlds, ∀ n ∈ nums, (msgs w n).Nodup := by decide +kernel
/-! ### runs -/
def gn (xs : List Nat) (i : Nat) : Nat := xs[i]?.getD 0
def gr (st : List (List Nat)) (s : Nat) : List Nat := st[s]?.getD []
def nxt (ms : List Msg) (st : List (List Nat)) (s : Nat) (m : Msg) : Nat := gn (gr st s) (pl ms m)
def fin (ms : List Msg) (st : List (List Nat)) (s : Nat) (q : List Msg) : Nat := q.foldl (nxt ms st) s
def run (ms : List Msg) (st : List (List Nat)) : Nat → List Msg → List Nat
  | s, [] => [s]
  | s, m :: q => s :: run ms st (nxt ms st s m) q
section
variable {ms : List Msg} {st : List (List Nat)}
theorem fin_app {s : Nat} {q r : List Msg} : fin ms st s (q ++ r) = fin ms st (fin ms st s q) r := List.foldl_append
theorem run_len : ∀ (q : List Msg) (s : Nat), (run ms st s q).length = q.length + 1
  | [], _ => rfl
  | m :: q, s => by
    show (run ms st (nxt ms st s m) q).length + 1 = q.length + 1 + 1
    rw [run_len q]
theorem run_snoc : ∀ (q : List Msg) (s : Nat) (m : Msg), run ms st s (q ++ [m]) = run ms st s q ++ [nxt ms st (fin ms st s q) m]
  | [], _, _ => rfl
  | x :: q, s, m => by
    show s :: run ms st (nxt ms st s x) (q ++ [m]) = s :: (run ms st (nxt ms st s x) q ++ [nxt ms st (fin ms st (nxt ms st s x) q) m])
    rw [run_snoc q]
theorem run_drop : ∀ (a b : List Msg) (s : Nat), (run ms st s (a ++ b)).drop a.length = run ms st (fin ms st s a) b
  | [], b, s => rfl
  | x :: a, b, s => by
    show (s :: run ms st (nxt ms st s x) (a ++ b)).drop (a.length + 1) = _
    rw [List.drop_succ_cons, run_drop a b]
    rfl
theorem run_at : ∀ (q : List Msg) (s i : Nat), i ≤ q.length → (run ms st s q)[i]? = some (fin ms st s (q.take i))
  | q, s, 0, _ => by cases q <;> rfl
  | [], s, i + 1, h => by simp at h
  | x :: q, s, i + 1, h => by
    show (run ms st (nxt ms st s x) q)[i]? = _
    rw [run_at q _ i (by simpa using h)]
    rfl
end
section
variable {w : Str} {n : Nat} {st : List (List Nat)} {an : List Nat}
theorem gr_at (k : Kp w n st an) {s : Nat} (hs : s < st.length) : st[s]? = some (gr st s) ∧ gr st s ∈ st := by
  unfold gr
  rw [List.getElem?_eq_getElem hs]
  exact ⟨rfl, List.getElem_mem hs⟩
theorem gn_at {xs : List Nat} {i : Nat} (h : i < xs.length) : xs[i]? = some (gn xs i) ∧ gn xs i ∈ xs := by
  unfold gn
  rw [List.getElem?_eq_getElem h]
  exact ⟨rfl, List.getElem_mem h⟩
theorem nxt_lt (k : Kp w n st an) {s : Nat} {m : Msg} (hs : s < st.length) (hm : m ∈ msgs w n) : nxt (msgs w n) st s m < st.length := by
  obtain ⟨h1, h2⟩ := gr_at k hs
  obtain ⟨h3, h4⟩ := k.r _ h2
  have := h4 _ (gn_at (xs := gr st s) (i := pl (msgs w n) m) (by rw [h3]; exact pl_lt hm)).2
  have l1 := k.l1
  unfold nxt; omega
theorem fin_lt (k : Kp w n st an) : ∀ {q : List Msg} {s : Nat}, s < st.length → (∀ m ∈ q, m ∈ msgs w n) → fin (msgs w n) st s q < st.length
  | [], s, hs, _ => hs
  | m :: q, s, hs, hq => by
    show fin (msgs w n) st (nxt (msgs w n) st s m) q < _
    exact fin_lt k (nxt_lt k hs (hq m (by simp))) fun x hx => hq x (by simp [hx])
theorem ixNat {M : Store} {xs : List Nat} {i : Nat} (h : i < xs.length) : oIx (tI xs) (nI i) M = some (nI (gn xs i), M) := ix_tup (by rw [List.getElem?_map, (gn_at h).1]; rfl)
theorem ixRow {M : Store} (k : Kp w n st an) {i : Nat} (h : i < st.length) : oIx (.tup (st.map tI)) (nI i) M = some (tI (gr st i), M) := ix_tup (by rw [List.getElem?_map, (gr_at k h).1]; rfl)
theorem kept_answers_ok {M : Store} {q : List Msg} (hw : w ∈ worlds) (h1 : 1 ≤ n) (h3 : n ≤ 3) (k : Kp w n st an) (hq : ∀ m ∈ q, m ∈ msgs w n) (hl : q.length ≤ 100) :
    (F_kept_answers [.tup ((msgs w n).map msgA), kpA st an, .tup (q.map msgA)] M).W fun a M' => a = tI ((run (msgs w n) st 0 q).map (gn an)) ∧ Pre M M' := by
  have hnd := msgs_nodup w hw n (num_mem h1 h3)
  have hml := (msgs_le w hw n (num_mem h1 h3)).1
  generalize hms : msgs w n = ms at hnd hml
  have l1 := k.l1
  refine w_def ?_
  unfold S_kept_answers kpA
  obtain ⟨M1, rfl⟩ : ∃ M1, M1 = M := ⟨_, rfl⟩
  have p1 : Pre M1 M1 := Fr.refl
  refine w_seq (w_set (w_dc (w_enumT ?_)))
  repeat walk_at "wt"
  refine ⟨_, rfl, pairsFrom 0 (ms.map msgA), fun i M' => M'[M1.length]? = some (.dN (kvOf 0 (ms.take i))) ∧ Pre M1 M', by simp [Src.size], ⟨by rw [at_new]; rfl, Fr.refl.app _⟩, fun _ _ _ => rfl, ?_, ?_⟩
  · rintro i x M' hx ⟨hc, p⟩
    rw [pairs_get, List.getElem?_map] at hx
    obtain ⟨z, hz, rfl⟩ := Option.map_eq_some_iff.mp hx
    obtain ⟨m, hm, rfl⟩ := Option.map_eq_some_iff.mp hz
    have hi : i < ms.length := (List.getElem?_eq_some_iff.mp hm).1
    refine ⟨_, rfl, ?_⟩
    repeat walk_at "wt"
    have hnot : m ∉ ms.take i := by
      intro hin
      obtain ⟨j, hj, hjm⟩ := List.mem_take_iff_getElem.mp hin
      have := (List.getElem?_inj (i := j) (j := i) (by omega) hnd).mp (by rw [hm, List.getElem?_eq_getElem (by omega), hjm])
      omega
    have hput := nput_ok (m := m) hc (by rw [List.length_take]; omega) hnot
    rw [List.length_take, Nat.min_eq_left (by omega)] at hput
    rw [Nat.zero_add]
    refine ⟨_, hput, ?_, ?_⟩
    · rw [at_set hc, List.take_add_one, hm]
      rfl
    · exact p.set (Nat.le_refl _)
  · rintro M' ⟨hc, p⟩
    rw [pairs_len, List.length_map, List.take_length] at hc
    have pM := p1.trans p
    repeat walk_at "wt"
    refine ⟨_, rfl, ?_⟩
    repeat walk_at "wt"
    refine w_toE (ixNat (i := 0) (by rw [k.l3]; omega)) ?_
    repeat walk_at "wt"
    refine ⟨by simp [sizeLine_eq], ?_⟩
    refine w_seq (w_for (w_iSeqT ?_))
    repeat walk_at "wt"
    refine ⟨_, rfl, q.map msgA, fun i τ M2 => ∃ y7, τ = [some (.tup (ms.map msgA)), some (.tup [.tup (st.map tI), tI an]), some (.tup (q.map msgA)), some (.dct M1.length), some (nI (fin ms st 0 (q.take i))), some (.lst M'.length), y7, some (.tup (st.map tI)), some (tI an), none] ∧
      M2[M1.length]? = some (.dN (kvOf 0 ms)) ∧ M2[M'.length]? = some (.lst (((run ms st 0 (q.take i)).map (gn an)).map nI)) ∧ Pre M1 M2, rfl, ⟨_, rfl, at_app hc, ?_, pM.app _⟩, fun _ _ _ _ => rfl, ?_, ?_⟩
    · rw [at_new]; rfl
    · rintro i x τ M2 hx ⟨y7, rfl, hd, hf, p2⟩
      rw [List.getElem?_map] at hx
      obtain ⟨m, hm, rfl⟩ := Option.map_eq_some_iff.mp hx
      have hmq := List.mem_of_getElem? hm
      have hmm : m ∈ ms := by rw [← hms]; exact hq m hmq
      have hs : fin ms st 0 (q.take i) < st.length := by rw [← hms]; exact fin_lt k (by omega) fun m hm => hq m (List.mem_of_mem_take hm)
      have hs2 := nxt_lt k hs (hq m hmq)
      rw [hms] at hs2
      refine ⟨_, rfl, ?_⟩
      repeat walk_at "wt"
      refine w_toE (ixRow k hs) ?_
      repeat walk_at "wt"
      refine w_toE (nget_ok hd hmm) ?_
      refine w_toE (ixNat (by rw [(k.r _ (gr_at k hs).2).1, hms]; exact pl_lt hmm)) ?_
      repeat walk_at "wt"
      refine ⟨isL_of hf, ?_⟩
      repeat walk_at "wt"
      refine w_toE (ixNat (i := nxt ms st (fin ms st 0 (q.take i)) m) (by rw [k.l3]; exact hs2)) ?_
      repeat walk_at "wt"
      have e1 : fin ms st 0 (q.take (i + 1)) = nxt ms st (fin ms st 0 (q.take i)) m := by
        rw [List.take_add_one, hm, fin_app]; rfl
      refine w_toE (append_ok hf (by rw [List.length_map, List.length_map, run_len, List.length_take]; omega)) ?_
      repeat walk_at "wt"
      refine ⟨_, by rw [e1]; rfl, ?_, ?_, p2.set pM.1⟩
      · exact at_ne (by have := (List.getElem?_eq_some_iff.mp hc).1; omega) hd
      · rw [at_set hf, List.take_add_one, hm]
        show _ = some (Cell.lst (((run ms st 0 (q.take i ++ [m])).map (gn an)).map nI))
        rw [run_snoc, List.map_append, List.map_append]
        rfl
    · rintro τ M2 ⟨y7, rfl, hd, hf, p2⟩
      rw [List.length_map, List.take_length] at hf
      repeat walk_at "wt"
      exact w_toE (tuple_lst (listAt_of hf)) ⟨rfl, p2⟩
end
end P09
namespace P09
open PySem PySem.Spec PyProof.Rows L2 AB SM
/-! ### slips -/
def fdf : Nat → List Nat → List Nat → Option Nat
  | k, x :: xs, y :: ys => if x ≠ y then some k else fdf (k + 1) xs ys
  | _, _, _ => none
theorem fdf_take : ∀ (B O : List Nat) (k i : Nat) (x y : Nat), B[i]? = some x → O[i]? = some y →
    fdf k (B.take (i + 1)) (O.take (i + 1)) = match fdf k (B.take i) (O.take i) with
      | some j => some j
      | none => if x ≠ y then some (k + i) else none
  | [], O, k, i, x, y, h, _ => by simp at h
  | b :: B, [], k, i, x, y, _, h => by simp at h
  | b :: B, o :: O, k, 0, x, y, h, h' => by
    simp at h h'
    subst h h'
    simp [fdf]
  | b :: B, o :: O, k, i + 1, x, y, h, h' => by
    show (if b ≠ o then some k else fdf (k + 1) (B.take (i + 1)) (O.take (i + 1))) = match (if b ≠ o then some k else fdf (k + 1) (B.take i) (O.take i)) with
      | some j => some j
      | none => _
    by_cases e : b = o
    · rw [if_neg (by simpa using e), if_neg (by simpa using e), fdf_take B O (k + 1) i x y (by simpa using h) (by simpa using h'), show k + 1 + i = k + (i + 1) by omega]
    · rw [if_pos e, if_pos e]
theorem fdf_some : ∀ (B O : List Nat) (k i j : Nat), fdf k (B.take i) (O.take i) = some j → fdf k B O = some j
  | [], O, k, i, j, h => by cases i <;> simp [fdf] at h
  | b :: B, [], k, i, j, h => by cases i <;> simp [fdf] at h
  | b :: B, o :: O, k, 0, j, h => by simp [fdf] at h
  | b :: B, o :: O, k, i + 1, j, h => by
    have h : (if b ≠ o then some k else fdf (k + 1) (B.take i) (O.take i)) = some j := h
    show (if b ≠ o then some k else fdf (k + 1) B O) = some j
    by_cases e : b = o
    · rw [if_neg (by simpa using e)] at h ⊢
      exact fdf_some B O (k + 1) i j h
    · rw [if_pos e] at h ⊢
      exact h
def onA : Option Nat → A
  | none => .non
  | some k => nI k
section
variable {w : Str} {n : Nat} {st : List (List Nat)} {an : List Nat} {M : Store} {q : List Msg}
/-- what he answers, told q from s on -/
def ans (w : Str) (n : Nat) (st : List (List Nat)) (an : List Nat) (s : Nat) (q : List Msg) : List Nat := (run (msgs w n) st s q).map (gn an)
theorem keep_ok (hw : w ∈ worlds) (h1 : 1 ≤ n) (h3 : n ≤ 3) (k : Kp w n st an) (hq : ∀ m ∈ q, m ∈ msgs w n) (hl : q.length ≤ 100) :
    (F_keep [.str w, nI n, kpA st an, .tup (q.map msgA)] M).W fun a M' => a = tI (ans w n st an 0 q) ∧ Pre M M' := by
  refine w_def ?_
  unfold S_keep
  repeat walk_at "wt"
  refine ⟨rfl, (check_world_ok hw).imp ?_⟩
  rintro _ _ rfl
  repeat walk_at "wt"
  refine ⟨rfl, (check_letters_ok h1 h3).imp ?_⟩
  rintro _ _ rfl
  repeat walk_at "wt"
  refine ⟨rfl, (check_keeper_ok hw h1 h3 k).imp ?_⟩
  intro _ M1 p1
  repeat walk_at "wt"
  refine ⟨rfl, (check_row_ok hw h1 h3 hq hl).imp ?_⟩
  intro _ M2 p2
  repeat walk_at "wt"
  refine ⟨rfl, (messages_ok hw h1 h3).imp ?_⟩
  rintro _ M2' ⟨rfl, p2'⟩
  repeat walk_at "wt"
  refine ⟨rfl, (kept_answers_ok hw h1 h3 k hq hl).imp ?_⟩
  rintro _ M3 ⟨rfl, p3⟩
  exact ⟨rfl, ((p1.trans p2).trans p2').trans p3⟩
theorem check_slip_ok {s : Nat} (hw : w ∈ worlds) (h1 : 1 ≤ n) (h3 : n ≤ 3) (k : Kp w n st an) (hq : ∀ m ∈ q, m ∈ msgs w n) (hl : q.length ≤ 100) (hs : s < q.length) :
    (F_check_slip [.str w, nI n, kpA st an, .tup (q.map msgA), nI s] M).W fun a M' => Pre M M' := by
  refine w_def ?_
  unfold S_check_slip
  repeat walk_at "wt"
  refine ⟨rfl, (check_world_ok hw).imp ?_⟩
  rintro _ _ rfl
  repeat walk_at "wt"
  refine ⟨rfl, (check_letters_ok h1 h3).imp ?_⟩
  rintro _ _ rfl
  repeat walk_at "wt"
  refine ⟨rfl, (check_keeper_ok hw h1 h3 k).imp ?_⟩
  intro _ M1 p1
  repeat walk_at "wt"
  refine ⟨rfl, (check_row_ok hw h1 h3 hq hl).imp ?_⟩
  intro _ M2 p2
  repeat walk_at "wt"
  refine w_toE (len_tup (k := q.length) (by rw [List.length_map])) ?_
  repeat walk_at "wt"
  refine w_toE (sub_one (by omega)) ?_
  repeat walk_at "wt"
  refine ⟨rfl, (is_number_ok (lo := 0) (Nat.zero_le _) (by omega)).imp ?_⟩
  rintro _ _ ⟨rfl, rfl⟩
  refine ⟨true, rfl, ?_⟩
  rw [if_neg (by decide)]
  repeat walk_at "wt"
  exact p1.trans p2
theorem ans_len {s : Nat} : (ans w n st an s q).length = q.length + 1 := by unfold ans; rw [List.length_map, run_len]
theorem first_unlike_ok {s : Nat} {O : List Nat} (hw : w ∈ worlds) (h1 : 1 ≤ n) (h3 : n ≤ 3) (k : Kp w n st an) (hq : ∀ m ∈ q, m ∈ msgs w n) (hl : q.length ≤ 100) (hs : s < q.length) (hO : O.length = q.length - s) :
    (F_first_unlike [.str w, nI n, kpA st an, .tup (q.map msgA), nI s, tI O] M).W fun a M' => a = onA (fdf s ((ans w n st an 0 q).drop (s + 1)) O) ∧ Pre M M' := by
  refine w_def ?_
  unfold S_first_unlike
  repeat walk_at "wt"
  refine ⟨rfl, (messages_ok hw h1 h3).imp ?_⟩
  rintro _ M0 ⟨rfl, p0⟩
  repeat walk_at "wt"
  refine ⟨rfl, (kept_answers_ok hw h1 h3 k hq hl).imp ?_⟩
  rintro _ M1 ⟨rfl, p1⟩
  have p1 := p0.trans p1
  have hAl : (ans w n st an 0 q).length = q.length + 1 := ans_len
  change SO.W (sSeq _ _ ((startA 9 [.str w, nI n, kpA st an, .tup (q.map msgA), nI s, tI O]).set 6 (some (tI (ans w n st an 0 q)))) M1) _ _
  generalize ans w n st an 0 q = B0 at hAl
  refine w_seq (w_for (w_enumK ?_))
  repeat walk_at "wt"
  refine ⟨_, s, rfl, rfl, by omega, pairsFrom s (O.map nI), fun i τ M' => (∃ y7 y8, τ = [some (.str w), some (nI n), some (kpA st an), some (.tup (q.map msgA)), some (nI s), some (tI O), some (tI B0), y7, y8]) ∧
    fdf s ((B0.drop (s + 1)).take i) (O.take i) = none ∧ Pre M M', by simp [Src.size], ⟨⟨_, _, rfl⟩, by simp [fdf], p1⟩, fun _ _ _ _ => rfl, ?_, ?_⟩
  · rintro i x τ M' hx ⟨⟨y7, y8, rfl⟩, hn, p⟩
    rw [pairs_get, List.getElem?_map] at hx
    obtain ⟨z, hz, rfl⟩ := Option.map_eq_some_iff.mp hx
    obtain ⟨o, ho, rfl⟩ := Option.map_eq_some_iff.mp hz
    have hi : i < O.length := (List.getElem?_eq_some_iff.mp ho).1
    have hb : (B0.drop (s + 1))[i]? = some (gn B0 (s + i + 1)) := by
      rw [List.getElem?_drop, show s + 1 + i = s + i + 1 by omega]
      exact (gn_at (by omega)).1
    have ft := fdf_take (B0.drop (s + 1)) O s i _ _ hb ho
    rw [hn] at ft
    dsimp only at ft
    refine ⟨_, rfl, ?_⟩
    repeat walk_at "wt"
    refine w_toE (a := nI (s + i + 1)) (M' := M') (by rfl) ?_
    refine w_toE (ixNat (by omega)) ?_
    repeat walk_at "wt"
    refine w_toE ne_int ⟨_, rfl, ?_⟩
    by_cases e : gn B0 (s + i + 1) = o
    · rw [if_neg (by simpa using e)] at ft
      rw [if_neg (by simp; omega)]
      repeat walk_at "wt"
      exact ⟨⟨_, _, rfl⟩, ft, p⟩
    · rw [if_pos e] at ft
      rw [if_pos (by simp; omega)]
      repeat walk_at "wt"
      rw [fdf_some _ _ _ _ _ ft]
      exact ⟨rfl, p⟩
  · rintro τ M' ⟨⟨y7, y8, rfl⟩, hn, p⟩
    rw [pairs_len, List.length_map, List.take_length, hO, List.take_of_length_le (by rw [List.length_drop]; omega)] at hn
    repeat walk_at "wt"
    rw [hn]
    exact ⟨rfl, p⟩
end
end P09
namespace P09
open PySem PySem.Spec PyProof.Rows L2 AB SM
/-! ### lost and doubled -/
theorem cutA_take {xs : List A} {s : Nat} (h : s ≤ xs.length) : cutA xs none (some (s : Int)) = xs.take s := by
  unfold cutA HT.sIx
  dsimp only
  rw [if_neg (by omega), Int.toNat_natCast, Nat.min_eq_left h]
  simp
theorem cutA_drop {xs : List A} {s : Nat} (h : s ≤ xs.length) : cutA xs (some (s : Int)) none = xs.drop s := by
  unfold cutA HT.sIx
  dsimp only
  rw [if_neg (by omega), Int.toNat_natCast, Nat.min_eq_left h, List.take_of_length_le (by rw [List.length_drop]; omega)]
section
variable {τ : Sl} {M : Store} {Q : A → Store → Prop} {P : Option Int → Store → Prop}
theorem w_sl {f : EF} {p q : Sl → Store → EO (Option Int)} (h : (f τ M).W fun a M1 => (p τ M1).W fun lo M2 => (q τ M2).W fun hi M3 => (toE (oSl a lo hi M3)).W Q) : (eSl f p q τ M).W Q := w_bind (h.imp fun _ _ h => w_bind (h.imp fun _ _ h => w_bind h))
theorem w_part {f : EF} (h : (f τ M).W fun a M1 => ∃ i, a = .int i ∧ P (some i) M1) : (ePart f τ M).W P := w_bind (h.imp fun _ _ ⟨i, e, h⟩ => by subst e; with_unfolding_all exact h)
theorem w_noPart (h : P none M) : (eNoPart τ M).W P := by with_unfolding_all exact h
theorem sl_take {xs : List A} {s : Nat} (h : s ≤ xs.length) : oSl (.tup xs) none (some (s : Int)) M = some (.tup (xs.take s), M) := by
  show some (A.tup (cutA xs none (some (s : Int))), M) = _
  rw [cutA_take h]
theorem sl_drop {xs : List A} {s : Nat} (h : s ≤ xs.length) : oSl (.tup xs) (some (s : Int)) none M = some (.tup (xs.drop s), M) := by
  show some (A.tup (cutA xs (some (s : Int)) none), M) = _
  rw [cutA_drop h]
theorem add_tup {xs ys : List A} (h : xs.length + ys.length ≤ 16777216) : oAdd (.tup xs) (.tup ys) M = some (.tup (xs ++ ys), M) := by
  unfold oAdd
  dsimp only
  rw [if_pos (by rw [sizeLine_eq]; exact h)]
end
section
variable {w : Str} {n : Nat} {st : List (List Nat)} {an : List Nat} {M : Store} {q : List Msg}
theorem ans_drop {s : Nat} {a b : List Msg} : (ans w n st an s (a ++ b)).drop a.length = ans w n st an (fin (msgs w n) st s a) b := by
  unfold ans
  rw [← List.map_drop, run_drop]
/-- what he would answer from spot on -/
def oth (w : Str) (n : Nat) (st : List (List Nat)) (an : List Nat) (q : List Msg) (s now : Nat) : List Nat := ans w n st an now (q.drop (s + 1))
def nowL (w : Str) (n : Nat) (st : List (List Nat)) (q : List Msg) (s : Nat) : Nat := fin (msgs w n) st 0 (q.take s)
def nowD (w : Str) (n : Nat) (st : List (List Nat)) (q : List Msg) (s : Nat) : Nat := fin (msgs w n) st 0 (q.take (s + 1) ++ (q.drop s).take 1)
theorem oth_len {s now : Nat} (hs : s < q.length) : (oth w n st an q s now).length = q.length - s := by
  unfold oth
  rw [ans_len, List.length_drop]; omega
theorem lost_ok {s : Nat} (hw : w ∈ worlds) (h1 : 1 ≤ n) (h3 : n ≤ 3) (k : Kp w n st an) (hq : ∀ m ∈ q, m ∈ msgs w n) (hl : q.length ≤ 99) (hs : s < q.length) :
    (F_lost [.str w, nI n, kpA st an, .tup (q.map msgA), nI s] M).W fun a M' => a = onA (fdf s ((ans w n st an 0 q).drop (s + 1)) (oth w n st an q s (nowL w n st q s))) ∧ Pre M M' := by
  refine w_def ?_
  unfold S_lost
  repeat walk_at "wt"
  refine ⟨rfl, (check_slip_ok hw h1 h3 k hq (by omega) hs).imp ?_⟩
  intro _ M1 p1
  repeat walk_at "wt"
  refine ⟨rfl, (messages_ok hw h1 h3).imp ?_⟩
  rintro _ M1' ⟨rfl, p1'⟩
  have p1 := p1.trans p1'
  clear p1'
  repeat walk_at "wt"
  refine w_sl ?_
  repeat walk_at "wt"
  refine w_noPart (w_part ?_)
  repeat walk_at "wt"
  refine ⟨_, rfl, w_toE (sl_take (by rw [List.length_map]; omega)) ?_⟩
  refine w_sl ?_
  repeat walk_at "wt"
  refine w_part ?_
  repeat walk_at "wt"
  refine w_toE (a := nI (s + 1)) (M' := M1') (by rfl) ⟨_, rfl, w_noPart ?_⟩
  refine w_toE (sl_drop (by rw [List.length_map]; omega)) ?_
  refine w_toE (add_tup (by rw [List.length_take, List.length_drop, List.length_map]; omega)) ?_
  repeat walk_at "wt"
  rw [← List.map_take, ← List.map_drop, ← List.map_append]
  refine ⟨rfl, (kept_answers_ok hw h1 h3 k (q := q.take s ++ q.drop (s + 1)) (fun m hm => ?_) ?_).imp ?_⟩
  · rcases List.mem_append.mp hm with h | h
    · exact hq m (List.mem_of_mem_take h)
    · exact hq m (List.mem_of_mem_drop h)
  · rw [List.length_append, List.length_take, List.length_drop]; omega
  rintro _ M2 ⟨rfl, p2⟩
  repeat walk_at "wt"
  refine w_sl ?_
  repeat walk_at "wt"
  refine w_part ?_
  repeat walk_at "wt"
  refine ⟨_, rfl, w_noPart ?_⟩
  refine w_toE (sl_drop (s := s) (by rw [List.length_map, List.length_map, run_len, List.length_append, List.length_take, List.length_drop]; omega)) ?_
  repeat walk_at "wt"
  have e : (((run (msgs w n) st 0 (q.take s ++ q.drop (s + 1))).map (gn an)).map nI).drop s = (oth w n st an q s (nowL w n st q s)).map nI := by
    rw [← List.map_drop]
    have := ans_drop (w := w) (n := n) (st := st) (an := an) (s := 0) (a := q.take s) (b := q.drop (s + 1))
    rw [List.length_take, Nat.min_eq_left (by omega)] at this
    unfold oth nowL
    rw [← this]
    rfl
  rw [e]
  refine ⟨rfl, (first_unlike_ok hw h1 h3 k hq (by omega) hs (oth_len hs)).imp ?_⟩
  rintro _ M3 ⟨rfl, p3⟩
  exact ⟨rfl, (p1.trans p2).trans p3⟩
theorem doubled_ok {s : Nat} (hw : w ∈ worlds) (h1 : 1 ≤ n) (h3 : n ≤ 3) (k : Kp w n st an) (hq : ∀ m ∈ q, m ∈ msgs w n) (hl : q.length ≤ 99) (hs : s < q.length) :
    (F_doubled [.str w, nI n, kpA st an, .tup (q.map msgA), nI s] M).W fun a M' => a = onA (fdf s ((ans w n st an 0 q).drop (s + 1)) (oth w n st an q s (nowD w n st q s))) ∧ Pre M M' := by
  have eR : q.take (s + 1) ++ q.drop s = (q.take (s + 1) ++ (q.drop s).take 1) ++ q.drop (s + 1) := by
    rw [List.append_assoc]
    congr 1
    have := (List.take_append_drop 1 (q.drop s)).symm
    rw [List.drop_drop] at this
    exact this
  refine w_def ?_
  unfold S_doubled
  repeat walk_at "wt"
  refine ⟨rfl, (check_slip_ok hw h1 h3 k hq (by omega) hs).imp ?_⟩
  intro _ M1 p1
  repeat walk_at "wt"
  refine ⟨rfl, (messages_ok hw h1 h3).imp ?_⟩
  rintro _ M1' ⟨rfl, p1'⟩
  have p1 := p1.trans p1'
  clear p1'
  repeat walk_at "wt"
  refine w_sl ?_
  repeat walk_at "wt"
  refine w_noPart (w_part ?_)
  repeat walk_at "wt"
  refine w_toE (a := nI (s + 1)) (M' := M1') (by rfl) ⟨_, rfl, w_toE (sl_take (by rw [List.length_map]; omega)) ?_⟩
  refine w_sl ?_
  repeat walk_at "wt"
  refine w_part ?_
  repeat walk_at "wt"
  refine ⟨_, rfl, w_noPart ?_⟩
  refine w_toE (sl_drop (by rw [List.length_map]; omega)) ?_
  refine w_toE (add_tup (by rw [List.length_take, List.length_drop, List.length_map]; omega)) ?_
  repeat walk_at "wt"
  rw [← List.map_take, ← List.map_drop, ← List.map_append]
  refine ⟨rfl, (kept_answers_ok hw h1 h3 k (q := q.take (s + 1) ++ q.drop s) (fun m hm => ?_) ?_).imp ?_⟩
  · rcases List.mem_append.mp hm with h | h
    · exact hq m (List.mem_of_mem_take h)
    · exact hq m (List.mem_of_mem_drop h)
  · rw [List.length_append, List.length_take, List.length_drop]; omega
  rintro _ M2 ⟨rfl, p2⟩
  repeat walk_at "wt"
  refine w_sl ?_
  repeat walk_at "wt"
  refine w_part ?_
  repeat walk_at "wt"
  refine w_toE (a := nI (s + 2)) (M' := M2) (by rfl) ⟨_, rfl, w_noPart ?_⟩
  refine w_toE (sl_drop (s := s + 2) (by rw [List.length_map, List.length_map, run_len, List.length_append, List.length_take, List.length_drop]; omega)) ?_
  repeat walk_at "wt"
  have e : (((run (msgs w n) st 0 (q.take (s + 1) ++ q.drop s)).map (gn an)).map nI).drop (s + 2) = (oth w n st an q s (nowD w n st q s)).map nI := by
    rw [← List.map_drop, eR]
    have := ans_drop (w := w) (n := n) (st := st) (an := an) (s := 0) (a := q.take (s + 1) ++ (q.drop s).take 1) (b := q.drop (s + 1))
    rw [List.length_append, List.length_take, List.length_take, List.length_drop, Nat.min_eq_left (by omega), Nat.min_eq_left (by omega), show s + 1 + 1 = s + 2 by omega] at this
    unfold oth nowD
    rw [← this]
    rfl
  rw [e]
  refine ⟨rfl, (first_unlike_ok hw h1 h3 k hq (by omega) hs (oth_len hs)).imp ?_⟩
  rintro _ M3 ⟨rfl, p3⟩
  exact ⟨rfl, (p1.trans p2).trans p3⟩
theorem alike_on {m : Nat} {o : Option Nat} : (F_law_alike (m + 1) [onA o, onA o] M).W fun a M' => a = .bl true ∧ Pre M M' := by
  cases o with
  | none => exact alike_non
  | some k => exact alike_int
end
end P09
namespace P09
open PySem PySem.Spec PyProof.Rows L2 AB SM
/-! ### the place of a message -/
def mD : Msg → PyData
  | (x, .one) => .tuple [.str x]
  | (x, .num a) => .tuple [.str x, .int a]
  | (x, .tup ns) => .tuple [.str x, .tuple (ns.map .int)]
theorem mapM_ints (M : Store) (k : Nat) : ∀ xs : List Int, (xs.map A.int).mapM (dat M k) = some (xs.map PyData.int)
  | [] => rfl
  | x :: xs => by
    rw [List.map_cons, List.mapM_cons, mapM_ints M k xs, show dat M k (.int x) = some (.int x) by unfold dat; rfl]
    rfl
theorem dat_msg (M : Store) (k : Nat) (m : Msg) : dat M (k + 2) (msgA m) = some (mD m) := by
  obtain ⟨x, r⟩ := m
  have hx : dat M (k + 1) (.str x) = some (.str x) := by unfold dat; rfl
  cases r with
  | one =>
    show (([A.str x] : List A).mapM (dat M (k + 1))).map PyData.tuple = _
    rw [List.mapM_cons, hx]; rfl
  | num a =>
    have ha : dat M (k + 1) (.int a) = some (.int a) := by unfold dat; rfl
    show (([A.str x, .int a] : List A).mapM (dat M (k + 1))).map PyData.tuple = _
    rw [List.mapM_cons, List.mapM_cons, hx, ha]; rfl
  | tup ns =>
    have ha : dat M (k + 1) (.tup (ns.map A.int)) = some (.tuple (ns.map .int)) := by
      show ((ns.map A.int).mapM (dat M k)).map PyData.tuple = _
      rw [mapM_ints]; rfl
    show (([A.str x, .tup (ns.map A.int)] : List A).mapM (dat M (k + 1))).map PyData.tuple = _
    rw [List.mapM_cons, List.mapM_cons, hx, ha]; rfl
theorem dat_msgs (M : Store) (k : Nat) : ∀ q : List Msg, (q.map msgA).mapM (dat M (k + 2)) = some (q.map mD)
  | [] => rfl
  | m :: q => by
    rw [List.map_cons, List.mapM_cons, dat_msgs M k q, dat_msg]
    rfl
theorem shaped_msgs : ∀ w ∈ worlds, ∀ n ∈ nums, SeqAt.shaped (.list ((msgs w n).map mD)) = true ∧ ∀ m ∈ msgs w n, SeqAt.shaped (mD m) = true := by decide +kernel
theorem eqv_msgs : ∀ w ∈ worlds, ∀ n ∈ nums, ∀ a ∈ msgs w n, ∀ b ∈ msgs w n, PyData.eqv (mD a) (mD b) = decide (a = b) := by decide +kernel
theorem ix_pl {m : Msg} : ∀ (xs : List Msg) (j : Nat), m ∈ xs → (∀ a ∈ xs, PyData.eqv (mD a) (mD m) = decide (a = m)) → ixData (mD m) (xs.map mD) j = some (j + pl xs m)
  | [], _, h, _ => by cases h
  | x :: xs, j, h, he => by
    rw [List.map_cons]
    unfold ixData
    rw [he x (by simp)]
    show (if decide (x = m) = true then some j else _) = some (j + (if x = m then 0 else pl xs m + 1))
    by_cases e : x = m
    · rw [if_pos (by simpa using e), if_pos e]; rfl
    · rw [if_neg (by simpa using e), if_neg e]
      have hm : m ∈ xs := by rcases List.mem_cons.mp h with h | h; exact absurd h.symm e; exact h
      rw [ix_pl xs (j + 1) hm fun a ha => he a (by simp [ha]), show j + 1 + pl xs m = j + (pl xs m + 1) by omega]
theorem index_ok {M : Store} {w : Str} {n l : Nat} {m : Msg} (hw : w ∈ worlds) (h1 : 1 ≤ n) (h3 : n ≤ 3) (h : M[l]? = some (.lst ((msgs w n).map msgA))) (hm : m ∈ msgs w n) :
    oIndexD (.lst l) [msgA m] M = some (nI (pl (msgs w n) m), M) := by
  obtain ⟨s1, s2⟩ := shaped_msgs w hw n (num_mem h1 h3)
  have d1 : datS M (.lst l) = some (.list ((msgs w n).map mD)) := by
    have e : dat M 8 (.lst l) = some (.list ((msgs w n).map mD)) := by
      show ((listAt M l).bind fun xs => (xs.mapM (dat M 7)).map PyData.list) = _
      rw [listAt_of h]
      show (((msgs w n).map msgA).mapM (dat M 7)).map PyData.list = _
      rw [dat_msgs M 5]
      rfl
    unfold datS
    rw [e]
    dsimp only
    rw [if_pos s1]
  have d2 : datS M (msgA m) = some (mD m) := by
    unfold datS
    rw [dat_msg M 6]
    dsimp only
    rw [if_pos (s2 m hm)]
  unfold oIndexD
  dsimp only
  rw [d1, d2]
  dsimp only
  rw [ix_pl _ 0 hm fun a ha => eqv_msgs w hw n (num_mem h1 h3) a ha m hm, Nat.zero_add]
  rfl
/-! ### draws -/
theorem lc_draw {fi : EI} {t : Tgt} {fe : EF} {own : List Nat} {τ : Sl} {M : Store} {Q : A → Store → Prop} (P : A → Prop)
    (h : (fi τ M).W fun src M1 => ∃ xs : List A, src.size M1 = xs.length + 1 ∧ xs.length ≤ sizeLine ∧ (∀ M2, Fr (some 1) M1 M2 → ∀ i, src.at M2 i = some xs[i]?) ∧ RowOk M1 ∧
      (∀ x M2, x ∈ xs → Fr (some 1) M1 M2 → RowOk M2 → ∃ τ1, t.set x (wipeA τ own) = some τ1 ∧ (fe τ1 M2).W fun y M3 => P y ∧ Fr (some 1) M2 M3 ∧ RowOk M3) ∧
      (∀ l M2 ys, M1.length ≤ l → Fr (some 1) M1 M2 → RowOk M2 → M2[l]? = some (.lst ys) → ys.length = xs.length → (∀ y ∈ ys, P y) → Q (.lst l) M2)) : (eLc fi t bYes fe own τ M).W Q := by
  refine w_lc (h.imp fun src M1 ⟨xs, e, hz, hat, hr, hs, hq⟩ => ⟨xs, fun i acc M2 => acc.length = i ∧ (∀ y ∈ acc, P y) ∧ Fr (some 1) M1 M2 ∧ RowOk M2, e, hz, ⟨rfl, by simp, Fr.refl.app _, hr.app _⟩, fun i acc M2 h => hat M2 h.2.2.1 i, fun i x acc M2 ex h hl _ => ?_, fun acc M2 h hl => ?_⟩)
  · obtain ⟨h1, h2, h3, h4⟩ := h
    obtain ⟨τ1, e1, w⟩ := hs x M2 (List.mem_of_getElem? ex) h3 h4
    refine ⟨τ1, e1, w_yes ?_⟩
    rw [if_pos rfl]
    refine w.imp fun y M3 hy => ⟨hy.2.1.at hl (by have := hr.lt; simp; omega), by rw [List.length_append, h1]; rfl, ?_, (h3.trans hy.2.1).set (Nat.le_refl _), hy.2.2.set hr.lt⟩
    intro z hz
    rcases List.mem_append.mp hz with hz | hz
    · exact h2 z hz
    · rw [List.mem_singleton.mp hz]; exact hy.1
  · obtain ⟨h1, h2, h3, h4⟩ := h
    exact hq _ _ _ (Nat.le_refl _) h3 h4 hl h1 h2
theorem all_of {α : Type} {f : α → A} {p : α → Prop} : ∀ ys : List A, (∀ y ∈ ys, ∃ k, p k ∧ y = f k) → ∃ ks : List α, ys = ks.map f ∧ ∀ k ∈ ks, p k
  | [], _ => ⟨[], rfl, by simp⟩
  | y :: ys, h => by
    obtain ⟨k, hk, rfl⟩ := h y (by simp)
    obtain ⟨ks, rfl, h2⟩ := all_of ys fun z hz => h z (by simp [hz])
    exact ⟨k :: ks, rfl, fun z hz => by
      rcases List.mem_cons.mp hz with rfl | hz
      · exact hk
      · exact h2 z hz⟩
end P09
namespace P09
open PySem PySem.Spec PyProof.Rows L2 AB SM
/-! ### one spot -/
theorem w_rng2 {τ : Sl} {M : Store} {f : EFs} {P : Src → Store → Prop} (h : (f τ M).W fun as M1 => ∃ a b : Nat, as = [nI a, nI b] ∧ a < 1000000 ∧ b < 1000000 ∧ P (.rng (a : Int) (b - a)) M1) : (iRng2 f τ M).W P := w_bind (h.imp fun _ _ ⟨a, b, e, h1, h2, h⟩ => by
  subst e
  unfold rngOf2
  dsimp only
  rw [if_pos (by omega), show (((b : Int) - (a : Int)).toNat) = b - a by omega]
  with_unfolding_all exact h)
theorem rng2_at {M : Store} {a n i : Nat} : (Src.rng (a : Int) n).at M i = some ((List.range n).map fun j => nI (a + j))[i]? := by
  show some (if i < n then some (A.int ((a : Int) + (i : Nat))) else none) = _
  by_cases hi : i < n
  · rw [if_pos hi, List.getElem?_map, List.getElem?_range hi]
    simp
  · rw [if_neg hi, List.getElem?_eq_none (by simp; omega)]
theorem ix_list {M : Store} {l i : Nat} {xs : List Nat} (h : M[l]? = some (.lst (xs.map nI))) (hi : i < xs.length) : oIx (.lst l) (nI i) M = some (nI (gn xs i), M) :=
  ix_lst (listAt_of h) (by rw [List.getElem?_map, (gn_at hi).1]; rfl)
theorem kp_0 {M : Store} {st : List (List Nat)} {an : List Nat} : oIx (kpA st an) (.int 0) M = some (.tup (st.map tI), M) := rfl
theorem kp_1 {M : Store} {st : List (List Nat)} {an : List Nat} : oIx (kpA st an) (.int 1) M = some (tI an, M) := rfl
theorem is_on {M : Store} {o : Option Nat} : oIs (onA o) .non M = some (.bl o.isNone, M) := by
  cases o <;> rfl
section
variable {w : Str} {n : Nat} {st : List (List Nat)} {an : List Nat} {M : Store} {q : List Msg}
theorem gn_run {ms : List Msg} {s i : Nat} (h : i ≤ q.length) : gn (run ms st s q) i = fin ms st s (q.take i) := by
  unfold gn
  rw [run_at q s i h]
  rfl
theorem nowD_eq {s : Nat} {m : Msg} (h : q[s]? = some m) : nowD w n st q s = nxt (msgs w n) st (fin (msgs w n) st 0 (q.take (s + 1))) m := by
  unfold nowD
  rw [fin_app]
  have e : (q.drop s).take 1 = [m] := by
    obtain ⟨hs, rfl⟩ := List.getElem?_eq_some_iff.mp h
    rw [List.drop_eq_getElem_cons hs]
    rfl
  rw [e]
  rfl
theorem nowD_lt (k : Kp w n st an) (hq : ∀ m ∈ q, m ∈ msgs w n) {s : Nat} : nowD w n st q s < st.length := by
  have := k.l1
  refine fin_lt k (by omega) fun m hm => ?_
  rcases List.mem_append.mp hm with h | h
  · exact hq m (List.mem_of_mem_take h)
  · exact hq m (List.mem_of_mem_drop (List.mem_of_mem_take h))
theorem nowL_lt (k : Kp w n st an) (hq : ∀ m ∈ q, m ∈ msgs w n) {s : Nat} : nowL w n st q s < st.length := by
  have := k.l1
  exact fin_lt k (by omega) fun m hm => hq m (List.mem_of_mem_take hm)
/-- the loop over the places from spot on -/
theorem at_ok {s now ls le : Nat} {y0 y1 y2 y6 y10 y11 y13 y17 : Option A} {y16 : Option A} {R : A → Store → Prop} (hw : w ∈ worlds) (h1 : 1 ≤ n) (h3 : n ≤ 3) (k : Kp w n st an) (hq : ∀ m ∈ q, m ∈ msgs w n) (hl : q.length ≤ 99) (hs : s < q.length) (hn : now < st.length)
    (e5 : M[ls]? = some (.lst ((run (msgs w n) st 0 q).map nI))) (e12 : M[le]? = some (.lst ((msgs w n).map msgA))) :
    ((sFor (iRng2 (eCons (eVar 7) (eCons (eFn oLenN (eCons (eVar 4) eNil)) eNil))) (.nm 16) (sSeq (sIf (eB (eOp oGt (eVar 16) (eVar 7))) (sSeq (sAsg (.nm 14) (eOp oIx (eOp oIx (eOp oIx (eVar 3) (eC (.int 0))) (eVar 14)) (eMeth oIndexD (eVar 12) (eCons (eOp oIx (eVar 4) (eVar 16)) eNil))))
    sNil) sNil)
    (sSeq (sIf (bAnd (eB (eOp oIs (eVar 15) (eC .non))) (eB (eOp oNe (eOp oIx (eOp oIx (eVar 3) (eC (.int 1))) (eVar 14)) (eOp oIx (eOp oIx (eVar 3) (eC (.int 1))) (eOp oIx (eVar 5) (eOp oAdd (eVar 16) (eC (.int 1)))))))) (sSeq (sAsg (.nm 15) (eVar 16))
    sNil) sNil)
    sNil)))
      [y0, y1, y2, some (kpA st an), some (.tup (q.map msgA)), some (.lst ls), y6, some (nI s), some (.str w), some (nI n), y10, y11, some (.lst le), y13, some (nI now), some .non, y16, y17] M).W
      (fun τ M' => M' = M ∧ ∃ y14 y16, τ = [y0, y1, y2, some (kpA st an), some (.tup (q.map msgA)), some (.lst ls), y6, some (nI s), some (.str w), some (nI n), y10, y11, some (.lst le), y13, y14, some (onA (fdf s ((ans w n st an 0 q).drop (s + 1)) (oth w n st an q s now))), y16, y17]) R := by
  have hBl : (ans w n st an 0 q).length = q.length + 1 := ans_len
  have hOl : (oth w n st an q s now).length = q.length - s := oth_len hs
  have l3 := k.l3
  refine w_for (w_rng2 ?_)
  repeat walk_at "wt"
  refine w_toE (len_tup (k := q.length) (by rw [List.length_map])) ?_
  repeat walk_at "wt"
  refine ⟨s, q.length, rfl, by omega, by omega, (List.range (q.length - s)).map fun j => nI (s + j), fun i τ M' => M' = M ∧ ∃ y16, τ = [y0, y1, y2, some (kpA st an), some (.tup (q.map msgA)), some (.lst ls), y6, some (nI s), some (.str w), some (nI n), y10, y11, some (.lst le), y13,
    some (nI (fin (msgs w n) st now ((q.drop (s + 1)).take (i - 1)))), some (onA (fdf s (((ans w n st an 0 q).drop (s + 1)).take i) ((oth w n st an q s now).take i))), y16, y17], by simp [Src.size], ⟨rfl, _, rfl⟩, fun _ _ _ _ => rng2_at, ?_, ?_⟩
  · rintro i x τ M' hx ⟨rfl, y16, rfl⟩
    have hi : i < q.length - s := by
      have := (List.getElem?_eq_some_iff.mp hx).1
      simpa using this
    rw [List.getElem?_map, List.getElem?_range hi] at hx
    have hx := (Option.some.inj hx).symm
    subst hx
    have hlt : fin (msgs w n) st now ((q.drop (s + 1)).take (i - 1)) < st.length := fin_lt k hn fun m hm => hq m (List.mem_of_mem_drop (List.mem_of_mem_take hm))
    have hlt2 : fin (msgs w n) st now ((q.drop (s + 1)).take i) < st.length := fin_lt k hn fun m hm => hq m (List.mem_of_mem_drop (List.mem_of_mem_take hm))
    have hO : (oth w n st an q s now)[i]? = some (gn an (fin (msgs w n) st now ((q.drop (s + 1)).take i))) := by
      unfold oth ans
      rw [List.getElem?_map, run_at _ _ _ (by rw [List.length_drop]; omega)]
      rfl
    have hB : ((ans w n st an 0 q).drop (s + 1))[i]? = some (gn an (fin (msgs w n) st 0 (q.take (s + i + 1)))) := by
      unfold ans
      rw [List.getElem?_drop, List.getElem?_map, run_at _ _ _ (by omega), show s + 1 + i = s + i + 1 by omega]
      rfl
    have ft := fdf_take _ _ s i _ _ hB hO
    refine ⟨_, rfl, ?_⟩
    refine w_seq (SO.W.imp (N := fun τ M2 => M2 = M' ∧ τ = [y0, y1, y2, some (kpA st an), some (.tup (q.map msgA)), some (.lst ls), y6, some (nI s), some (.str w), some (nI n), y10, y11, some (.lst le), y13,
      some (nI (fin (msgs w n) st now ((q.drop (s + 1)).take i))), some (onA (fdf s (((ans w n st an 0 q).drop (s + 1)).take i) ((oth w n st an q s now).take i))), some (nI (s + i)), y17]) (R := R) ?_ ?_ (fun _ _ h => h))
    · repeat walk_at "wt"
      refine w_toE (a := .bl (decide (0 < i))) (M' := M') (by show some (A.bl (decide ((s : Int) < ((s + i : Nat) : Int))), M') = _; rw [decide_eq_decide.mpr (show ((s : Int) < ((s + i : Nat) : Int)) ↔ 0 < i by omega)]) ⟨_, rfl, ?_⟩
      cases i with
      | zero =>
        rw [if_neg (by decide)]
        repeat walk_at "wt"
        exact ⟨rfl, rfl⟩
      | succ i =>
        have hsi : s + (i + 1) < q.length := by omega
        have hm : q[s + (i + 1)]? = some q[s + (i + 1)] := List.getElem?_eq_getElem hsi
        have hmm : q[s + (i + 1)] ∈ msgs w n := hq _ (List.getElem_mem hsi)
        rw [if_pos (by simp)]
        repeat walk_at "wt"
        refine w_toE kp_0 ?_
        repeat walk_at "wt"
        refine w_toE (ixRow k hlt) ?_
        repeat walk_at "wt"
        refine ⟨isL_of e12, ?_⟩
        repeat walk_at "wt"
        refine w_toE (a := msgA q[s + (i + 1)]) (M' := M') (ix_tup (by rw [List.getElem?_map, hm]; rfl)) ?_
        repeat walk_at "wt"
        refine w_toE (index_ok hw h1 h3 e12 hmm) ?_
        refine w_toE (ixNat (by rw [(k.r _ (gr_at k hlt).2).1]; exact pl_lt hmm)) ?_
        repeat walk_at "wt"
        refine ⟨rfl, ?_⟩
        have e : fin (msgs w n) st now ((q.drop (s + 1)).take (i + 1)) = nxt (msgs w n) st (fin (msgs w n) st now ((q.drop (s + 1)).take (i + 1 - 1))) q[s + (i + 1)] := by
          rw [List.take_add_one, fin_app, List.getElem?_drop, show s + 1 + i = s + (i + 1) by omega, hm]
          rfl
        rw [e]
        rfl
    · rintro τ2 M2 ⟨rfl, rfl⟩
      refine w_seq (w_if (w_band (w_B ?_)))
      repeat walk_at "wt"
      refine w_toE is_on ⟨_, rfl, ?_⟩
      cases hc : fdf s (((ans w n st an 0 q).drop (s + 1)).take i) ((oth w n st an q s now).take i) with
      | some j =>
        rw [hc] at ft
        rw [if_neg (by simp), if_neg (by simp)]
        repeat walk_at "wt"
        refine ⟨rfl, some (nI (s + i)), ?_⟩
        rw [ft, Nat.add_sub_cancel]
      | none =>
        rw [hc] at ft
        rw [if_pos (by simp)]
        repeat walk_at "wt"
        refine w_toE kp_1 ?_
        repeat walk_at "wt"
        refine w_toE (ixNat (by rw [l3]; exact hlt2)) ?_
        repeat walk_at "wt"
        refine w_toE kp_1 ?_
        repeat walk_at "wt"
        refine w_toE (a := nI (s + i + 1)) (M' := M2) (by rfl) ?_
        refine w_toE (ix_list e5 (by rw [run_len]; omega)) ?_
        rw [gn_run (by omega)]
        refine w_toE (ixNat (by rw [l3]; exact fin_lt k (by omega) fun m hm => hq m (List.mem_of_mem_take hm))) ?_
        refine w_toE ne_int ⟨_, rfl, ?_⟩
        dsimp only at ft
        by_cases e : gn an (fin (msgs w n) st 0 (q.take (s + i + 1))) = gn an (fin (msgs w n) st now ((q.drop (s + 1)).take i))
        · rw [if_neg (by simpa using e)] at ft
          rw [if_neg (by simp; omega)]
          repeat walk_at "wt"
          refine ⟨rfl, some (nI (s + i)), ?_⟩
          rw [ft, Nat.add_sub_cancel]
        · rw [if_pos e] at ft
          rw [if_pos (by simp; omega)]
          repeat walk_at "wt"
          refine ⟨rfl, some (nI (s + i)), ?_⟩
          rw [ft, Nat.add_sub_cancel]
          rfl
  · rintro τ M' ⟨rfl, y16, rfl⟩
    rw [List.length_map, List.length_range, List.take_of_length_le (l := (ans w n st an 0 q).drop (s + 1)) (by rw [List.length_drop]; omega), List.take_of_length_le (l := oth w n st an q s now) (by omega)]
    exact ⟨rfl, _, _, rfl⟩
/-- one spot, lost or told twice -/
theorem spot_ok {s ls le : Nat} {y0 y1 y2 y6 y10 y11 y14 y15 y16 y17 : Option A} {tw : Bool} (hw : w ∈ worlds) (h1 : 1 ≤ n) (h3 : n ≤ 3) (k : Kp w n st an) (hq : ∀ m ∈ q, m ∈ msgs w n) (hl : q.length ≤ 99) (hs : s < q.length)
    (e5 : M[ls]? = some (.lst ((run (msgs w n) st 0 q).map nI))) (e12 : M[le]? = some (.lst ((msgs w n).map msgA))) :
    ((sSeq (sAsg (.nm 14) (eIf (eT (eVar 13)) (eOp oIx (eVar 5) (eOp oAdd (eVar 7) (eC (.int 1)))) (eOp oIx (eVar 5) (eVar 7))))
    (sSeq (sIf (eT (eVar 13)) (sSeq (sAsg (.nm 14) (eOp oIx (eOp oIx (eOp oIx (eVar 3) (eC (.int 0))) (eVar 14)) (eMeth oIndexD (eVar 12) (eCons (eOp oIx (eVar 4) (eVar 7)) eNil))))
    sNil) sNil)
    (sSeq (sAsg (.nm 15) (eC .non))
    (sSeq (sFor (iRng2 (eCons (eVar 7) (eCons (eFn oLenN (eCons (eVar 4) eNil)) eNil))) (.nm 16) (sSeq (sIf (eB (eOp oGt (eVar 16) (eVar 7))) (sSeq (sAsg (.nm 14) (eOp oIx (eOp oIx (eOp oIx (eVar 3) (eC (.int 0))) (eVar 14)) (eMeth oIndexD (eVar 12) (eCons (eOp oIx (eVar 4) (eVar 16)) eNil))))
    sNil) sNil)
    (sSeq (sIf (bAnd (eB (eOp oIs (eVar 15) (eC .non))) (eB (eOp oNe (eOp oIx (eOp oIx (eVar 3) (eC (.int 1))) (eVar 14)) (eOp oIx (eOp oIx (eVar 3) (eC (.int 1))) (eOp oIx (eVar 5) (eOp oAdd (eVar 16) (eC (.int 1)))))))) (sSeq (sAsg (.nm 15) (eVar 16))
    sNil) sNil)
    sNil)))
    (sSeq (sAsg (.nm 17) (eIf (eT (eVar 13)) (eCall 5 F_doubled (eCons (eVar 8) (eCons (eVar 9) (eCons (eVar 3) (eCons (eVar 4) (eCons (eVar 7) eNil)))))) (eCall 5 F_lost (eCons (eVar 8) (eCons (eVar 9) (eCons (eVar 3) (eCons (eVar 4) (eCons (eVar 7) eNil))))))))
    (sSeq (sIf (bNot (eT (eCall 2 (F_law_alike 4) (eCons (eVar 17) (eCons (eVar 15) eNil))))) (sSeq (sRet (eC (.bl false)))
    sNil) sNil)
    sNil))))))
      [y0, y1, y2, some (kpA st an), some (.tup (q.map msgA)), some (.lst ls), y6, some (nI s), some (.str w), some (nI n), y10, y11, some (.lst le), some (.bl tw), y14, y15, y16, y17] M).W
      (fun τ M' => Pre M M' ∧ ∃ y13 y14 y15 y16 y17, τ = [y0, y1, y2, some (kpA st an), some (.tup (q.map msgA)), some (.lst ls), y6, some (nI s), some (.str w), some (nI n), y10, y11, some (.lst le), y13, y14, y15, y16, y17]) (fun a _ => a = .bl true) := by
  have hm : q[s]? = some q[s] := List.getElem?_eq_getElem hs
  have hmm : q[s] ∈ msgs w n := hq _ (List.getElem_mem hs)
  have l1 := k.l1
  have hf : ∀ i, fin (msgs w n) st 0 (q.take i) < st.length := fun i => fin_lt k (by omega) fun m hm => hq m (List.mem_of_mem_take hm)
  cases tw with
  | false =>
    refine w_seq (w_set (w_eIf ?_))
    repeat walk_at "wt"
    refine ⟨false, rfl, ?_⟩
    rw [if_neg (by decide)]
    repeat walk_at "wt"
    refine w_toE (ix_list e5 (by rw [run_len]; omega)) ?_
    rw [gn_run (by omega)]
    repeat walk_at "wt"
    refine ⟨false, rfl, ?_⟩
    rw [if_neg (by decide)]
    repeat walk_at "wt"
    refine (at_ok hw h1 h3 k hq hl hs (hf s) e5 e12).imp ?_ (fun _ _ h => h)
    rintro τ M2 ⟨rfl, y14, y16, rfl⟩
    refine w_seq (w_set (w_eIf ?_))
    repeat walk_at "wt"
    refine ⟨false, rfl, ?_⟩
    rw [if_neg (by decide)]
    repeat walk_at "wt"
    refine ⟨rfl, (lost_ok hw h1 h3 k hq hl hs).imp ?_⟩
    rintro _ M3 ⟨rfl, p3⟩
    repeat walk_at "wt"
    refine ⟨rfl, alike_on.imp ?_⟩
    rintro _ M4 ⟨rfl, p4⟩
    refine ⟨true, rfl, ?_⟩
    rw [if_neg (by decide)]
    repeat walk_at "wt"
    exact ⟨p3.trans p4, _, _, _, _, _, rfl⟩
  | true =>
    refine w_seq (w_set (w_eIf ?_))
    repeat walk_at "wt"
    refine ⟨true, rfl, ?_⟩
    rw [if_pos rfl]
    repeat walk_at "wt"
    refine w_toE (a := nI (s + 1)) (M' := M) (by rfl) ?_
    refine w_toE (ix_list e5 (by rw [run_len]; omega)) ?_
    rw [gn_run (by omega)]
    repeat walk_at "wt"
    refine ⟨true, rfl, ?_⟩
    rw [if_pos rfl]
    repeat walk_at "wt"
    refine w_toE kp_0 ?_
    repeat walk_at "wt"
    refine w_toE (ixRow k (hf _)) ?_
    repeat walk_at "wt"
    refine ⟨isL_of e12, ?_⟩
    repeat walk_at "wt"
    refine w_toE (a := msgA q[s]) (M' := M) (ix_tup (by rw [List.getElem?_map, hm]; rfl)) ?_
    repeat walk_at "wt"
    refine w_toE (index_ok hw h1 h3 e12 hmm) ?_
    refine w_toE (ixNat (by rw [(k.r _ (gr_at k (hf _)).2).1]; exact pl_lt hmm)) ?_
    repeat walk_at "wt"
    have eD : nowD w n st q s = gn (gr st (fin (msgs w n) st 0 (q.take (s + 1)))) (pl (msgs w n) q[s]) := nowD_eq hm
    rw [← eD]
    refine (at_ok hw h1 h3 k hq hl hs (nowD_lt k hq) e5 e12).imp ?_ (fun _ _ h => h)
    rintro τ M2 ⟨rfl, y14, y16, rfl⟩
    refine w_seq (w_set (w_eIf ?_))
    repeat walk_at "wt"
    refine ⟨true, rfl, ?_⟩
    rw [if_pos rfl]
    repeat walk_at "wt"
    refine ⟨rfl, (doubled_ok hw h1 h3 k hq hl hs).imp ?_⟩
    rintro _ M3 ⟨rfl, p3⟩
    repeat walk_at "wt"
    refine ⟨rfl, alike_on.imp ?_⟩
    rintro _ M4 ⟨rfl, p4⟩
    refine ⟨true, rfl, ?_⟩
    rw [if_neg (by decide)]
    repeat walk_at "wt"
    exact ⟨p3.trans p4, _, _, _, _, _, rfl⟩
end
end P09
namespace P09
open PySem PySem.Spec PyProof.Rows L2 AB SM
/-! ### the law -/
theorem atI_last {xs : List A} {x : A} {k : Nat} (hl : xs.length = k + 1) (hx : xs[k]? = some x) : L2.atI xs (-1) = some x := by
  unfold L2.atI L2.ixN
  rw [hl, if_neg (by omega), if_pos (by omega), show ((-1 : Int) + ((k + 1 : Nat) : Int)).toNat = k by omega]
  exact hx
theorem ix_last {M : Store} {ms : List Msg} {st : List (List Nat)} {q : List Msg} {l : Nat} (h : M[l]? = some (.lst ((run ms st 0 q).map nI))) : oIx (.lst l) (.int (-1)) M = some (nI (fin ms st 0 q), M) := by
  show ((listAt M l).bind fun xs => (L2.atI xs (-1)).map (·, M)) = _
  rw [listAt_of h]
  show (L2.atI ((run ms st 0 q).map nI) (-1)).map (·, M) = _
  rw [atI_last (k := q.length) (x := nI (fin ms st 0 q)) (by rw [List.length_map, run_len]) (by rw [List.getElem?_map, run_at q 0 q.length (Nat.le_refl _), List.take_length]; rfl)]
  rfl
theorem law_ok (ns : List Int) : (F_law [.lst 0] (scr ns)).W fun a _ => a = .bl true := by
  refine w_def ?_
  unfold S_law
  repeat walk_at "wt"
  refine ⟨by simp [sizeLine_eq], ?_⟩
  have hr0 : RowOk (scr ns ++ [.lst [.lst 0, .int 0, .int 1009, .int 0]]) := ⟨ns, 0, 1009, 0, ⟨rfl, rfl⟩, by omega, by omega, by omega⟩
  rw [show (A.lst (scr ns).length) = .lst 1 from rfl]
  revert hr0
  generalize scr ns ++ [Cell.lst [.lst 0, .int 0, .int 1009, .int 0]] = M0
  intro hr0
  repeat walk_at "wt"
  refine ⟨rfl, (world_ok hr0).imp ?_⟩
  rintro _ M1 ⟨⟨w, hw, rfl⟩, f1, r1⟩
  repeat walk_at "wt"
  refine ⟨rfl, (taken_ok (n := 3) r1 (by omega) (by omega)).imp ?_⟩
  rintro _ M2 ⟨k2, hk2, rfl, f2, r2⟩
  refine w_toE (add_nat (a := 1)) ?_
  repeat walk_at "wt"
  refine ⟨_, _, rfl, ?_⟩
  have hn1 : 1 ≤ 1 + k2 := by omega
  have hn3 : 1 + k2 ≤ 3 := by omega
  generalize 1 + k2 = n at hn1 hn3
  repeat walk_at "wt"
  refine ⟨rfl, (taken_ok (n := 5) r2 (by omega) (by omega)).imp ?_⟩
  rintro _ M3 ⟨k3, hk3, rfl, f3, r3⟩
  refine w_toE (add_nat (a := 1)) ?_
  have hm1 : 1 ≤ 1 + k3 := by omega
  have hm5 : 1 + k3 ≤ 5 := by omega
  generalize 1 + k3 = mn at hm1 hm5
  repeat walk_at "wt"
  refine ⟨by simp [sizeLine_eq], ?_⟩
  repeat walk_at "wt"
  have hl3 := r3.lt
  refine ⟨rfl, (law_messages_ok hw hn1 hn3).imp ?_⟩
  rintro _ M4 ⟨le, rfl, hle, e12, p4⟩
  have r4 := (r3.app _).pre p4
  have hS0 : M4[M3.length]? = some (.lst (([] : List (List Nat)).map tI)) := p4.at at_new
  have hle1 : 1 < le := by rw [List.length_append] at hle; omega
  have hne : M3.length ≠ le := by rw [List.length_append] at hle; simp at hle; omega
  have hls1 : 1 < M3.length := hl3
  revert hS0 hne
  generalize M3.length = ls at hls1
  intro hS0 hne
  obtain ⟨hml, hm0⟩ := msgs_le w hw n (num_mem hn1 hn3)
  have hm00 : 1 ≤ (msgs w n).length := by cases h : msgs w n with
    | nil => exact absurd h hm0
    | cons _ _ => simp
  repeat walk_at "wt"
  refine ⟨by simp [sizeLine_eq], _, rfl, ?_⟩
  refine w_seq (w_for (w_rng1 ?_))
  repeat walk_at "wt"
  refine ⟨mn, rfl, by omega, (List.range mn).map nI, fun i τ M' => ∃ (y2 : Option A) (S : List (List Nat)), τ = [some (.lst 0), some (.lst 1), y2, none, none, none, none, none, some (.str w), some (nI n), some (nI mn), some (.lst ls), some (.lst le), none, none, none, none, none] ∧
    M'[ls]? = some (.lst (S.map tI)) ∧ S.length = i ∧ (∀ r ∈ S, r.length = (msgs w n).length ∧ ∀ x ∈ r, x < mn) ∧ M'[le]? = some (.lst ((msgs w n).map msgA)) ∧ RowOk M', by simp [Src.size], ?_, fun _ _ _ _ => rng_at, ?_, ?_⟩
  · exact ⟨_, [], rfl, hS0, rfl, by simp, e12, r4⟩
  · rintro i x τ M' hx ⟨y2, S, rfl, hS, hSl, hSr, hE, hr⟩
    have hi : i < mn := by
      have := (List.getElem?_eq_some_iff.mp hx).1
      simpa using this
    refine ⟨_, rfl, ?_⟩
    repeat walk_at "wt"
    refine ⟨isL_of hS, ?_⟩
    repeat walk_at "wt"
    refine lc_draw (fun y => ∃ k : Nat, k < mn ∧ y = nI k) (w_iSeqL ?_)
    repeat walk_at "wt"
    refine ⟨le, _, rfl, listAt_of hE, (msgs w n).map msgA, ?_, by rw [List.length_map, sizeLine_eq]; omega, fun M2 f i => ?_, hr, fun x M2 _ f r => ⟨_, rfl, ?_⟩, fun l M2 ys hl f r hM2 hlen hP => ?_⟩
    · show lenAt _ _ = _
      unfold lenAt
      rw [listAt_of hE]
    · show (listAt M2 le).map (·[i]?) = _
      rw [listAt_of (f.at hE (by simp; omega))]
      rfl
    · repeat walk_at "wt"
      refine ⟨rfl, (taken_ok (n := mn) r hm1 (by omega)).imp ?_⟩
      rintro _ M5 ⟨k, hk, rfl, f5, r5⟩
      exact ⟨⟨k, hk, rfl⟩, f5, r5⟩
    · obtain ⟨ks, rfl, hks⟩ := all_of (f := nI) ys hP
      rw [List.length_map, List.length_map] at hlen
      repeat walk_at "wt"
      refine w_toE (tuple_lst (listAt_of hM2)) ?_
      repeat walk_at "wt"
      have hS2 := f.at hS (by simp; omega)
      refine w_toE (append_ok hS2 (by rw [List.length_map]; omega)) ?_
      repeat walk_at "wt"
      refine ⟨_, S ++ [ks], rfl, ?_, by simp [hSl], ?_, ?_, r.set (by omega)⟩
      · rw [at_set hS2, List.map_append]; rfl
      · intro r hr
        rcases List.mem_append.mp hr with h | h
        · exact hSr r h
        · rw [List.mem_singleton.mp h]
          exact ⟨hlen, hks⟩
      · exact at_ne (fun z => hne z.symm) (f.at hE (by simp; omega))
  rintro τ M5 ⟨y2, S, rfl, hS, hSl, hSr, hE, r5⟩
  rw [rng_len] at hSl
  repeat walk_at "wt"
  refine w_toE (tuple_lst (listAt_of hS)) ?_
  repeat walk_at "wt"
  refine lc_draw (fun y => ∃ k : Nat, k < 3 ∧ y = nI k) (w_iSeqL ?_)
  repeat walk_at "wt"
  refine ⟨ls, _, rfl, listAt_of hS, S.map tI, ?_, by rw [List.length_map, sizeLine_eq]; omega, fun M2 f i => ?_, r5, fun x M2 _ f r => ⟨_, rfl, ?_⟩, fun l M6 ys hl f6 r6 hM6 hlen hP => ?_⟩
  · show lenAt _ _ = _
    unfold lenAt
    rw [listAt_of hS]
  · show (listAt M2 ls).map (·[i]?) = _
    rw [listAt_of (f.at hS (by simp; omega))]
    rfl
  · repeat walk_at "wt"
    refine ⟨rfl, (taken_ok (n := 3) r (by omega) (by omega)).imp ?_⟩
    rintro _ M7 ⟨k, hk, rfl, f7, r7⟩
    exact ⟨⟨k, hk, rfl⟩, f7, r7⟩
  obtain ⟨an, rfl, han⟩ := all_of (f := nI) ys hP
  rw [List.length_map, List.length_map] at hlen
  repeat walk_at "wt"
  refine w_toE (tuple_lst (listAt_of hM6)) ?_
  repeat walk_at "wt"
  refine ⟨by simp [sizeLine_eq], ?_⟩
  have k : Kp w n S an := ⟨by omega, by omega, hlen, fun r hr => ⟨(hSr r hr).1, fun x hx => by have := (hSr r hr).2 x hx; omega⟩, fun x hx => by have := han x hx; omega⟩
  have hE6 := f6.at hE (by simp; omega)
  repeat walk_at "wt"
  refine lc_draw (fun y => ∃ m : Msg, m ∈ msgs w n ∧ y = msgA m) (w_rng1 ?_)
  repeat walk_at "wt"
  refine ⟨rfl, (taken_ok (n := 9) r6 (by omega) (by omega)).imp ?_⟩
  rintro _ M7 ⟨k7, hk7, rfl, f7, r7⟩
  refine w_toE (add_nat (a := 1)) ?_
  have hE7 := f7.at hE6 (by simp; omega)
  repeat walk_at "wt"
  refine ⟨1 + k7, rfl, by omega, (List.range (1 + k7)).map nI, by simp [Src.size], by rw [rng_len, sizeLine_eq]; omega, fun _ _ _ => rng_at, r7, ?_, ?_⟩
  · intro x M8 _ f8 r8
    refine ⟨_, rfl, ?_⟩
    repeat walk_at "wt"
    refine ⟨rfl, (pick_ok r8 (f8.at hE7 (by simp; omega)) hle1 (by rw [List.length_map]; omega) (by rw [List.length_map]; omega)).imp ?_⟩
    rintro a M9 ⟨ha, f9, r9⟩
    obtain ⟨m, hm, rfl⟩ := List.mem_map.mp ha
    exact ⟨⟨m, hm, rfl⟩, f9, r9⟩
  intro lq M8 ys hlq f8 r8 hM8 hlen8 hP8
  obtain ⟨q, rfl, hq⟩ := all_of (f := msgA) ys hP8
  rw [List.length_map, rng_len] at hlen8
  have hE8 := f8.at hE7 (by simp; omega)
  have hq1 : 1 ≤ q.length := by omega
  have hq99 : q.length ≤ 99 := by omega
  repeat walk_at "wt"
  refine w_toE (tuple_lst (listAt_of hM8)) ?_
  repeat walk_at "wt"
  refine ⟨by simp [sizeLine_eq], ?_⟩
  have l1 := k.l1
  have l3 := k.l3
  have hf : ∀ i, fin (msgs w n) S 0 (q.take i) < S.length := fun i => fin_lt k (by omega) fun m hm => hq m (List.mem_of_mem_take hm)
  have hls8 : le < M8.length := at_lt hE8
  have hE9 : (M8 ++ [Cell.lst [A.int 0]])[le]? = some (.lst ((msgs w n).map msgA)) := at_app hE8
  have hR9 : (M8 ++ [Cell.lst [A.int 0]])[M8.length]? = some (.lst ((run (msgs w n) S 0 (q.take 0)).map nI)) := by rw [at_new]; rfl
  revert hE9 hR9
  generalize (M8 ++ [Cell.lst [A.int 0]]) = M9
  intro hE9 hR9
  have hne8 : M8.length ≠ le := by omega
  revert hR9 hne8
  generalize M8.length = lr
  intro hR9 hne8
  refine w_seq (w_for (w_iSeqT ?_))
  repeat walk_at "wt"
  refine ⟨_, rfl, q.map msgA, fun i τ M' => ∃ y6 : Option A, τ = [some (.lst 0), some (.lst 1), y2, some (kpA S an), some (.tup (q.map msgA)), some (.lst lr), y6, none, some (.str w), some (nI n), some (nI mn), some (.lst ls), some (.lst le), none, none, none, none, none] ∧
    M'[lr]? = some (.lst ((run (msgs w n) S 0 (q.take i)).map nI)) ∧ M'[le]? = some (.lst ((msgs w n).map msgA)), rfl, ⟨_, rfl, hR9, hE9⟩, fun _ _ _ _ => rfl, ?_, ?_⟩
  · rintro i x τ M' hx ⟨y6, rfl, hR, hE⟩
    rw [List.getElem?_map] at hx
    obtain ⟨m, hm, rfl⟩ := Option.map_eq_some_iff.mp hx
    have hmm := hq m (List.mem_of_getElem? hm)
    refine ⟨_, rfl, ?_⟩
    repeat walk_at "wt"
    refine ⟨isL_of hR, ?_⟩
    repeat walk_at "wt"
    refine w_toE kp_0 ?_
    repeat walk_at "wt"
    refine w_toE (a := .int (-1)) (M' := M') (by rfl) ?_
    refine w_toE (ix_last hR) ?_
    refine w_toE (ixRow k (hf i)) ?_
    repeat walk_at "wt"
    refine ⟨isL_of hE, ?_⟩
    repeat walk_at "wt"
    refine w_toE (index_ok hw hn1 hn3 hE hmm) ?_
    refine w_toE (ixNat (by rw [(k.r _ (gr_at k (hf i)).2).1]; exact pl_lt hmm)) ?_
    repeat walk_at "wt"
    refine w_toE (append_ok hR (by rw [List.length_map, run_len, List.length_take]; omega)) ?_
    repeat walk_at "wt"
    refine ⟨_, rfl, ?_, at_ne (fun z => hne8 z.symm) hE⟩
    rw [at_set hR, List.take_add_one, hm]
    show _ = some (Cell.lst ((run (msgs w n) S 0 (q.take i ++ [m])).map nI))
    rw [run_snoc, List.map_append]
    rfl
  rintro τ M10 ⟨y6, rfl, hR, hE⟩
  rw [List.length_map, List.take_length] at hR
  refine w_seq (w_if (w_not (w_T ?_)))
  repeat walk_at "wt"
  refine ⟨rfl, (keep_ok hw hn1 hn3 k hq (by omega)).imp ?_⟩
  rintro _ M11 ⟨rfl, p11⟩
  have hR11 := p11.at hR
  have hE11 := p11.at hE
  repeat walk_at "wt"
  refine w_lc_map (fun a => match a with
    | .int i => nI (gn an i.toNat)
    | a => a) (w_iSeqL ?_)
  repeat walk_at "wt"
  refine ⟨lr, _, rfl, listAt_of hR11, (run (msgs w n) S 0 q).map nI, ?_, by rw [List.length_map, run_len, sizeLine_eq]; omega, fun M2 p i => ?_, fun x M2 hx p => ⟨_, rfl, ?_⟩, fun l M12 hl p12 hM12 => ?_⟩
  · show lenAt _ _ = _
    unfold lenAt
    rw [listAt_of hR11]
  · show (listAt M2 lr).map (·[i]?) = _
    rw [listAt_of (p.at hR11)]
    rfl
  · obtain ⟨s, hs, rfl⟩ := List.mem_map.mp hx
    obtain ⟨i, hi⟩ := List.mem_iff_getElem?.mp hs
    have hil : i < (run (msgs w n) S 0 q).length := (List.getElem?_eq_some_iff.mp hi).1
    rw [run_len] at hil
    rw [run_at q 0 i (by omega)] at hi
    have hi := Option.some.inj hi
    subst hi
    repeat walk_at "wt"
    refine w_toE kp_1 ?_
    repeat walk_at "wt"
    exact w_toE (ixNat (by rw [l3]; exact hf i)) ⟨rfl, Fr.refl⟩
  repeat walk_at "wt"
  have eA : ((run (msgs w n) S 0 q).map nI).map (fun a => match a with
    | .int i => nI (gn an i.toNat)
    | a => a) = (ans w n S an 0 q).map nI := by
    unfold ans
    rw [List.map_map, List.map_map]
    rfl
  rw [eA] at hM12
  refine w_toE (tuple_lst (listAt_of hM12)) ?_
  repeat walk_at "wt"
  refine ⟨rfl, (alike_ints (n := 2) (xs := ans w n S an 0 q) (by rw [ans_len, zmax_eq]; omega)).imp ?_⟩
  rintro _ M13 ⟨rfl, p13⟩
  refine ⟨true, rfl, ?_⟩
  rw [if_neg (by decide)]
  have pR := p12.trans p13
  have hR13 := Pre.at pR hR11
  have hE13 := Pre.at pR hE11
  repeat walk_at "wt"
  refine w_for (w_rng1 ?_)
  repeat walk_at "wt"
  refine w_toE (len_tup (k := q.length) (by rw [List.length_map])) ?_
  repeat walk_at "wt"
  refine ⟨q.length, rfl, by omega, (List.range q.length).map nI, fun i τ M' => ∃ y6 y7 y13 y14 y15 y16 y17 : Option A, τ = [some (.lst 0), some (.lst 1), y2, some (kpA S an), some (.tup (q.map msgA)), some (.lst lr), y6, y7, some (.str w), some (nI n), some (nI mn), some (.lst ls), some (.lst le), y13, y14, y15, y16, y17] ∧
    M'[lr]? = some (.lst ((run (msgs w n) S 0 q).map nI)) ∧ M'[le]? = some (.lst ((msgs w n).map msgA)), by simp [Src.size], ⟨_, _, _, _, _, _, _, rfl, hR13, hE13⟩, fun _ _ _ _ => rng_at, ?_, ?_⟩
  · rintro i x τ M' hx ⟨y6, y7, y13, y14, y15, y16, y17, rfl, hR, hE⟩
    have hi : i < q.length := by
      have := (List.getElem?_eq_some_iff.mp hx).1
      simpa using this
    rw [List.getElem?_map, List.getElem?_range hi] at hx
    have hx := (Option.some.inj hx).symm
    subst hx
    refine ⟨_, rfl, ?_⟩
    refine w_seq (w_for (w_iSeqL ?_))
    repeat walk_at "wt"
    refine ⟨by simp [sizeLine_eq], ?_⟩
    have hbl := at_new (M := M') (c := Cell.lst [.bl false, .bl true])
    refine ⟨M'.length, _, rfl, listAt_of hbl, [.bl false, .bl true], fun j τ M2 => ∃ y13 y14 y15 y16 y17 : Option A, τ = [some (.lst 0), some (.lst 1), y2, some (kpA S an), some (.tup (q.map msgA)), some (.lst lr), y6, some (nI i), some (.str w), some (nI n), some (nI mn), some (.lst ls), some (.lst le), y13, y14, y15, y16, y17] ∧
      Pre (M' ++ [Cell.lst [.bl false, .bl true]]) M2, ?_, ⟨_, _, _, _, _, rfl, Fr.refl⟩, ?_, ?_, ?_⟩
    · show lenAt _ _ = _
      unfold lenAt
      rw [listAt_of hbl]
    · rintro j τ M2 ⟨_, _, _, _, _, _, p⟩
      show (listAt M2 M'.length).map (·[j]?) = _
      rw [listAt_of (p.at hbl)]
      rfl
    · rintro j x τ M2 hx ⟨y13, y14, y15, y16, y17, rfl, p⟩
      obtain ⟨tw, rfl⟩ : ∃ tw, x = .bl tw := by
        have := List.mem_of_getElem? hx
        simp only [List.mem_cons, List.not_mem_nil, or_false] at this
        rcases this with rfl | rfl <;> exact ⟨_, rfl⟩
      refine ⟨_, rfl, ?_⟩
      refine (spot_ok (tw := tw) hw hn1 hn3 k hq hq99 hi (p.at (at_app hR)) (p.at (at_app hE))).imp ?_ (fun _ _ h => h)
      rintro τ3 M3' ⟨p3, y13, y14, y15, y16, y17, rfl⟩
      exact ⟨_, _, _, _, _, rfl, p.trans p3⟩
    · rintro τ M2 ⟨y13, y14, y15, y16, y17, rfl, p⟩
      repeat walk_at "wt"
      exact ⟨_, _, _, _, _, _, _, rfl, p.at (at_app hR), p.at (at_app hE)⟩
  · rintro τ M' ⟨y6, y7, y13, y14, y15, y16, y17, rfl, hR, hE⟩
    repeat walk_at "wt"
    rfl
end P09
namespace P09
open PySem PySem.Spec PyProof.Rows L2 AB
theorem maths : ∀ ns : List Int, ns.length ≤ 63 → ∃ M, F_law [.lst 0] (scr ns) = .ok (.bl true) M := fun ns _ => by
  obtain ⟨a, M, e, h⟩ := EO.W.out (law_ok ns)
  exact ⟨M, by rw [e, h]⟩
end P09
namespace P09
open PySem PySem.Spec PyProof.Rows L2 AB
theorem ktab_of {K : PySem.W.Frag} {d : Addr} : ∀ {tbl : List (Str × List Str)}, (∀ p ∈ tbl, ∃ a, PySem.W.nsIn K d p.1 = some (some (.ref a)) ∧ KTup K a p.2) → ∀ z ts, tbl.lookup z = some ts → ∃ p, PySem.W.nsIn K d z = some (some (.ref p)) ∧ KTup K p ts
  | [], _, z, ts, e => by cases e
  | (k, v) :: tbl, h, z, ts, e => by
    rw [List.lookup_cons] at e
    cases hz : z == k with
    | true =>
      rw [hz] at e
      cases e
      rw [eq_of_beq hz]
      exact h (k, v) (by simp)
    | false =>
      rw [hz] at e
      exact ktab_of (fun p hp => h p (by simp [hp])) z ts e
theorem all_mk {l : PySem.W.OpenLaw} {w : World} {K : PySem.W.Frag} {h : Heap} {mg : Str → Option Value} {fa : Addr} (X : K.In h) (G : h.Ns mainGlobals mg) (hfa : mg "law" = some (.ref fa))
    (hX : ∀ y ∈ (["check_row"] : List Str), ∃ f c P, TabX mg h y f c P)
    (hF : ∀ ns : List Int, ns.length ≤ 63 → ∃ M, F_law [.lst 0] (scr ns) = .ok (.bl true) M)
    {f_law_taken : Addr} {od_law_taken an_law_taken : Option Addr} {sl_law_taken : Array (Option Value)} {oc_law_taken kV_law_taken dc_law_taken pm_law_taken cd_law_taken ct_law_taken : Value}
    (a_law_taken : PySem.W.nsIn K mainGlobals "_law_taken" = some (some (.ref f_law_taken))) (l_law_taken : K.lookup f_law_taken = some ⟨oc_law_taken, od_law_taken, .func (PySem.W.fnOf "_law_taken" "_law_taken" (defArgs s_law_taken) (defBody s_law_taken) (defScope s_law_taken) .none kV_law_taken dc_law_taken pm_law_taken an_law_taken cd_law_taken ct_law_taken), sl_law_taken⟩) (c_law_taken : PySem.W.codeIn K cd_law_taken "_law_taken" = true) (k_law_taken : PySem.W.keepIn K (.ref f_law_taken) = true)
    {f_law_pick : Addr} {od_law_pick an_law_pick : Option Addr} {sl_law_pick : Array (Option Value)} {oc_law_pick kV_law_pick dc_law_pick pm_law_pick cd_law_pick ct_law_pick : Value}
    (a_law_pick : PySem.W.nsIn K mainGlobals "_law_pick" = some (some (.ref f_law_pick))) (l_law_pick : K.lookup f_law_pick = some ⟨oc_law_pick, od_law_pick, .func (PySem.W.fnOf "_law_pick" "_law_pick" (defArgs s_law_pick) (defBody s_law_pick) (defScope s_law_pick) .none kV_law_pick dc_law_pick pm_law_pick an_law_pick cd_law_pick ct_law_pick), sl_law_pick⟩) (c_law_pick : PySem.W.codeIn K cd_law_pick "_law_pick" = true) (k_law_pick : PySem.W.keepIn K (.ref f_law_pick) = true)
    {f_law_world : Addr} {od_law_world an_law_world : Option Addr} {sl_law_world : Array (Option Value)} {oc_law_world kV_law_world dc_law_world pm_law_world cd_law_world ct_law_world : Value}
    (a_law_world : PySem.W.nsIn K mainGlobals "_law_world" = some (some (.ref f_law_world))) (l_law_world : K.lookup f_law_world = some ⟨oc_law_world, od_law_world, .func (PySem.W.fnOf "_law_world" "_law_world" (defArgs s_law_world) (defBody s_law_world) (defScope s_law_world) .none kV_law_world dc_law_world pm_law_world an_law_world cd_law_world ct_law_world), sl_law_world⟩) (c_law_world : PySem.W.codeIn K cd_law_world "_law_world" = true) (k_law_world : PySem.W.keepIn K (.ref f_law_world) = true)
    {f_law_orders : Addr} {od_law_orders an_law_orders : Option Addr} {sl_law_orders : Array (Option Value)} {oc_law_orders kV_law_orders dc_law_orders pm_law_orders cd_law_orders ct_law_orders : Value}
    (a_law_orders : PySem.W.nsIn K mainGlobals "_law_orders" = some (some (.ref f_law_orders))) (l_law_orders : K.lookup f_law_orders = some ⟨oc_law_orders, od_law_orders, .func (PySem.W.fnOf "_law_orders" "_law_orders" (defArgs s_law_orders) (defBody s_law_orders) (defScope s_law_orders) .none kV_law_orders dc_law_orders pm_law_orders an_law_orders cd_law_orders ct_law_orders), sl_law_orders⟩) (c_law_orders : PySem.W.codeIn K cd_law_orders "_law_orders" = true) (k_law_orders : PySem.W.keepIn K (.ref f_law_orders) = true)
    {f_law_messages : Addr} {od_law_messages an_law_messages : Option Addr} {sl_law_messages : Array (Option Value)} {oc_law_messages kV_law_messages dc_law_messages pm_law_messages cd_law_messages ct_law_messages : Value}
    (a_law_messages : PySem.W.nsIn K mainGlobals "_law_messages" = some (some (.ref f_law_messages))) (l_law_messages : K.lookup f_law_messages = some ⟨oc_law_messages, od_law_messages, .func (PySem.W.fnOf "_law_messages" "_law_messages" (defArgs s_law_messages) (defBody s_law_messages) (defScope s_law_messages) .none kV_law_messages dc_law_messages pm_law_messages an_law_messages cd_law_messages ct_law_messages), sl_law_messages⟩) (c_law_messages : PySem.W.codeIn K cd_law_messages "_law_messages" = true) (k_law_messages : PySem.W.keepIn K (.ref f_law_messages) = true)
    {f_law_alike : Addr} {od_law_alike an_law_alike : Option Addr} {sl_law_alike : Array (Option Value)} {oc_law_alike kV_law_alike dc_law_alike pm_law_alike cd_law_alike ct_law_alike : Value}
    (a_law_alike : PySem.W.nsIn K mainGlobals "_law_alike" = some (some (.ref f_law_alike))) (l_law_alike : K.lookup f_law_alike = some ⟨oc_law_alike, od_law_alike, .func (PySem.W.fnOf "_law_alike" "_law_alike" (defArgs s_law_alike) (defBody s_law_alike) (defScope s_law_alike) .none kV_law_alike dc_law_alike pm_law_alike an_law_alike cd_law_alike ct_law_alike), sl_law_alike⟩) (c_law_alike : PySem.W.codeIn K cd_law_alike "_law_alike" = true) (k_law_alike : PySem.W.keepIn K (.ref f_law_alike) = true)
    {f_check_world : Addr} {od_check_world an_check_world : Option Addr} {sl_check_world : Array (Option Value)} {oc_check_world kV_check_world dc_check_world pm_check_world cd_check_world ct_check_world : Value}
    (a_check_world : PySem.W.nsIn K mainGlobals "check_world" = some (some (.ref f_check_world))) (l_check_world : K.lookup f_check_world = some ⟨oc_check_world, od_check_world, .func (PySem.W.fnOf "check_world" "check_world" (defArgs s_check_world) (defBody s_check_world) (defScope s_check_world) .none kV_check_world dc_check_world pm_check_world an_check_world cd_check_world ct_check_world), sl_check_world⟩) (c_check_world : PySem.W.codeIn K cd_check_world "check_world" = true) (k_check_world : PySem.W.keepIn K (.ref f_check_world) = true)
    {f_is_number : Addr} {od_is_number an_is_number : Option Addr} {sl_is_number : Array (Option Value)} {oc_is_number kV_is_number dc_is_number pm_is_number cd_is_number ct_is_number : Value}
    (a_is_number : PySem.W.nsIn K mainGlobals "is_number" = some (some (.ref f_is_number))) (l_is_number : K.lookup f_is_number = some ⟨oc_is_number, od_is_number, .func (PySem.W.fnOf "is_number" "is_number" (defArgs s_is_number) (defBody s_is_number) (defScope s_is_number) .none kV_is_number dc_is_number pm_is_number an_is_number cd_is_number ct_is_number), sl_is_number⟩) (c_is_number : PySem.W.codeIn K cd_is_number "is_number" = true) (k_is_number : PySem.W.keepIn K (.ref f_is_number) = true)
    {f_check_letters : Addr} {od_check_letters an_check_letters : Option Addr} {sl_check_letters : Array (Option Value)} {oc_check_letters kV_check_letters dc_check_letters pm_check_letters cd_check_letters ct_check_letters : Value}
    (a_check_letters : PySem.W.nsIn K mainGlobals "check_letters" = some (some (.ref f_check_letters))) (l_check_letters : K.lookup f_check_letters = some ⟨oc_check_letters, od_check_letters, .func (PySem.W.fnOf "check_letters" "check_letters" (defArgs s_check_letters) (defBody s_check_letters) (defScope s_check_letters) .none kV_check_letters dc_check_letters pm_check_letters an_check_letters cd_check_letters ct_check_letters), sl_check_letters⟩) (c_check_letters : PySem.W.codeIn K cd_check_letters "check_letters" = true) (k_check_letters : PySem.W.keepIn K (.ref f_check_letters) = true)
    {f_are_numbers : Addr} {od_are_numbers an_are_numbers : Option Addr} {sl_are_numbers : Array (Option Value)} {oc_are_numbers kV_are_numbers dc_are_numbers pm_are_numbers cd_are_numbers ct_are_numbers : Value}
    (a_are_numbers : PySem.W.nsIn K mainGlobals "are_numbers" = some (some (.ref f_are_numbers))) (l_are_numbers : K.lookup f_are_numbers = some ⟨oc_are_numbers, od_are_numbers, .func (PySem.W.fnOf "are_numbers" "are_numbers" (defArgs s_are_numbers) (defBody s_are_numbers) (defScope s_are_numbers) .none kV_are_numbers dc_are_numbers pm_are_numbers an_are_numbers cd_are_numbers ct_are_numbers), sl_are_numbers⟩) (c_are_numbers : PySem.W.codeIn K cd_are_numbers "are_numbers" = true) (k_are_numbers : PySem.W.keepIn K (.ref f_are_numbers) = true)
    {f_check_states : Addr} {od_check_states an_check_states : Option Addr} {sl_check_states : Array (Option Value)} {oc_check_states kV_check_states dc_check_states pm_check_states cd_check_states ct_check_states : Value}
    (a_check_states : PySem.W.nsIn K mainGlobals "check_states" = some (some (.ref f_check_states))) (l_check_states : K.lookup f_check_states = some ⟨oc_check_states, od_check_states, .func (PySem.W.fnOf "check_states" "check_states" (defArgs s_check_states) (defBody s_check_states) (defScope s_check_states) .none kV_check_states dc_check_states pm_check_states an_check_states cd_check_states ct_check_states), sl_check_states⟩) (c_check_states : PySem.W.codeIn K cd_check_states "check_states" = true) (k_check_states : PySem.W.keepIn K (.ref f_check_states) = true)
    {f_messages_with : Addr} {od_messages_with an_messages_with : Option Addr} {sl_messages_with : Array (Option Value)} {oc_messages_with kV_messages_with dc_messages_with pm_messages_with cd_messages_with ct_messages_with : Value}
    (a_messages_with : PySem.W.nsIn K mainGlobals "messages_with" = some (some (.ref f_messages_with))) (l_messages_with : K.lookup f_messages_with = some ⟨oc_messages_with, od_messages_with, .func (PySem.W.fnOf "messages_with" "messages_with" (defArgs s_messages_with) (defBody s_messages_with) (defScope s_messages_with) .none kV_messages_with dc_messages_with pm_messages_with an_messages_with cd_messages_with ct_messages_with), sl_messages_with⟩) (c_messages_with : PySem.W.codeIn K cd_messages_with "messages_with" = true) (k_messages_with : PySem.W.keepIn K (.ref f_messages_with) = true)
    {f_messages : Addr} {od_messages an_messages : Option Addr} {sl_messages : Array (Option Value)} {oc_messages kV_messages dc_messages pm_messages cd_messages ct_messages : Value}
    (a_messages : PySem.W.nsIn K mainGlobals "messages" = some (some (.ref f_messages))) (l_messages : K.lookup f_messages = some ⟨oc_messages, od_messages, .func (PySem.W.fnOf "messages" "messages" (defArgs s_messages) (defBody s_messages) (defScope s_messages) .none kV_messages dc_messages pm_messages an_messages cd_messages ct_messages), sl_messages⟩) (c_messages : PySem.W.codeIn K cd_messages "messages" = true) (k_messages : PySem.W.keepIn K (.ref f_messages) = true)
    {f_check_keeper : Addr} {od_check_keeper an_check_keeper : Option Addr} {sl_check_keeper : Array (Option Value)} {oc_check_keeper kV_check_keeper dc_check_keeper pm_check_keeper cd_check_keeper ct_check_keeper : Value}
    (a_check_keeper : PySem.W.nsIn K mainGlobals "check_keeper" = some (some (.ref f_check_keeper))) (l_check_keeper : K.lookup f_check_keeper = some ⟨oc_check_keeper, od_check_keeper, .func (PySem.W.fnOf "check_keeper" "check_keeper" (defArgs s_check_keeper) (defBody s_check_keeper) (defScope s_check_keeper) .none kV_check_keeper dc_check_keeper pm_check_keeper an_check_keeper cd_check_keeper ct_check_keeper), sl_check_keeper⟩) (c_check_keeper : PySem.W.codeIn K cd_check_keeper "check_keeper" = true) (k_check_keeper : PySem.W.keepIn K (.ref f_check_keeper) = true)
    {f_check_messages : Addr} {od_check_messages an_check_messages : Option Addr} {sl_check_messages : Array (Option Value)} {oc_check_messages kV_check_messages dc_check_messages pm_check_messages cd_check_messages ct_check_messages : Value}
    (a_check_messages : PySem.W.nsIn K mainGlobals "check_messages" = some (some (.ref f_check_messages))) (l_check_messages : K.lookup f_check_messages = some ⟨oc_check_messages, od_check_messages, .func (PySem.W.fnOf "check_messages" "check_messages" (defArgs s_check_messages) (defBody s_check_messages) (defScope s_check_messages) .none kV_check_messages dc_check_messages pm_check_messages an_check_messages cd_check_messages ct_check_messages), sl_check_messages⟩) (c_check_messages : PySem.W.codeIn K cd_check_messages "check_messages" = true) (k_check_messages : PySem.W.keepIn K (.ref f_check_messages) = true)
    {f_is_permutation : Addr} {od_is_permutation an_is_permutation : Option Addr} {sl_is_permutation : Array (Option Value)} {oc_is_permutation kV_is_permutation dc_is_permutation pm_is_permutation cd_is_permutation ct_is_permutation : Value}
    (a_is_permutation : PySem.W.nsIn K mainGlobals "is_permutation" = some (some (.ref f_is_permutation))) (l_is_permutation : K.lookup f_is_permutation = some ⟨oc_is_permutation, od_is_permutation, .func (PySem.W.fnOf "is_permutation" "is_permutation" (defArgs s_is_permutation) (defBody s_is_permutation) (defScope s_is_permutation) .none kV_is_permutation dc_is_permutation pm_is_permutation an_is_permutation cd_is_permutation ct_is_permutation), sl_is_permutation⟩) (c_is_permutation : PySem.W.codeIn K cd_is_permutation "is_permutation" = true) (k_is_permutation : PySem.W.keepIn K (.ref f_is_permutation) = true)
    {f_is_message : Addr} {od_is_message an_is_message : Option Addr} {sl_is_message : Array (Option Value)} {oc_is_message kV_is_message dc_is_message pm_is_message cd_is_message ct_is_message : Value}
    (a_is_message : PySem.W.nsIn K mainGlobals "is_message" = some (some (.ref f_is_message))) (l_is_message : K.lookup f_is_message = some ⟨oc_is_message, od_is_message, .func (PySem.W.fnOf "is_message" "is_message" (defArgs s_is_message) (defBody s_is_message) (defScope s_is_message) .none kV_is_message dc_is_message pm_is_message an_is_message cd_is_message ct_is_message), sl_is_message⟩) (c_is_message : PySem.W.codeIn K cd_is_message "is_message" = true) (k_is_message : PySem.W.keepIn K (.ref f_is_message) = true)
    {f_check_row : Addr} {od_check_row an_check_row : Option Addr} {sl_check_row : Array (Option Value)} {oc_check_row kV_check_row dc_check_row pm_check_row ct_check_row : Value}
    {cc_check_row : Addr}
    (a_check_row : PySem.W.nsIn K mainGlobals "check_row" = some (some (.ref f_check_row))) (l_check_row : K.lookup f_check_row = some ⟨oc_check_row, od_check_row, .func (PySem.W.fnOf "check_row" "check_row" (defArgs s_check_row) (defBody s_check_row) (defScope s_check_row) .none kV_check_row dc_check_row pm_check_row an_check_row (.ref cc_check_row) ct_check_row), sl_check_row⟩) (c_check_row : PySem.W.codeIn K (.ref cc_check_row) "check_row" = true) (k_check_row : PySem.W.keepIn K (.ref f_check_row) = true)
    {P_check_row : Addr} {eM_check_row : Value} {dM_check_row : Option Addr} {vM_check_row : Array Value} {sM_check_row : Array (Option Value)} (m_check_row : K.lookup cc_check_row = some ⟨eM_check_row, dM_check_row, .fields vM_check_row, sM_check_row⟩) (p_check_row : vM_check_row[11]? = some (.ref P_check_row)) (n_check_row : K.lookup P_check_row = none)
    {f_kept_answers : Addr} {od_kept_answers an_kept_answers : Option Addr} {sl_kept_answers : Array (Option Value)} {oc_kept_answers kV_kept_answers dc_kept_answers pm_kept_answers cd_kept_answers ct_kept_answers : Value}
    (a_kept_answers : PySem.W.nsIn K mainGlobals "kept_answers" = some (some (.ref f_kept_answers))) (l_kept_answers : K.lookup f_kept_answers = some ⟨oc_kept_answers, od_kept_answers, .func (PySem.W.fnOf "kept_answers" "kept_answers" (defArgs s_kept_answers) (defBody s_kept_answers) (defScope s_kept_answers) .none kV_kept_answers dc_kept_answers pm_kept_answers an_kept_answers cd_kept_answers ct_kept_answers), sl_kept_answers⟩) (c_kept_answers : PySem.W.codeIn K cd_kept_answers "kept_answers" = true) (k_kept_answers : PySem.W.keepIn K (.ref f_kept_answers) = true)
    {f_keep : Addr} {od_keep an_keep : Option Addr} {sl_keep : Array (Option Value)} {oc_keep kV_keep dc_keep pm_keep cd_keep ct_keep : Value}
    (a_keep : PySem.W.nsIn K mainGlobals "keep" = some (some (.ref f_keep))) (l_keep : K.lookup f_keep = some ⟨oc_keep, od_keep, .func (PySem.W.fnOf "keep" "keep" (defArgs s_keep) (defBody s_keep) (defScope s_keep) .none kV_keep dc_keep pm_keep an_keep cd_keep ct_keep), sl_keep⟩) (c_keep : PySem.W.codeIn K cd_keep "keep" = true) (k_keep : PySem.W.keepIn K (.ref f_keep) = true)
    {f_check_slip : Addr} {od_check_slip an_check_slip : Option Addr} {sl_check_slip : Array (Option Value)} {oc_check_slip kV_check_slip dc_check_slip pm_check_slip cd_check_slip ct_check_slip : Value}
    (a_check_slip : PySem.W.nsIn K mainGlobals "check_slip" = some (some (.ref f_check_slip))) (l_check_slip : K.lookup f_check_slip = some ⟨oc_check_slip, od_check_slip, .func (PySem.W.fnOf "check_slip" "check_slip" (defArgs s_check_slip) (defBody s_check_slip) (defScope s_check_slip) .none kV_check_slip dc_check_slip pm_check_slip an_check_slip cd_check_slip ct_check_slip), sl_check_slip⟩) (c_check_slip : PySem.W.codeIn K cd_check_slip "check_slip" = true) (k_check_slip : PySem.W.keepIn K (.ref f_check_slip) = true)
    {f_first_unlike : Addr} {od_first_unlike an_first_unlike : Option Addr} {sl_first_unlike : Array (Option Value)} {oc_first_unlike kV_first_unlike dc_first_unlike pm_first_unlike cd_first_unlike ct_first_unlike : Value}
    (a_first_unlike : PySem.W.nsIn K mainGlobals "first_unlike" = some (some (.ref f_first_unlike))) (l_first_unlike : K.lookup f_first_unlike = some ⟨oc_first_unlike, od_first_unlike, .func (PySem.W.fnOf "first_unlike" "first_unlike" (defArgs s_first_unlike) (defBody s_first_unlike) (defScope s_first_unlike) .none kV_first_unlike dc_first_unlike pm_first_unlike an_first_unlike cd_first_unlike ct_first_unlike), sl_first_unlike⟩) (c_first_unlike : PySem.W.codeIn K cd_first_unlike "first_unlike" = true) (k_first_unlike : PySem.W.keepIn K (.ref f_first_unlike) = true)
    {f_doubled : Addr} {od_doubled an_doubled : Option Addr} {sl_doubled : Array (Option Value)} {oc_doubled kV_doubled dc_doubled pm_doubled cd_doubled ct_doubled : Value}
    (a_doubled : PySem.W.nsIn K mainGlobals "doubled" = some (some (.ref f_doubled))) (l_doubled : K.lookup f_doubled = some ⟨oc_doubled, od_doubled, .func (PySem.W.fnOf "doubled" "doubled" (defArgs s_doubled) (defBody s_doubled) (defScope s_doubled) .none kV_doubled dc_doubled pm_doubled an_doubled cd_doubled ct_doubled), sl_doubled⟩) (c_doubled : PySem.W.codeIn K cd_doubled "doubled" = true) (k_doubled : PySem.W.keepIn K (.ref f_doubled) = true)
    {f_lost : Addr} {od_lost an_lost : Option Addr} {sl_lost : Array (Option Value)} {oc_lost kV_lost dc_lost pm_lost cd_lost ct_lost : Value}
    (a_lost : PySem.W.nsIn K mainGlobals "lost" = some (some (.ref f_lost))) (l_lost : K.lookup f_lost = some ⟨oc_lost, od_lost, .func (PySem.W.fnOf "lost" "lost" (defArgs s_lost) (defBody s_lost) (defScope s_lost) .none kV_lost dc_lost pm_lost an_lost cd_lost ct_lost), sl_lost⟩) (c_lost : PySem.W.codeIn K cd_lost "lost" = true) (k_lost : PySem.W.keepIn K (.ref f_lost) = true)
    {f_law : Addr} {od_law an_law : Option Addr} {sl_law : Array (Option Value)} {oc_law kV_law dc_law pm_law cd_law ct_law : Value}
    (a_law : PySem.W.nsIn K mainGlobals "law" = some (some (.ref f_law))) (l_law : K.lookup f_law = some ⟨oc_law, od_law, .func (PySem.W.fnOf "law" "law" (defArgs s_law) (defBody s_law) (defScope s_law) .none kV_law dc_law pm_law an_law cd_law ct_law), sl_law⟩) (c_law : PySem.W.codeIn K cd_law "law" = true) (k_law : PySem.W.keepIn K (.ref f_law) = true)
    {t_MOST_ANSWER : Tok} (v_MOST_ANSWER : PySem.W.nsIn K mainGlobals "MOST_ANSWER" = some (some (.int 3 t_MOST_ANSWER)))
    {t_MOST_LETTERS : Tok} (v_MOST_LETTERS : PySem.W.nsIn K mainGlobals "MOST_LETTERS" = some (some (.int 3 t_MOST_LETTERS)))
    {t_MOST_MEMORIES : Tok} (v_MOST_MEMORIES : PySem.W.nsIn K mainGlobals "MOST_MEMORIES" = some (some (.int 3000 t_MOST_MEMORIES)))
    {t_MOST_MESSAGES : Tok} (v_MOST_MESSAGES : PySem.W.nsIn K mainGlobals "MOST_MESSAGES" = some (some (.int 100 t_MOST_MESSAGES)))
    (z_all : PySem.W.nsIn K mainGlobals "all" = some none)
    (z_bool : PySem.W.nsIn K mainGlobals "bool" = some none)
    (z_enumerate : PySem.W.nsIn K mainGlobals "enumerate" = some none)
    (z_int : PySem.W.nsIn K mainGlobals "int" = some none)
    (z_isinstance : PySem.W.nsIn K mainGlobals "isinstance" = some none)
    (z_len : PySem.W.nsIn K mainGlobals "len" = some none)
    (z_list : PySem.W.nsIn K mainGlobals "list" = some none)
    (z_range : PySem.W.nsIn K mainGlobals "range" = some none)
    (z_set : PySem.W.nsIn K mainGlobals "set" = some none)
    (z_sorted : PySem.W.nsIn K mainGlobals "sorted" = some none)
    (z_str : PySem.W.nsIn K mainGlobals "str" = some none)
    (z_tuple : PySem.W.nsIn K mainGlobals "tuple" = some none)
    {d_WORDS : Addr} {es_WORDS : Array DictEntry} {n_WORDS : Nat} (g_WORDS : PySem.W.nsIn K mainGlobals "WORDS" = some (some (.ref d_WORDS))) (h_WORDS : K.lookup d_WORDS = some ⟨.type "dict", none, .dict es_WORDS n_WORDS, #[]⟩) (i_WORDS : PySem.W.KeysLit w.params es_WORDS.toList) (j_WORDS : (d_WORDS == sysModules) = false)
    {p_WORDS_0 : Addr} {o_WORDS_0 : Option Addr} {s_WORDS_0 : Array (Option Value)} {y_WORDS_0 : Array Value} {m_WORDS_0 : Nat} (x_WORDS_0 : PySem.W.nsIn K d_WORDS "end" = some (some (.ref p_WORDS_0))) (e_WORDS_0 : K.lookup p_WORDS_0 = some ⟨.type "tuple", o_WORDS_0, .seq y_WORDS_0 m_WORDS_0, s_WORDS_0⟩) (w_WORDS_0 : y_WORDS_0.size ≤ sizeLine) (q_WORDS_0 : Vals ((["put"] : List Str).map V.str) y_WORDS_0.toList)
    {p_WORDS_1 : Addr} {o_WORDS_1 : Option Addr} {s_WORDS_1 : Array (Option Value)} {y_WORDS_1 : Array Value} {m_WORDS_1 : Nat} (x_WORDS_1 : PySem.W.nsIn K d_WORDS "ends" = some (some (.ref p_WORDS_1))) (e_WORDS_1 : K.lookup p_WORDS_1 = some ⟨.type "tuple", o_WORDS_1, .seq y_WORDS_1 m_WORDS_1, s_WORDS_1⟩) (w_WORDS_1 : y_WORDS_1.size ≤ sizeLine) (q_WORDS_1 : Vals ((["front", "put"] : List Str).map V.str) y_WORDS_1.toList)
    {p_WORDS_2 : Addr} {o_WORDS_2 : Option Addr} {s_WORDS_2 : Array (Option Value)} {y_WORDS_2 : Array Value} {m_WORDS_2 : Nat} (x_WORDS_2 : PySem.W.nsIn K d_WORDS "stack" = some (some (.ref p_WORDS_2))) (e_WORDS_2 : K.lookup p_WORDS_2 = some ⟨.type "tuple", o_WORDS_2, .seq y_WORDS_2 m_WORDS_2, s_WORDS_2⟩) (w_WORDS_2 : y_WORDS_2.size ≤ sizeLine) (q_WORDS_2 : Vals ((["chop", "put"] : List Str).map V.str) y_WORDS_2.toList)
    {p_WORDS_3 : Addr} {o_WORDS_3 : Option Addr} {s_WORDS_3 : Array (Option Value)} {y_WORDS_3 : Array Value} {m_WORDS_3 : Nat} (x_WORDS_3 : PySem.W.nsIn K d_WORDS "deque" = some (some (.ref p_WORDS_3))) (e_WORDS_3 : K.lookup p_WORDS_3 = some ⟨.type "tuple", o_WORDS_3, .seq y_WORDS_3 m_WORDS_3, s_WORDS_3⟩) (w_WORDS_3 : y_WORDS_3.size ≤ sizeLine) (q_WORDS_3 : Vals ((["behead", "chop", "front", "put"] : List Str).map V.str) y_WORDS_3.toList)
    {p_WORDS_4 : Addr} {o_WORDS_4 : Option Addr} {s_WORDS_4 : Array (Option Value)} {y_WORDS_4 : Array Value} {m_WORDS_4 : Nat} (x_WORDS_4 : PySem.W.nsIn K d_WORDS "in" = some (some (.ref p_WORDS_4))) (e_WORDS_4 : K.lookup p_WORDS_4 = some ⟨.type "tuple", o_WORDS_4, .seq y_WORDS_4 m_WORDS_4, s_WORDS_4⟩) (w_WORDS_4 : y_WORDS_4.size ≤ sizeLine) (q_WORDS_4 : Vals ((["put"] : List Str).map V.str) y_WORDS_4.toList)
    {p_WORDS_5 : Addr} {o_WORDS_5 : Option Addr} {s_WORDS_5 : Array (Option Value)} {y_WORDS_5 : Array Value} {m_WORDS_5 : Nat} (x_WORDS_5 : PySem.W.nsIn K d_WORDS "inout" = some (some (.ref p_WORDS_5))) (e_WORDS_5 : K.lookup p_WORDS_5 = some ⟨.type "tuple", o_WORDS_5, .seq y_WORDS_5 m_WORDS_5, s_WORDS_5⟩) (w_WORDS_5 : y_WORDS_5.size ≤ sizeLine) (q_WORDS_5 : Vals ((["put", "take"] : List Str).map V.str) y_WORDS_5.toList)
    {p_WORDS_6 : Addr} {o_WORDS_6 : Option Addr} {s_WORDS_6 : Array (Option Value)} {y_WORDS_6 : Array Value} {m_WORDS_6 : Nat} (x_WORDS_6 : PySem.W.nsIn K d_WORDS "relabel" = some (some (.ref p_WORDS_6))) (e_WORDS_6 : K.lookup p_WORDS_6 = some ⟨.type "tuple", o_WORDS_6, .seq y_WORDS_6 m_WORDS_6, s_WORDS_6⟩) (w_WORDS_6 : y_WORDS_6.size ≤ sizeLine) (q_WORDS_6 : Vals ((["put", "turn"] : List Str).map V.str) y_WORDS_6.toList)
    {p_WORDS_7 : Addr} {o_WORDS_7 : Option Addr} {s_WORDS_7 : Array (Option Value)} {y_WORDS_7 : Array Value} {m_WORDS_7 : Nat} (x_WORDS_7 : PySem.W.nsIn K d_WORDS "reverse" = some (some (.ref p_WORDS_7))) (e_WORDS_7 : K.lookup p_WORDS_7 = some ⟨.type "tuple", o_WORDS_7, .seq y_WORDS_7 m_WORDS_7, s_WORDS_7⟩) (w_WORDS_7 : y_WORDS_7.size ≤ sizeLine) (q_WORDS_7 : Vals ((["put", "turn"] : List Str).map V.str) y_WORDS_7.toList)
    (p_permutations : PySem.W.nsIn K mainGlobals "permutations" = some (some (.type "itertools.permutations")))
    : LamX.LawAtS l w K (L2.CX l.prog w) 10 63 "script" mg fa h := by
  have e := hfa.symm.trans (PySem.W.mg_of X G a_law)
  cases e
  have kt_WORDS : KTab K w d_WORDS tb_WORDS := by
    refine ⟨⟨_, _, ⟨h_WORDS, i_WORDS, j_WORDS⟩⟩, ktab_of fun p hp => ?_⟩
    unfold tb_WORDS at hp
    simp only [List.mem_cons, List.not_mem_nil, or_false] at hp
    rcases hp with rfl | rfl | rfl | rfl | rfl | rfl | rfl | rfl
    · exact ⟨_, x_WORDS_0, _, _, _, e_WORDS_0, rfl, rfl, w_WORDS_0, q_WORDS_0⟩
    · exact ⟨_, x_WORDS_1, _, _, _, e_WORDS_1, rfl, rfl, w_WORDS_1, q_WORDS_1⟩
    · exact ⟨_, x_WORDS_2, _, _, _, e_WORDS_2, rfl, rfl, w_WORDS_2, q_WORDS_2⟩
    · exact ⟨_, x_WORDS_3, _, _, _, e_WORDS_3, rfl, rfl, w_WORDS_3, q_WORDS_3⟩
    · exact ⟨_, x_WORDS_4, _, _, _, e_WORDS_4, rfl, rfl, w_WORDS_4, q_WORDS_4⟩
    · exact ⟨_, x_WORDS_5, _, _, _, e_WORDS_5, rfl, rfl, w_WORDS_5, q_WORDS_5⟩
    · exact ⟨_, x_WORDS_6, _, _, _, e_WORDS_6, rfl, rfl, w_WORDS_6, q_WORDS_6⟩
    · exact ⟨_, x_WORDS_7, _, _, _, e_WORDS_7, rfl, rfl, w_WORDS_7, q_WORDS_7⟩
  have T : Txt w K mg := ⟨PySem.W.mg_none_of X G z_all, PySem.W.mg_none_of X G z_bool, PySem.W.mg_none_of X G z_enumerate, PySem.W.mg_none_of X G z_int, PySem.W.mg_none_of X G z_isinstance, PySem.W.mg_none_of X G z_len, PySem.W.mg_none_of X G z_list, PySem.W.mg_none_of X G z_range, PySem.W.mg_none_of X G z_set, PySem.W.mg_none_of X G z_sorted, PySem.W.mg_none_of X G z_str, PySem.W.mg_none_of X G z_tuple, ⟨_, PySem.W.mg_of X G v_MOST_ANSWER⟩, ⟨_, PySem.W.mg_of X G v_MOST_LETTERS⟩, ⟨_, PySem.W.mg_of X G v_MOST_MEMORIES⟩, ⟨_, PySem.W.mg_of X G v_MOST_MESSAGES⟩, ⟨_, PySem.W.mg_of X G g_WORDS, kt_WORDS⟩, PySem.W.mg_of X G p_permutations⟩
  have Fl := fun_mk (st := s_law) l_law c_law k_law
  obtain ⟨f1_check_row, c1_check_row, P1_check_row, o1_check_row, fd1_check_row, t1_check_row, t2_check_row, t3_check_row, t4_check_row, t5_check_row, t6_check_row⟩ := hX "check_row" (by simp)
  have z1_check_row := t1_check_row.symm.trans (PySem.W.mg_of X G a_check_row)
  cases z1_check_row
  rw [X _ _ l_check_row] at t2_check_row
  cases t2_check_row
  cases t3_check_row
  cases t4_check_row
  have z2_check_row : P1_check_row = P_check_row := by
    obtain ⟨oo, vv, f1, f2, f3, f4, f5, f6, f7, g1, g2, g3, g4, _⟩ := t5_check_row
    rw [X _ _ m_check_row] at g1
    cases g1
    cases g3
    rw [p_check_row] at g4
    cases g4
    rfl
  subst z2_check_row
  refine ⟨(PySem.W.fnOf "law" "law" (defArgs s_law) (defBody s_law) (defScope s_law) .none kV_law dc_law pm_law an_law cd_law ct_law), [(cc_check_row, P1_check_row)], spA ⟨mg, ⟨w, K, mg, [(P1_check_row, (("check_row" : Str) ++ ".<locals>.") ++ "<lambda>")]⟩⟩ 1 F_law, fun p hp => ?_, fun p hp => ?_, fun p hp => ?_, fun s v => .of_eq rfl, fun H a ns hl _ hT hS => ?_, fun base _ _ hB => ?_⟩
  · simp only [List.mem_cons, List.not_mem_nil, or_false] at hp
    rcases hp with rfl
    · exact t6_check_row
  · simp only [List.mem_cons, List.not_mem_nil, or_false] at hp
    rcases hp with rfl
    · exact n_check_row
  · simp only [List.mem_cons, List.not_mem_nil, or_false] at hp
    rcases hp with rfl
    · exact t5_check_row
  · refine law_endT hF H a ns hl hS (fun p hp => ?_) fun _ => rfl
    simp only [List.mem_cons, List.not_mem_nil, or_false] at hp
    rcases hp with rfl
    · exact LamX.TabS.nil (hT (cc_check_row, P1_check_row) (by simp))
  have B_check_row : LamB mg [(P1_check_row, (("check_row" : Str) ++ ".<locals>.") ++ "<lambda>")] base (PySem.W.fnOf "check_row" "check_row" (defArgs s_check_row) (defBody s_check_row) (defScope s_check_row) .none kV_check_row dc_check_row pm_check_row an_check_row (.ref cc_check_row) ct_check_row) ((("check_row" : Str) ++ ".<locals>.") ++ "<lambda>") cc_check_row P1_check_row := by
    refine ⟨rfl, hB (cc_check_row, P1_check_row) (by simp), by simp, ?_⟩
    · intro p hp e
      simp only [List.mem_cons, List.not_mem_nil, or_false] at hp
      rcases hp with rfl
      · rfl
  have g_law_taken := ok_law_taken (P := l.prog) (w := w) (Tb := [(P1_check_row, (("check_row" : Str) ++ ".<locals>.") ++ "<lambda>")]) (base := base) T  (fun_mk (st := s_law_taken) l_law_taken c_law_taken k_law_taken) (PySem.W.mg_of X G a_law_taken) 
  have g_law_pick := ok_law_pick (P := l.prog) (w := w) (Tb := [(P1_check_row, (("check_row" : Str) ++ ".<locals>.") ++ "<lambda>")]) (base := base) T g_law_taken (fun_mk (st := s_law_pick) l_law_pick c_law_pick k_law_pick) (PySem.W.mg_of X G a_law_pick) 
  have g_law_world := ok_law_world (P := l.prog) (w := w) (Tb := [(P1_check_row, (("check_row" : Str) ++ ".<locals>.") ++ "<lambda>")]) (base := base) T g_law_pick (fun_mk (st := s_law_world) l_law_world c_law_world k_law_world) (PySem.W.mg_of X G a_law_world) 
  have g_law_orders := ok_law_orders (P := l.prog) (w := w) (Tb := [(P1_check_row, (("check_row" : Str) ++ ".<locals>.") ++ "<lambda>")]) (base := base) T  (fun_mk (st := s_law_orders) l_law_orders c_law_orders k_law_orders) (PySem.W.mg_of X G a_law_orders) 
  have g_law_messages := ok_law_messages (P := l.prog) (w := w) (Tb := [(P1_check_row, (("check_row" : Str) ++ ".<locals>.") ++ "<lambda>")]) (base := base) T g_law_orders (fun_mk (st := s_law_messages) l_law_messages c_law_messages k_law_messages) (PySem.W.mg_of X G a_law_messages) 
  have g_law_alike := ok_law_alike (P := l.prog) (w := w) (Tb := [(P1_check_row, (("check_row" : Str) ++ ".<locals>.") ++ "<lambda>")]) (base := base) T  (fun_mk (st := s_law_alike) l_law_alike c_law_alike k_law_alike) (PySem.W.mg_of X G a_law_alike) 4
  have g_check_world := ok_check_world (P := l.prog) (w := w) (Tb := [(P1_check_row, (("check_row" : Str) ++ ".<locals>.") ++ "<lambda>")]) (base := base) T  (fun_mk (st := s_check_world) l_check_world c_check_world k_check_world) (PySem.W.mg_of X G a_check_world) 
  have g_is_number := ok_is_number (P := l.prog) (w := w) (Tb := [(P1_check_row, (("check_row" : Str) ++ ".<locals>.") ++ "<lambda>")]) (base := base) T  (fun_mk (st := s_is_number) l_is_number c_is_number k_is_number) (PySem.W.mg_of X G a_is_number) 
  have g_check_letters := ok_check_letters (P := l.prog) (w := w) (Tb := [(P1_check_row, (("check_row" : Str) ++ ".<locals>.") ++ "<lambda>")]) (base := base) T g_is_number (fun_mk (st := s_check_letters) l_check_letters c_check_letters k_check_letters) (PySem.W.mg_of X G a_check_letters) 
  have g_are_numbers := ok_are_numbers (P := l.prog) (w := w) (Tb := [(P1_check_row, (("check_row" : Str) ++ ".<locals>.") ++ "<lambda>")]) (base := base) T g_is_number (fun_mk (st := s_are_numbers) l_are_numbers c_are_numbers k_are_numbers) (PySem.W.mg_of X G a_are_numbers) 
  have g_check_states := ok_check_states (P := l.prog) (w := w) (Tb := [(P1_check_row, (("check_row" : Str) ++ ".<locals>.") ++ "<lambda>")]) (base := base) T g_are_numbers g_is_number (fun_mk (st := s_check_states) l_check_states c_check_states k_check_states) (PySem.W.mg_of X G a_check_states) 
  have g_messages_with := ok_messages_with (P := l.prog) (w := w) (Tb := [(P1_check_row, (("check_row" : Str) ++ ".<locals>.") ++ "<lambda>")]) (base := base) T  (fun_mk (st := s_messages_with) l_messages_with c_messages_with k_messages_with) (PySem.W.mg_of X G a_messages_with) 
  have g_messages := ok_messages (P := l.prog) (w := w) (Tb := [(P1_check_row, (("check_row" : Str) ++ ".<locals>.") ++ "<lambda>")]) (base := base) T g_check_world g_check_letters g_messages_with (fun_mk (st := s_messages) l_messages c_messages k_messages) (PySem.W.mg_of X G a_messages) 
  have g_check_keeper := ok_check_keeper (P := l.prog) (w := w) (Tb := [(P1_check_row, (("check_row" : Str) ++ ".<locals>.") ++ "<lambda>")]) (base := base) T g_check_states g_messages (fun_mk (st := s_check_keeper) l_check_keeper c_check_keeper k_check_keeper) (PySem.W.mg_of X G a_check_keeper) 
  have g_is_permutation := ok_is_permutation (P := l.prog) (w := w) (Tb := [(P1_check_row, (("check_row" : Str) ++ ".<locals>.") ++ "<lambda>")]) (base := base) T g_are_numbers (fun_mk (st := s_is_permutation) l_is_permutation c_is_permutation k_is_permutation) (PySem.W.mg_of X G a_is_permutation) 
  have g_is_message := ok_is_message (P := l.prog) (w := w) (Tb := [(P1_check_row, (("check_row" : Str) ++ ".<locals>.") ++ "<lambda>")]) (base := base) T g_is_permutation g_is_number (fun_mk (st := s_is_message) l_is_message c_is_message k_is_message) (PySem.W.mg_of X G a_is_message) 
  have g_check_row := ok_check_row (P := l.prog) (w := w) (Tb := [(P1_check_row, (("check_row" : Str) ++ ".<locals>.") ++ "<lambda>")]) (base := base) T (ok_check_messages (P := l.prog) (w := w) (Tb := [(P1_check_row, (("check_row" : Str) ++ ".<locals>.") ++ "<lambda>")]) (base := base) (k := 5) (by decide) T  (fun_mk (st := s_check_messages) l_check_messages c_check_messages k_check_messages) (PySem.W.mg_of X G a_check_messages)) g_is_message (fun_mk (st := s_check_row) l_check_row c_check_row k_check_row) (PySem.W.mg_of X G a_check_row) B_check_row 
  have g_kept_answers := ok_kept_answers (P := l.prog) (w := w) (Tb := [(P1_check_row, (("check_row" : Str) ++ ".<locals>.") ++ "<lambda>")]) (base := base) T  (fun_mk (st := s_kept_answers) l_kept_answers c_kept_answers k_kept_answers) (PySem.W.mg_of X G a_kept_answers) 
  have g_keep := ok_keep (P := l.prog) (w := w) (Tb := [(P1_check_row, (("check_row" : Str) ++ ".<locals>.") ++ "<lambda>")]) (base := base) T g_check_world g_check_letters g_check_keeper g_check_row g_kept_answers g_messages (fun_mk (st := s_keep) l_keep c_keep k_keep) (PySem.W.mg_of X G a_keep) 
  have g_check_slip := ok_check_slip (P := l.prog) (w := w) (Tb := [(P1_check_row, (("check_row" : Str) ++ ".<locals>.") ++ "<lambda>")]) (base := base) T g_check_world g_check_letters g_check_keeper g_check_row g_is_number (fun_mk (st := s_check_slip) l_check_slip c_check_slip k_check_slip) (PySem.W.mg_of X G a_check_slip) 
  have g_first_unlike := ok_first_unlike (P := l.prog) (w := w) (Tb := [(P1_check_row, (("check_row" : Str) ++ ".<locals>.") ++ "<lambda>")]) (base := base) T g_kept_answers g_messages (fun_mk (st := s_first_unlike) l_first_unlike c_first_unlike k_first_unlike) (PySem.W.mg_of X G a_first_unlike) 
  have g_doubled := ok_doubled (P := l.prog) (w := w) (Tb := [(P1_check_row, (("check_row" : Str) ++ ".<locals>.") ++ "<lambda>")]) (base := base) T g_check_slip g_kept_answers g_messages g_first_unlike (fun_mk (st := s_doubled) l_doubled c_doubled k_doubled) (PySem.W.mg_of X G a_doubled) 
  have g_lost := ok_lost (P := l.prog) (w := w) (Tb := [(P1_check_row, (("check_row" : Str) ++ ".<locals>.") ++ "<lambda>")]) (base := base) T g_check_slip g_kept_answers g_messages g_first_unlike (fun_mk (st := s_lost) l_lost c_lost k_lost) (PySem.W.mg_of X G a_lost) 
  have gl := ok_law (P := l.prog) (w := w) (Tb := [(P1_check_row, (("check_row" : Str) ++ ".<locals>.") ++ "<lambda>")]) (base := base) T g_law_world g_law_taken g_law_messages g_law_pick g_law_alike g_keep g_doubled g_lost Fl 
  exact gl
end P09
open PySem PySem.W PyProof.Rows
set_option maxHeartbeats 0 in
theorem PySem.Challenge.cw_toldwhat_k09_whole_slips_holds : PySem.Challenge.rw_toldwhat_k09_whole_slips.Holds := by
  w_on; o_law; k_head; (case hw => w_witness2)
  k_fill
  refine AB.walk_ofX (l := PySem.Challenge.rw_toldwhat_k09_whole_slips) (n := 63) (k := 10) (x := "script") (CX := fun w => L2.CX PySem.Challenge.rw_toldwhat_k09_whole_slips.prog w) ["check_row"] rfl (by decide) rfl ⟨rfl, by decide, by decide⟩ (by decide +kernel) (fun w h Y => PySem.W.km_in_of Y) ?F AB.cx_false
  case F =>
    intro w mg fa h Yh KX G hmg hX
    refine' P09.all_mk KX G hmg hX P09.maths ?a_law_taken ?l_law_taken ?c_law_taken ?k_law_taken ?a_law_pick ?l_law_pick ?c_law_pick ?k_law_pick ?a_law_world ?l_law_world ?c_law_world ?k_law_world ?a_law_orders ?l_law_orders ?c_law_orders ?k_law_orders ?a_law_messages ?l_law_messages ?c_law_messages ?k_law_messages ?a_law_alike ?l_law_alike ?c_law_alike ?k_law_alike ?a_check_world ?l_check_world ?c_check_world ?k_check_world ?a_is_number ?l_is_number ?c_is_number ?k_is_number ?a_check_letters ?l_check_letters ?c_check_letters ?k_check_letters ?a_are_numbers ?l_are_numbers ?c_are_numbers ?k_are_numbers ?a_check_states ?l_check_states ?c_check_states ?k_check_states ?a_messages_with ?l_messages_with ?c_messages_with ?k_messages_with ?a_messages ?l_messages ?c_messages ?k_messages ?a_check_keeper ?l_check_keeper ?c_check_keeper ?k_check_keeper ?a_check_messages ?l_check_messages ?c_check_messages ?k_check_messages ?a_is_permutation ?l_is_permutation ?c_is_permutation ?k_is_permutation ?a_is_message ?l_is_message ?c_is_message ?k_is_message ?a_check_row ?l_check_row ?c_check_row ?k_check_row ?m_check_row ?p_check_row ?n_check_row ?a_kept_answers ?l_kept_answers ?c_kept_answers ?k_kept_answers ?a_keep ?l_keep ?c_keep ?k_keep ?a_check_slip ?l_check_slip ?c_check_slip ?k_check_slip ?a_first_unlike ?l_first_unlike ?c_first_unlike ?k_first_unlike ?a_doubled ?l_doubled ?c_doubled ?k_doubled ?a_lost ?l_lost ?c_lost ?k_lost ?a_law ?l_law ?c_law ?k_law ?v_MOST_ANSWER ?v_MOST_LETTERS ?v_MOST_MEMORIES ?v_MOST_MESSAGES ?z_all ?z_bool ?z_enumerate ?z_int ?z_isinstance ?z_len ?z_list ?z_range ?z_set ?z_sorted ?z_str ?z_tuple ?g_WORDS ?h_WORDS ?i_WORDS ?j_WORDS ?x_WORDS_0 ?e_WORDS_0 ?w_WORDS_0 ?q_WORDS_0 ?x_WORDS_1 ?e_WORDS_1 ?w_WORDS_1 ?q_WORDS_1 ?x_WORDS_2 ?e_WORDS_2 ?w_WORDS_2 ?q_WORDS_2 ?x_WORDS_3 ?e_WORDS_3 ?w_WORDS_3 ?q_WORDS_3 ?x_WORDS_4 ?e_WORDS_4 ?w_WORDS_4 ?q_WORDS_4 ?x_WORDS_5 ?e_WORDS_5 ?w_WORDS_5 ?q_WORDS_5 ?x_WORDS_6 ?e_WORDS_6 ?w_WORDS_6 ?q_WORDS_6 ?x_WORDS_7 ?e_WORDS_7 ?w_WORDS_7 ?q_WORDS_7 ?p_permutations
    (case a_law_taken => k_is)
    (case l_law_taken => k_is)
    (case c_law_taken => k_is)
    (case k_law_taken => k_is)
    (case a_law_pick => k_is)
    (case l_law_pick => k_is)
    (case c_law_pick => k_is)
    (case k_law_pick => k_is)
    (case a_law_world => k_is)
    (case l_law_world => k_is)
    (case c_law_world => k_is)
    (case k_law_world => k_is)
    (case a_law_orders => k_is)
    (case l_law_orders => k_is)
    (case c_law_orders => k_is)
    (case k_law_orders => k_is)
    (case a_law_messages => k_is)
    (case l_law_messages => k_is)
    (case c_law_messages => k_is)
    (case k_law_messages => k_is)
    (case a_law_alike => k_is)
    (case l_law_alike => k_is)
    (case c_law_alike => k_is)
    (case k_law_alike => k_is)
    (case a_check_world => k_is)
    (case l_check_world => k_is)
    (case c_check_world => k_is)
    (case k_check_world => k_is)
    (case a_is_number => k_is)
    (case l_is_number => k_is)
    (case c_is_number => k_is)
    (case k_is_number => k_is)
    (case a_check_letters => k_is)
    (case l_check_letters => k_is)
    (case c_check_letters => k_is)
    (case k_check_letters => k_is)
    (case a_are_numbers => k_is)
    (case l_are_numbers => k_is)
    (case c_are_numbers => k_is)
    (case k_are_numbers => k_is)
    (case a_check_states => k_is)
    (case l_check_states => k_is)
    (case c_check_states => k_is)
    (case k_check_states => k_is)
    (case a_messages_with => k_is)
    (case l_messages_with => k_is)
    (case c_messages_with => k_is)
    (case k_messages_with => k_is)
    (case a_messages => k_is)
    (case l_messages => k_is)
    (case c_messages => k_is)
    (case k_messages => k_is)
    (case a_check_keeper => k_is)
    (case l_check_keeper => k_is)
    (case c_check_keeper => k_is)
    (case k_check_keeper => k_is)
    (case a_check_messages => k_is)
    (case l_check_messages => k_is)
    (case c_check_messages => k_is)
    (case k_check_messages => k_is)
    (case a_is_permutation => k_is)
    (case l_is_permutation => k_is)
    (case c_is_permutation => k_is)
    (case k_is_permutation => k_is)
    (case a_is_message => k_is)
    (case l_is_message => k_is)
    (case c_is_message => k_is)
    (case k_is_message => k_is)
    (case a_check_row => k_is)
    (case l_check_row => k_is)
    (case c_check_row => k_is)
    (case k_check_row => k_is)
    (case m_check_row => k_is)
    (case p_check_row => exact rfl)
    (case n_check_row => exact AB.km_out Yh (by decide))
    (case a_kept_answers => k_is)
    (case l_kept_answers => k_is)
    (case c_kept_answers => k_is)
    (case k_kept_answers => k_is)
    (case a_keep => k_is)
    (case l_keep => k_is)
    (case c_keep => k_is)
    (case k_keep => k_is)
    (case a_check_slip => k_is)
    (case l_check_slip => k_is)
    (case c_check_slip => k_is)
    (case k_check_slip => k_is)
    (case a_first_unlike => k_is)
    (case l_first_unlike => k_is)
    (case c_first_unlike => k_is)
    (case k_first_unlike => k_is)
    (case a_doubled => k_is)
    (case l_doubled => k_is)
    (case c_doubled => k_is)
    (case k_doubled => k_is)
    (case a_lost => k_is)
    (case l_lost => k_is)
    (case c_lost => k_is)
    (case k_lost => k_is)
    (case a_law => k_is)
    (case l_law => k_is)
    (case c_law => k_is)
    (case k_law => k_is)
    (case v_MOST_ANSWER => k_is)
    (case v_MOST_LETTERS => k_is)
    (case v_MOST_MEMORIES => k_is)
    (case v_MOST_MESSAGES => k_is)
    (case z_all => k_is)
    (case z_bool => k_is)
    (case z_enumerate => k_is)
    (case z_int => k_is)
    (case z_isinstance => k_is)
    (case z_len => k_is)
    (case z_list => k_is)
    (case z_range => k_is)
    (case z_set => k_is)
    (case z_sorted => k_is)
    (case z_str => k_is)
    (case z_tuple => k_is)
    (case g_WORDS => k_is)
    (case h_WORDS => k_is)
    (case i_WORDS => k_keys)
    (case j_WORDS => decide)
    (case x_WORDS_0 => k_is)
    (case e_WORDS_0 => k_is)
    (case w_WORDS_0 => decide)
    (case q_WORDS_0 => exact (.cons ⟨_, rfl⟩ .nil))
    (case x_WORDS_1 => k_is)
    (case e_WORDS_1 => k_is)
    (case w_WORDS_1 => decide)
    (case q_WORDS_1 => exact (.cons ⟨_, rfl⟩ (.cons ⟨_, rfl⟩ .nil)))
    (case x_WORDS_2 => k_is)
    (case e_WORDS_2 => k_is)
    (case w_WORDS_2 => decide)
    (case q_WORDS_2 => exact (.cons ⟨_, rfl⟩ (.cons ⟨_, rfl⟩ .nil)))
    (case x_WORDS_3 => k_is)
    (case e_WORDS_3 => k_is)
    (case w_WORDS_3 => decide)
    (case q_WORDS_3 => exact (.cons ⟨_, rfl⟩ (.cons ⟨_, rfl⟩ (.cons ⟨_, rfl⟩ (.cons ⟨_, rfl⟩ .nil)))))
    (case x_WORDS_4 => k_is)
    (case e_WORDS_4 => k_is)
    (case w_WORDS_4 => decide)
    (case q_WORDS_4 => exact (.cons ⟨_, rfl⟩ .nil))
    (case x_WORDS_5 => k_is)
    (case e_WORDS_5 => k_is)
    (case w_WORDS_5 => decide)
    (case q_WORDS_5 => exact (.cons ⟨_, rfl⟩ (.cons ⟨_, rfl⟩ .nil)))
    (case x_WORDS_6 => k_is)
    (case e_WORDS_6 => k_is)
    (case w_WORDS_6 => decide)
    (case q_WORDS_6 => exact (.cons ⟨_, rfl⟩ (.cons ⟨_, rfl⟩ .nil)))
    (case x_WORDS_7 => k_is)
    (case e_WORDS_7 => k_is)
    (case w_WORDS_7 => decide)
    (case q_WORDS_7 => exact (.cons ⟨_, rfl⟩ (.cons ⟨_, rfl⟩ .nil)))
    (case p_permutations => k_is)
