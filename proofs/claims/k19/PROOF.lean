import PyProof.Rows.All
import Wide.All
import OpenK.AllK
import Wide.FinOn
import KE.SortData
import KE.DatumIndex
import HandS.Base
import HandS.Call
import HandS.List
import HandS.Comp
import HandS.Dict
import HandS.Iter
import HandS.Walk
import HandS.Text
import HandS.More
import HandS.Ends
import HandS.Words
import HandS.WordsList
import HandS.WordsDict
import HandS.WordsExc
import HandS.Wide
import HandS.Exc
import HandS.ExcOwn
import HandS.Defaults
import HandS.Lambda
import HandS.TupAny
import HandS.TupMul
import HandS.Deep
import HandS.IsInst
import PyProof.NeKinds
import PyProof.FactsAll.dict
import PyProof.TypeEq
import HandS.Zip
import KE.LtData
import PyProof.ListStr
import HandS.Rev
import HandS.TryMany
import HandS.TryOnly
import HandS.ExcIs
import HandS.Star
import HandS.SortKw
import HandS.Strs
import KE.DataMinMax
import KE.KStateDown
import HandS.HeadHook4
import HandS.HeadWalk
import HandS.HeadEnd
import HandS.Head2
import PyProof.RowDictHeap
import HandS.Small
import KE.KDictCopyH
import KE.KDictSum
import HandS.StrMore
import HandS.StrSplit
import HandS.MapJoin
import KE.GoesEnum
import HandS.Style
import KE.KRevSl
import KE.GoesMore
import HandS.ExcInit
import HandS.ExcField
import KE.KExcInit
import KE.GoesRaise
import PyProof.ReprLen
import PyProof.Rows.StrJoinMade
import PyProof.Rows.StrCut
import PySem.Challenge.RW_openlimit_k19_products_of_tables
set_option Elab.async false
set_option linter.all false
set_option maxRecDepth 100000
set_option maxHeartbeats 0
/-! Values by their content: data, environments of them, what a piece of code does to them. -/
namespace Pl
open PySem PySem.Spec PyProof.Rows L2
inductive D where
  | non | bl (b : Bool) | int (i : Int) | str (x : Str) | tup (xs : List D) | lst (xs : List D) | dct (ks : List Key) (ds : List D) | rf (v : V) | scr (ns : List Int)
structure Exn where
  cls : Str
  val : Option (Str × D)
/-- what a name holds: nothing known, data that stays, a list or a dict of the frame's own that may still change, the error that is handled -/
inductive Slot where
  | u | d (x : D) | o (xs : List D) | q (kvs : List (Key × D)) | qt (kvs : List (List Key × D)) | e (x : Exn) | oo (xss : List (List D)) | al (k : Nat)
abbrev Env := List Slot
inductive Rs (α : Type) where
  | ok (a : α) (ρ : Env) | ex (e : Exn) (ρ : Env) | bad
abbrev M (α : Type) := Env → Rs α
variable {α β : Type}
def M.pure (a : α) : M α := fun ρ => .ok a ρ
def M.bind (m : M α) (f : α → M β) : M β := fun ρ => match m ρ with
  | .ok a ρ' => f a ρ'
  | .ex e ρ' => .ex e ρ'
  | .bad => .bad
def M.lift : Option α → M α
  | some a => M.pure a
  | none => fun _ => .bad
/-! ### how data stands in the heap -/
/-- a tuple that is tracked, or one of the module's own -/
def TupAt (K : PySem.W.Frag) (F : Hp) (a : Addr) (xs : List V) : Prop :=
  F a = some (.tup xs) ∨ ∃ (o : Obj) (its : Array Value) (n : Nat), K.lookup a = some o ∧ o.cls = .type "tuple" ∧ o.data = .seq its n ∧ its.size ≤ sizeLine ∧ Vals xs its.toList
theorem TupAt.sq {K : PySem.W.Frag} {F : Hp} {a : Addr} {xs : List V} (h : TupAt K F a xs) : SqT K F a xs := h.elim (fun h => .of h) .inr
section
variable (K : PySem.W.Frag) (F : Hp)
mutual
def Rep : D → V → Prop
  | .non, v => v = .non
  | .bl b, v => v = .bl b
  | .int i, v => v = .int i
  | .str x, v => v = .str x
  | .tup ds, v => ∃ a xs, v = .ref a ∧ TupAt K F a xs ∧ RepL ds xs
  | .lst ds, v => ∃ a xs, v = .ref a ∧ F a = some (.lst xs) ∧ RepL ds xs
  | .dct ks ds, v => ∃ a us, v = .ref a ∧ F a = some (.dK us) ∧ us.map (·.1) = ks ∧ RepL ds (us.map (·.2))
  | .rf w, v => v = w
  | .scr ns, v => ∃ a, v = .ref a ∧ SqL K F a (ns.map V.int)
def RepL : List D → List V → Prop
  | [], xs => xs = []
  | d :: ds, xs => ∃ v vs, xs = v :: vs ∧ Rep d v ∧ RepL ds vs
end
end
section
variable {K : PySem.W.Frag} {F F' : Hp}
theorem sqT_mono {a : Addr} {xs : List V} (e : Same F F') (h : SqT K F a xs) : SqT K F' a xs := by
  rcases h with (h | ⟨o, h⟩) | h
  · exact .inl (.inl (e _ _ h))
  · exact .inl (.inr ⟨o, e _ _ h⟩)
  · exact .inr h
theorem tup_mono {a : Addr} {xs : List V} (e : Same F F') (h : TupAt K F a xs) : TupAt K F' a xs := h.imp (e _ _) id
theorem rd_mono {a : Addr} {u : HO} (e : Same F F') (h : Rd F a u) : Rd F' a u := by
  rcases h with h | ⟨o, h⟩
  · exact .inl (e _ _ h)
  · exact .inr ⟨o, e _ _ h⟩
mutual
theorem Rep.mono (e : Same F F') : ∀ (d : D) {v : V}, Rep K F d v → Rep K F' d v
  | .non, _, h => h
  | .bl _, _, h => h
  | .int _, _, h => h
  | .str _, _, h => h
  | .rf _, _, h => h
  | .tup ds, _, ⟨a, xs, h1, h2, h3⟩ => ⟨a, xs, h1, tup_mono e h2, RepL.mono e ds h3⟩
  | .lst ds, _, ⟨a, xs, h1, h2, h3⟩ => ⟨a, xs, h1, e _ _ h2, RepL.mono e ds h3⟩
  | .dct _ ds, _, ⟨a, us, h1, h2, h3, h4⟩ => ⟨a, us, h1, e _ _ h2, h3, RepL.mono e ds h4⟩
  | .scr _, _, ⟨a, h1, h2⟩ => ⟨a, h1, e.seq h2⟩
theorem RepL.mono (e : Same F F') : ∀ (ds : List D) {vs : List V}, RepL K F ds vs → RepL K F' ds vs
  | [], _, h => h
  | d :: ds, _, ⟨v, vs, h1, h2, h3⟩ => ⟨v, vs, h1, Rep.mono e d h2, RepL.mono e ds h3⟩
end
theorem RepL.len : ∀ {ds : List D} {vs : List V}, RepL K F ds vs → ds.length = vs.length
  | [], _, h => by
    have h : _ = [] := h
    rw [h]
    rfl
  | d :: ds, _, ⟨v, vs, h1, h2, h3⟩ => by rw [h1, List.length_cons, List.length_cons, RepL.len h3]
theorem RepL.nil : RepL K F [] [] := rfl
theorem RepL.cons {d : D} {ds : List D} {v : V} {vs : List V} (h : Rep K F d v) (t : RepL K F ds vs) : RepL K F (d :: ds) (v :: vs) := ⟨v, vs, rfl, h, t⟩
theorem RepL.app : ∀ {ds es : List D} {vs ws : List V}, RepL K F ds vs → RepL K F es ws → RepL K F (ds ++ es) (vs ++ ws)
  | [], _, _, _, h, k => by
    have h : _ = [] := h
    rw [h]
    exact k
  | d :: ds, _, _, _, ⟨v, vs, h1, h2, h3⟩, k => by
    rw [h1]
    exact ⟨v, _, rfl, h2, RepL.app h3 k⟩
theorem RepL.get : ∀ {ds : List D} {vs : List V} {i : Nat} {d : D}, RepL K F ds vs → ds[i]? = some d → ∃ v, vs[i]? = some v ∧ Rep K F d v
  | [], _, _, _, _, e => by simp at e
  | d :: ds, _, 0, _, ⟨v, vs, h1, h2, h3⟩, e => by
    rw [h1]
    simp at e
    subst e
    exact ⟨v, rfl, h2⟩
  | d :: ds, _, i + 1, _, ⟨v, vs, h1, h2, h3⟩, e => by
    rw [h1]
    obtain ⟨w, e1, e2⟩ := RepL.get (i := i) h3 (by simpa using e)
    exact ⟨w, by simpa using e1, e2⟩
theorem RepL.of_get {ds : List D} {vs : List V} {i : Nat} {v : V} (h : RepL K F ds vs) (e : vs[i]? = some v) : ∃ d, ds[i]? = some d ∧ Rep K F d v := by
  have hl := h.len
  have hi : i < vs.length := (List.getElem?_eq_some_iff.mp e).1
  have e2 : ds[i]? = some (ds[i]'(by omega)) := List.getElem?_eq_getElem _
  obtain ⟨w, e1, r⟩ := h.get e2
  rw [e] at e1
  cases e1
  exact ⟨_, e2, r⟩
theorem RepL.take : ∀ (n : Nat) {ds : List D} {vs : List V}, RepL K F ds vs → RepL K F (ds.take n) (vs.take n)
  | 0, _, _, _ => by
    rw [List.take_zero, List.take_zero]
    rfl
  | n + 1, [], _, h => by
    have h : _ = [] := h
    rw [h]
    rfl
  | n + 1, d :: ds, _, ⟨v, vs, h1, h2, h3⟩ => by
    rw [h1]
    exact ⟨v, _, rfl, h2, RepL.take n h3⟩
theorem RepL.drop : ∀ (n : Nat) {ds : List D} {vs : List V}, RepL K F ds vs → RepL K F (ds.drop n) (vs.drop n)
  | 0, _, _, h => h
  | n + 1, [], _, h => by
    have h : _ = [] := h
    rw [h]
    rfl
  | n + 1, d :: ds, _, ⟨v, vs, h1, h2, h3⟩ => by
    rw [h1]
    exact RepL.drop n h3
theorem RepL.set : ∀ {ds : List D} {vs : List V} (i : Nat) {d : D} {v : V}, RepL K F ds vs → Rep K F d v → RepL K F (ds.set i d) (vs.set i v)
  | [], _, _, _, _, h, _ => by
    have h : _ = [] := h
    rw [h]
    rfl
  | d :: ds, _, 0, _, _, ⟨v, vs, h1, h2, h3⟩, k => by
    rw [h1]
    exact ⟨_, _, rfl, k, h3⟩
  | d :: ds, _, i + 1, _, _, ⟨v, vs, h1, h2, h3⟩, k => by
    rw [h1]
    exact ⟨v, _, rfl, h2, RepL.set i h3 k⟩
end
/-! ### frames -/
/-- what stays through a law: the written part, the module's names, the tables of code objects -/
structure Cn where
  K : PySem.W.Frag
  mg : Str → Option Value
  T : List (Addr × Str)
  ec : Option (Addr × Value × Option Addr)
/-- a body running: what it may write, the frozen heap and the heap that it began with -/
structure Fm where
  np : Nat
  P : Nat → Addr → Prop
  B : Addr → Prop
  F0 : Hp
  H0 : Hp
  pn : Option (Addr × List Addr)
variable {c : Cn} {W : Fm} {F F' F1 H H' H1 : Hp} {σ : L2.St} {ρ ρ' : Env}
/-- a list, a dict of the frame's own -/
def OwnL (c : Cn) (F H : Hp) (p : Addr) (ds : List D) : Prop := ∃ vs, H p = some (.lst vs) ∧ RepL c.K F ds vs ∧ F p = none
def OwnK (c : Cn) (F H : Hp) (p : Addr) (kvs : List (Key × D)) : Prop := ∃ us : List (Key × V), H p = some (.dK us) ∧ us.map (·.1) = kvs.map (·.1) ∧ RepL c.K F (kvs.map (·.2)) (us.map (·.2)) ∧ F p = none
def OwnT (c : Cn) (F H : Hp) (p : Addr) (kvs : List (List Key × D)) : Prop := ∃ us : List (List Key × V), H p = some (.dT us) ∧ us.map (·.1) = kvs.map (·.1) ∧ RepL c.K F (kvs.map (·.2)) (us.map (·.2)) ∧ F p = none
def Own (c : Cn) (F H : Hp) (p : Addr) : Slot → Prop
  | .o ds => OwnL c F H p ds
  | .q kvs => OwnK c F H p kvs
  | .qt kvs => OwnT c F H p kvs
  | _ => False
/-- the exception e -/
def XRep (c : Cn) (F H : Hp) (e : Exn) (cls : Value) (od : Option Addr) : Prop :=
  (c.mg e.cls = some cls ∨ (c.mg e.cls = none ∧ bootBuiltins e.cls = some cls)) ∧ match e.val with
    | none => od = none
    | some (f, x) => ∃ d v, od = some d ∧ F d = some (.xd [(f, v)]) ∧ Rep c.K F x v
theorem XRep.mono {e : Exn} {cls : Value} {d : Option Addr} (s : Same F F') (x : XRep c F H e cls d) : XRep c F' H' e cls d := by
  obtain ⟨x1, x2⟩ := x
  refine ⟨x1, ?_⟩
  cases h : e.val with
  | none => rw [h] at x2; exact x2
  | some fv =>
    rw [h] at x2
    obtain ⟨f, v⟩ := fv
    obtain ⟨p, u, h1, h2, h3⟩ := x2
    exact ⟨p, u, h1, s _ _ h2, h3.mono s⟩
/-- an own list of own lists -/
structure OwnN (c : Cn) (F H : Hp) (p : Addr) (rs : List Addr) (xss : List (List D)) : Prop where
  out : H p = some (.lst (rs.map V.ref))
  fp : F p = none
  len : rs.length = xss.length
  nd : (p :: rs).Nodup
  inn : ∀ (k : Nat) (r : Addr) (xs : List D), rs[k]? = some r → xss[k]? = some xs → OwnL c F H r xs
def SlotOk (c : Cn) (W : Fm) (F H : Hp) (x : Option (Option V)) : Slot → Prop
  | .u => True
  | .d d => ∃ v, x = some (some v) ∧ Rep c.K F d v
  | .e z => ∃ a cls od, x = some (some (.ref a)) ∧ c.ec = some (a, cls, od) ∧ XRep c F F z cls od
  | .oo xss => ∃ p rs, x = some (some (.ref p)) ∧ W.pn = some (p, rs) ∧ (∀ a ∈ p :: rs, ¬ W.B a ∧ ∃ t, W.H0 a = some (.tbl t)) ∧ OwnN c F H p rs xss
  | .al k => ∃ p rs r, x = some (some (.ref r)) ∧ W.pn = some (p, rs) ∧ rs[k]? = some r
  | s => ∃ p, x = some (some (.ref p)) ∧ Own c F H p s ∧ W.B p
def Slot.own : Slot → Bool
  | .u => false
  | .d _ => false
  | .e _ => false
  | .oo _ => false
  | .al _ => false
  | _ => true
/-- a list of lists, one of its lists -/
def Slot.isN : Slot → Bool
  | .oo _ => true
  | .al _ => true
  | _ => false
/-- a comprehension's names may not be these -/
def Slot.shy : Slot → Bool
  | .oo _ => true
  | s => s.own
theorem shy_own {s : Slot} (h : s.shy = false) : s.own = false := by cases s <;> first | exact h | rfl
/-- the heap without the tables of code objects -/
def bl (H : Hp) : Hp := fun a => match H a with
  | some (.tbl _) => none
  | x => x
theorem bl_of {a : Addr} {o : HO} (e : H a = some o) (n : ∀ ps, o ≠ .tbl ps) : bl H a = some o := by
  unfold bl
  rw [e]
  cases o with
  | tbl ps => exact absurd rfl (n ps)
  | _ => rfl
theorem bl_at {a : Addr} {o : HO} (e : bl H a = some o) : H a = some o ∧ ∀ ps, o ≠ .tbl ps := by
  unfold bl at e
  cases h : H a with
  | none => rw [h] at e; cases e
  | some u =>
    rw [h] at e
    cases u with
    | tbl ps => cases e
    | _ => cases e; exact ⟨rfl, fun _ z => by cases z⟩
theorem bl_none {a : Addr} (e : H a = none) : bl H a = none := by
  unfold bl
  rw [e]
theorem bl_free {a : Addr} (k : ∀ b o, H b = some o → (∀ ps, o ≠ .tbl ps) → H' b = some o) (e : bl H' a = none) : bl H a = none := by
  cases h : bl H a with
  | none => rfl
  | some o =>
    obtain ⟨h1, h2⟩ := bl_at h
    rw [bl_of (k a o h1 h2) h2] at e
    cases e
/-- nothing at a is frozen, a tuple aside -/
def Th (F : Hp) (a : Addr) : Prop := ∀ o, F a = some o → ∃ xs, o = .tup xs
theorem th0 {F : Hp} {a : Addr} (h : F a = none) : Th F a := fun o e => by rw [h] at e; cases e
theorem th_upd {F : Hp} {a p : Addr} {o : HO} (n : a ≠ p) (h : Th F a) : Th (upd F p o) a := fun u e => h u (by rw [upd_ne n] at e; exact e)
theorem Th.none {F H : Hp} {a : Addr} {o : HO} (h : Th F a) (s : Same F H) (e : H a = some o) (n : ∀ xs, o ≠ .tup xs) : F a = none := by
  cases q : F a with
  | none => rfl
  | some u =>
    obtain ⟨xs, z⟩ := h u q
    rw [s _ _ q] at e
    exact absurd (Option.some.inj e).symm (z ▸ fun w => n xs w)
structure Rel (c : Cn) (W : Fm) (F H : Hp) (σ : L2.St) (ρ : Env) : Prop where
  sub : Same F H
  nt : ∀ a ps, F a ≠ some (.tbl ps)
  tab : LamX.Tabs c.T H
  len : σ.length = ρ.length
  here : ∀ (i : Nat) (s : Slot), ρ[i]? = some s → SlotOk c W F H σ[i]? s
  dis : ∀ (i j : Nat) (s t : Slot) (p : Addr), ρ[i]? = some s → ρ[j]? = some t → s.own = true → t.own = true → σ[i]? = some (some (.ref p)) → σ[j]? = some (some (.ref p)) → i = j
  wb : ∀ a, W.H0 a = none → W.B a
  pa : ∀ (i : Nat) (p : Addr), W.P i p → i < W.np ∧ ∀ s, ρ[i]? = some s → s.own = true → σ[i]? = some (some (.ref p))
  lo : ∀ (i : Nat) (s : Slot) (p : Addr), W.np ≤ i → ρ[i]? = some s → s.own = true → σ[i]? = some (some (.ref p)) → W.H0 p = none
  st : ∀ a, bl H a = none → W.H0 a = none
  kp : ∀ a o, ¬ W.B a → W.H0 a = some o → (∀ ps, o ≠ .tbl ps) → H a = some o
  f0 : Same W.F0 F
  nf : ∀ a, Th W.F0 a → W.H0 a ≠ none → Th F a
/-- from (F, H) to (F', H'): the frozen part and the rest have grown, nothing has changed -/
structure Grow (F H F' H' : Hp) : Prop where
  fs : Same F F'
  sub : Same F' H'
  nt : ∀ a ps, F' a ≠ some (.tbl ps)
  nw : ∀ a, Th F a → bl H a ≠ none → Th F' a
  hs : Same H H'
theorem Own.mono {p : Addr} {s : Slot} (h : Own c F H p s) (fs : Same F F') (nw : F' p = none) (hp : ∀ o, H p = some o → (∀ ps, o ≠ .tbl ps) → H' p = some o) : Own c F' H' p s := by
  cases s with
  | u => exact h
  | e _ => exact h
  | oo _ => exact h
  | al _ => exact h
  | d _ => exact h
  | o ds =>
    obtain ⟨vs, h1, h2, h3⟩ := h
    exact ⟨vs, hp _ h1 (fun _ z => by cases z), h2.mono fs, nw⟩
  | q kvs =>
    obtain ⟨us, h1, h2, h3, h4⟩ := h
    exact ⟨us, hp _ h1 (fun _ z => by cases z), h2, h3.mono fs, nw⟩
  | qt kvs =>
    obtain ⟨us, h1, h2, h3, h4⟩ := h
    exact ⟨us, hp _ h1 (fun _ z => by cases z), h2, h3.mono fs, nw⟩
theorem Own.mono' {p : Addr} {s : Slot} (h : Own c F H p s) (fs : Same F F') (nw : Th F' p) (sub : Same F' H') (hp : ∀ o, H p = some o → (∀ ps, o ≠ .tbl ps) → H' p = some o) : Own c F' H' p s := by
  refine h.mono fs ?_ hp
  cases s with
  | u => exact h.elim
  | e _ => exact h.elim
  | oo _ => exact h.elim
  | al _ => exact h.elim
  | d _ => exact h.elim
  | o ds => obtain ⟨vs, h1, _⟩ := h; exact nw.none sub (hp _ h1 fun _ z => by cases z) fun _ z => by cases z
  | q kvs => obtain ⟨us, h1, _⟩ := h; exact nw.none sub (hp _ h1 fun _ z => by cases z) fun _ z => by cases z
  | qt kvs => obtain ⟨us, h1, _⟩ := h; exact nw.none sub (hp _ h1 fun _ z => by cases z) fun _ z => by cases z
theorem Own.at {p : Addr} {s : Slot} (h : Own c F H p s) : F p = none ∧ (∃ o, H p = some o ∧ ∀ ps, o ≠ .tbl ps) ∧ s.own = true := by
  cases s with
  | u => exact h.elim
  | e _ => exact h.elim
  | oo _ => exact h.elim
  | al _ => exact h.elim
  | d _ => exact h.elim
  | o ds =>
    obtain ⟨vs, h1, h2, h3⟩ := h
    exact ⟨h3, ⟨_, h1, fun _ z => by cases z⟩, rfl⟩
  | q kvs =>
    obtain ⟨us, h1, h2, h3, h4⟩ := h
    exact ⟨h4, ⟨_, h1, fun _ z => by cases z⟩, rfl⟩
  | qt kvs =>
    obtain ⟨us, h1, h2, h3, h4⟩ := h
    exact ⟨h4, ⟨_, h1, fun _ z => by cases z⟩, rfl⟩
theorem Own.there {p : Addr} {s : Slot} (h : Own c F H p s) : H p ≠ none := by
  obtain ⟨_, ⟨o, e, _⟩, _⟩ := h.at
  rw [e]
  intro z
  cases z
theorem Own.bl {p : Addr} {s : Slot} (h : Own c F H p s) : Pl.bl H p ≠ none := by
  obtain ⟨_, ⟨o, e, n⟩, _⟩ := h.at
  rw [bl_of e n]
  intro z
  cases z
theorem SlotOk.of_own {x : Option (Option V)} {p : Addr} {s : Slot} (e : x = some (some (.ref p))) (h : Own c F H p s) (b : W.B p) : SlotOk c W F H x s := by
  cases s with
  | u => exact trivial
  | e _ => exact h.elim
  | oo _ => exact h.elim
  | al _ => exact h.elim
  | d _ => exact h.elim
  | o _ => exact ⟨p, e, h, b⟩
  | q _ => exact ⟨p, e, h, b⟩
  | qt _ => exact ⟨p, e, h, b⟩
theorem SlotOk.own {x : Option (Option V)} {s : Slot} (h : SlotOk c W F H x s) (e : s.own = true) : ∃ p, x = some (some (.ref p)) ∧ Own c F H p s ∧ W.B p := by
  cases s with
  | u => cases e
  | e _ => cases e
  | oo _ => cases e
  | al _ => cases e
  | d _ => cases e
  | o _ => exact h
  | q _ => exact h
  | qt _ => exact h
theorem OwnN.at {p : Addr} {rs : List Addr} {xss : List (List D)} (h : OwnN c F H p rs xss) : ∀ a ∈ p :: rs, F a = none ∧ ∃ vs, H a = some (.lst vs) := fun a m => by
  rcases List.mem_cons.mp m with rfl | m
  · exact ⟨h.fp, _, h.out⟩
  · obtain ⟨k, hk, e⟩ := List.mem_iff_getElem.mp m
    have hx : k < xss.length := by rw [← h.len]; exact hk
    obtain ⟨vs, q1, q2, q3⟩ := h.inn k a xss[k] (by rw [List.getElem?_eq_getElem hk, e]) (List.getElem?_eq_getElem hx)
    exact ⟨q3, vs, q1⟩
theorem OwnN.mono {p : Addr} {rs : List Addr} {xss : List (List D)} (h : OwnN c F H p rs xss) (fs : Same F F') (nw : ∀ a ∈ p :: rs, F' a = none) (hp : ∀ a vs, a ∈ p :: rs → H a = some (.lst vs) → H' a = some (.lst vs)) : OwnN c F' H' p rs xss where
  out := hp p _ List.mem_cons_self h.out
  fp := nw p List.mem_cons_self
  len := h.len
  nd := h.nd
  inn := fun k r xs e1 e2 => by
    obtain ⟨vs, q1, q2, q3⟩ := h.inn k r xs e1 e2
    have m : r ∈ p :: rs := List.mem_cons_of_mem _ (List.mem_of_getElem? e1)
    exact ⟨vs, hp r vs m q1, q2.mono fs, nw r m⟩
theorem OwnN.mono' {p : Addr} {rs : List Addr} {xss : List (List D)} (h : OwnN c F H p rs xss) (fs : Same F F') (nw : ∀ a ∈ p :: rs, Th F' a) (sub : Same F' H') (hp : ∀ a vs, a ∈ p :: rs → H a = some (.lst vs) → H' a = some (.lst vs)) : OwnN c F' H' p rs xss :=
  h.mono fs (fun a m => by
    obtain ⟨_, vs, e⟩ := h.at a m
    exact (nw a m).none sub (hp a vs m e) fun _ z => by cases z) hp
/-- what the frame keeps for a list of lists -/
def KeptN (W : Fm) (as : List Addr) : Prop := ∀ a ∈ as, ¬ W.B a ∧ ∃ t, W.H0 a = some (.tbl t)
theorem SlotOk.mono {x : Option (Option V)} {s : Slot} (h : SlotOk c W F H x s) (fs : Same F F') (k : ∀ p, x = some (some (.ref p)) → Own c F H p s → Own c F' H' p s) (kn : ∀ p rs xss, KeptN W (p :: rs) → OwnN c F H p rs xss → OwnN c F' H' p rs xss) : SlotOk c W F' H' x s := by
  cases s with
  | u => exact trivial
  | e _ =>
    obtain ⟨a, cls, od, e1, e2, x⟩ := h
    exact ⟨a, cls, od, e1, e2, x.mono fs⟩
  | oo _ =>
    obtain ⟨p, rs, e1, e2, e3, e4⟩ := h
    exact ⟨p, rs, e1, e2, e3, kn p rs _ e3 e4⟩
  | al _ => exact h
  | d d =>
    obtain ⟨v, e, r⟩ := h
    exact ⟨v, e, r.mono fs⟩
  | o _ => obtain ⟨p, e, r, b⟩ := h; exact ⟨p, e, k p e r, b⟩
  | q _ => obtain ⟨p, e, r, b⟩ := h; exact ⟨p, e, k p e r, b⟩
  | qt _ => obtain ⟨p, e, r, b⟩ := h; exact ⟨p, e, k p e r, b⟩
theorem Rel.grow (R : Rel c W F H σ ρ) (g : Grow F H F' H') : Rel c W F' H' σ ρ where
  sub := g.sub
  nt := g.nt
  tab := R.tab.ext g.hs
  len := R.len
  here := fun i s e => (R.here i s e).mono g.fs (fun p _ h => by
    exact h.mono' g.fs (g.nw p (th0 h.at.1) h.bl) g.sub fun o e _ => g.hs p o e) fun p rs xss _ h => h.mono' g.fs (fun a m => by
      obtain ⟨f, vs, e⟩ := h.at a m
      exact g.nw a (th0 f) (by rw [bl_of e fun _ z => by cases z]; intro z; cases z)) g.sub fun a vs _ e => g.hs a _ e
  dis := R.dis
  wb := R.wb
  pa := R.pa
  lo := R.lo
  st := fun a e => R.st a (bl_free (fun b o h _ => g.hs b o h) e)
  kp := fun a o h1 h2 h3 => g.hs a o (R.kp a o h1 h2 h3)
  f0 := fun a o e => g.fs a o (R.f0 a o e)
  nf := fun a h1 h2 => g.nw a (R.nf a h1 h2) fun e => h2 (R.st a e)
theorem Grow.refl (h : Same F H) (n : ∀ a ps, F a ≠ some (.tbl ps)) : Grow F H F H := ⟨Same.refl _, h, n, fun _ e _ => e, Same.refl _⟩
theorem Grow.trans {F2 H2 : Hp} (a : Grow F H F1 H1) (b : Grow F1 H1 F2 H2) : Grow F H F2 H2 :=
  ⟨a.fs.trans b.fs, b.sub, b.nt, fun x e h => b.nw x (a.nw x e h) fun z => h (bl_free (fun b o h _ => a.hs b o h) z), a.hs.trans b.hs⟩
/-- a new object that is frozen at once; one that is not -/
theorem Grow.new (h : Same F H) (n : ∀ a ps, F a ≠ some (.tbl ps)) {p : Addr} {o : HO} (hp : H p = none) (ho : ∀ ps, o ≠ .tbl ps) : Grow F H (upd F p o) (upd H p o) := by
  have fp : F p = none := h.free hp
  refine ⟨fun a u e => ?_, fun a u e => ?_, fun a ps => ?_, fun a e k => ?_, fun a u e => ?_⟩
  · rw [upd_ne (ne_of_none e fp)]; exact e
  · by_cases q : a = p
    · subst q; rw [upd_same] at e ⊢; exact e
    · rw [upd_ne q] at e ⊢; exact h a u e
  · by_cases q : a = p
    · subst q; rw [upd_same]; exact fun z => ho ps (Option.some.inj z)
    · rw [upd_ne q]; exact n a ps
  · have q : a ≠ p := fun z => k (by rw [z]; exact bl_none hp)
    exact th_upd q e
  · rw [upd_ne (ne_of_none e hp)]; exact e
theorem Grow.side (h : Same F H) (n : ∀ a ps, F a ≠ some (.tbl ps)) {p : Addr} {o : HO} (hp : H p = none) : Grow F H F (upd H p o) :=
  ⟨Same.refl _, fun a u e => by rw [upd_ne (ne_of_none (h a u e) hp)]; exact h a u e, n, fun _ e _ => e, fun a u e => by rw [upd_ne (ne_of_none e hp)]; exact e⟩
end Pl
namespace Pl
open PySem PySem.Spec PyProof.Rows L2
variable {α β γ : Type} {c : Cn} {E : WX}
/-! ## A. judgements -/
def Post (c : Cn) (W : Fm) (F : Hp) (σ : L2.St) (E : WX) (rel : Hp → α → β → Prop) (r : Rs α) (Q : β → Hp → Prop) : Prop := match r with
  | .ok a ρ' => ∀ F' H' b, Rel c W F' H' σ ρ' → Same F F' → rel F' a b → Q b H'
  | .ex e ρ' => ∀ F' H' cls od, Rel c W F' H' σ ρ' → Same F F' → XRep c F' H' e cls od → E cls od σ H'
  | .bad => False
section
variable {W : Fm} {F : Hp} {σ : L2.St} {rel : Hp → α → β → Prop} {rel2 : Hp → γ → δ → Prop} {Q Q' : β → Hp → Prop} {δ : Type} {Q2 : δ → Hp → Prop} {r : Rs α}
theorem Post.mono (h : Post c W F σ E rel r Q) (k : ∀ b H, Q b H → Q' b H) : Post c W F σ E rel r Q' := by
  cases r with
  | ok a ρ' => exact fun F' H' b h1 h2 h3 => k _ _ (h F' H' b h1 h2 h3)
  | ex e ρ' => exact h
  | bad => exact h
theorem Post.up {F1 : Hp} (s : Same F F1) (h : Post c W F σ E rel r Q) : Post c W F1 σ E rel r Q := by
  cases r with
  | ok a ρ' => exact fun F' H' b h1 h2 h3 => h F' H' b h1 (s.trans h2) h3
  | ex e ρ' => exact fun F' H' cls od h1 h2 h3 => h F' H' cls od h1 (s.trans h2) h3
  | bad => exact h
theorem Post.bind {m : M α} {g : α → M γ} {ρ : Env} {rel2 : Hp → γ → δ → Prop} (rel : Hp → α → β → Prop) (h : Post c W F σ E rel2 (M.bind m g ρ) Q2) :
    Post c W F σ E rel (m ρ) fun b H1 => ∃ a ρ1 F1, Rel c W F1 H1 σ ρ1 ∧ Same F F1 ∧ rel F1 a b ∧ Post c W F1 σ E rel2 (g a ρ1) Q2 := by
  unfold M.bind at h
  revert h
  cases m ρ with
  | ok a ρ' => exact fun h F' H' b h1 h2 h3 => ⟨a, ρ', F', h1, h2, h3, h.up h2⟩
  | ex e ρ' => exact fun h => h
  | bad => exact fun h => h
theorem Post.lift {m : Option α} {ρ : Env} (h : Post c W F σ E rel (M.lift m ρ) Q) : ∃ a, m = some a ∧ ∀ F' H' b, Rel c W F' H' σ ρ → Same F F' → rel F' a b → Q b H' := by
  cases m with
  | none => exact h.elim
  | some a => exact ⟨a, rfl, h⟩
end
def Ex (c : Cn) (E : WX) (t : TE) (f : M D) : Prop := ∀ W F H σ ρ Q, Rel c W F H σ ρ → Post c W F σ E (Rep c.K) (f ρ) Q → t σ H Q
def Tx (c : Cn) (E : WX) (t : TT) (f : M Bool) : Prop := ∀ W F H σ ρ Q, Rel c W F H σ ρ → Post c W F σ E (fun _ a b => b = a) (f ρ) Q → t σ H Q
def Ax (c : Cn) (E : WX) (t : TA) (f : M (List D)) : Prop := ∀ W F H σ ρ Q, Rel c W F H σ ρ → Post c W F σ E (RepL c.K) (f ρ) Q → t σ H Q
/-! ## B. names, constants, pure operations -/
def eVar (i : Nat) : M D := fun ρ => match ρ[i]? with
  | some (.d x) => .ok x ρ
  | _ => .bad
def eCon (d : D) : M D := fun ρ => .ok d ρ
def eOp (g : D → D → Option D) (a b : M D) : M D := a.bind fun x => b.bind fun y => M.lift (g x y)
def eUn (g : D → Option D) (a : M D) : M D := a.bind fun x => M.lift (g x)
def eIf (t : M Bool) (a b : M D) : M D := t.bind fun k => if k = true then a else b
def tTru (g : D → Option Bool) (a : M D) : M Bool := a.bind fun x => M.lift (g x)
def isBl : D → Option Bool
  | .bl b => some b
  | _ => none
def tAndB (a b : M Bool) : M Bool := a.bind fun k => if k = true then b else M.pure false
def tOrB (a b : M Bool) : M Bool := a.bind fun k => if k = true then M.pure true else b
def tNotB (a : M Bool) : M Bool := a.bind fun k => M.pure (!k)
def eAnd (a b : M D) : M D := a.bind fun x => (M.lift (isBl x)).bind fun k => if k = true then b else M.pure (.bl false)
def eOr (a b : M D) : M D := a.bind fun x => (M.lift (isBl x)).bind fun k => if k = true then M.pure (.bl true) else b
def eNot (a : M D) : M D := a.bind fun x => (M.lift (isBl x)).bind fun k => M.pure (.bl (!k))
def eChain (g g' : D → D → Option D) (a b d : M D) : M D := a.bind fun x => b.bind fun y => (M.lift (g x y)).bind fun z => (M.lift (isBl z)).bind fun k => if k = true then d.bind fun w => M.lift (g' y w) else M.pure (.bl false)
def aNil : M (List D) := M.pure []
def aCons (a : M D) (r : M (List D)) : M (List D) := a.bind fun x => r.bind fun xs => M.pure (x :: xs)
def eTup (a : M (List D)) : M D := a.bind fun xs => M.lift (if xs.length ≤ 100000 then some (.tup xs) else none)
def eLst (a : M (List D)) : M D := a.bind fun xs => M.lift (if xs.length ≤ 100000 then some (.lst xs) else none)
def eCall (g : List D → Option D) (a : M (List D)) : M D := a.bind fun xs => M.lift (g xs)
/-- the frozen part lies in the heap and has no tables -/
def Fz (F H : Hp) : Prop := Same F H ∧ ∀ a ps, F a ≠ some (.tbl ps)
theorem Rel.fz {W : Fm} {F H : Hp} {σ : L2.St} {ρ : Env} (R : Rel c W F H σ ρ) : Fz F H := ⟨R.sub, R.nt⟩
theorem Fz.refl {F H : Hp} (h : Fz F H) : Grow F H F H := Grow.refl h.1 h.2
theorem Fz.new {F H : Hp} (h : Fz F H) {p : Addr} {o : HO} (hp : H p = none) (ho : ∀ ps, o ≠ .tbl ps) : Grow F H (upd F p o) (upd H p o) := Grow.new h.1 h.2 hp ho
/-- what a pure operation is, by the data -/
def rD (K : PySem.W.Frag) (g : D → D → Option D) : R2 := fun x y H Q => ∃ F d e z, Fz F H ∧ Rep K F d x ∧ Rep K F e y ∧ g d e = some z ∧ ∀ F' H' v, Grow F H F' H' → Rep K F' z v → Q v H'
def uD (K : PySem.W.Frag) (g : D → Option D) : V → Hp → VK → Prop := fun x H Q => ∃ F d z, Fz F H ∧ Rep K F d x ∧ g d = some z ∧ ∀ F' H' v, Grow F H F' H' → Rep K F' z v → Q v H'
def cD (K : PySem.W.Frag) (g : List D → Option D) : List V → Hp → VK → Prop := fun xs H Q => ∃ F ds z, Fz F H ∧ RepL K F ds xs ∧ g ds = some z ∧ ∀ F' H' v, Grow F H F' H' → Rep K F' z v → Q v H'
section
variable {t ta tb td : TE} {tA : TA} {f fa fb fd : M D} {fA : M (List D)} {tT tU : TT} {fT fU : M Bool}
theorem ex_var {i : Nat} : Ex c E (tVar i) (eVar i) := by
  intro W F H σ ρ Q R h
  unfold eVar at h
  cases e : ρ[i]? with
  | none => rw [e] at h; exact h.elim
  | some s =>
    rw [e] at h
    cases s with
    | d x =>
      obtain ⟨v, e1, r⟩ := R.here i _ e
      exact ⟨v, e1, h F H v R (Same.refl _) r⟩
    | _ => exact h.elim
theorem ex_con {d : D} {v : V} (r : ∀ F, Rep c.K F d v) : Ex c E (tC v) (eCon d) := fun W F H σ ρ Q R h => h F H v R (Same.refl _) (r F)
theorem ex_op {g : D → D → Option D} (ha : Ex c E ta fa) (hb : Ex c E tb fb) : Ex c E (tOp (rD c.K g) ta tb) (eOp g fa fb) := by
  intro W F H σ ρ Q R h
  refine ha W F H σ ρ _ R ((h.bind (Rep c.K)).mono fun x H1 ⟨d, ρ1, F1, R1, s1, r1, h1⟩ => ?_)
  refine hb W F1 H1 σ ρ1 _ R1 ((h1.bind (Rep c.K)).mono fun y H2 ⟨e, ρ2, F2, R2, s2, r2, h2⟩ => ?_)
  obtain ⟨z, e1, k⟩ := h2.lift
  exact ⟨F2, d, e, z, R2.fz, r1.mono s2, r2, e1, fun F' H' v gr rv => k F' H' v (R2.grow gr) gr.fs rv⟩
theorem ex_un {g : D → Option D} (ha : Ex c E ta fa) : Ex c E (tUn (uD c.K g) ta) (eUn g fa) := by
  intro W F H σ ρ Q R h
  refine ha W F H σ ρ _ R ((h.bind (Rep c.K)).mono fun x H1 ⟨d, ρ1, F1, R1, s1, r1, h1⟩ => ?_)
  obtain ⟨z, e1, k⟩ := h1.lift
  exact ⟨F1, d, z, R1.fz, r1, e1, fun F' H' v gr rv => k F' H' v (R1.grow gr) gr.fs rv⟩
theorem ex_if (hT : Tx c E tT fT) (ha : Ex c E ta fa) (hb : Ex c E tb fb) : Ex c E (tIf tT ta tb) (eIf fT fa fb) := by
  intro W F H σ ρ Q R h
  refine hT W F H σ ρ _ R ((h.bind (fun _ a b => b = a)).mono fun k H1 ⟨k', ρ1, F1, R1, s1, r1, h1⟩ => ?_)
  subst r1
  cases k with
  | true => exact ha W F1 H1 σ ρ1 _ R1 h1
  | false => exact hb W F1 H1 σ ρ1 _ R1 h1
theorem rep_bl {K : PySem.W.Frag} {F : Hp} {x : D} {v : V} {k : Bool} (r : Rep K F x v) (e : isBl x = some k) : v = .bl k := by
  cases x with
  | bl b =>
    cases e
    exact r
  | _ => cases e
theorem tx_bool {f : M D} (ha : Ex c E ta f) : Tx c E (tB ta) (tTru isBl f) := by
  intro W F H σ ρ Q R h
  refine ha W F H σ ρ _ R ((h.bind (Rep c.K)).mono fun x H1 ⟨d, ρ1, F1, R1, s1, r1, h1⟩ => ?_)
  obtain ⟨k, e1, q⟩ := h1.lift
  exact ⟨k, rep_bl r1 e1, q F1 H1 k R1 (Same.refl _) rfl⟩
theorem tx_test {f : M D} (ha : Ex c E ta f) : Tx c E (tTest ta) (tTru isBl f) := tx_bool ha
def truD : D → Option Bool
  | .non => some false
  | .bl b => some b
  | .int i => some (i != 0)
  | .str x => if x.length ≤ 100000 then some ((x.length : Int) != 0) else none
  | .tup xs => some (!xs.isEmpty)
  | .lst xs => some (!xs.isEmpty)
  | .dct ks _ => some (!ks.isEmpty)
  | _ => none
theorem h100 : (100000 : Nat) ≤ sizeLine := by decide
theorem isEmpty_len {α β : Type} {xs : List α} {ys : List β} (h : xs.length = ys.length) : xs.isEmpty = ys.isEmpty := by
  cases xs <;> cases ys <;> first | rfl | cases h
theorem tru_rep {K : PySem.W.Frag} {F H : Hp} {x : D} {v : V} {k : Bool} (s : Same F H) (r : Rep K F x v) (e : truD x = some k) : TruV K v H k := by
  cases x with
  | non => cases e; cases r; rfl
  | bl b => cases e; cases r; rfl
  | int i => cases e; cases r; rfl
  | str y =>
    cases r
    have e : (if y.length ≤ 100000 then some ((y.length : Int) != 0) else none) = some k := e
    split at e
    · cases e
      exact ⟨Nat.le_trans (by assumption) h100, rfl⟩
    · cases e
  | tup xs =>
    obtain ⟨a, vs, h1, h2, h3⟩ := r
    cases e
    subst h1
    exact .inr (.inl ⟨vs, sqT_mono s h2.sq, by rw [isEmpty_len h3.len]⟩)
  | lst xs =>
    obtain ⟨a, vs, h1, h2, h3⟩ := r
    cases e
    subst h1
    exact .inl ⟨vs, .of (s _ _ h2), by rw [isEmpty_len h3.len]⟩
  | dct ks ds =>
    obtain ⟨a, us, h1, h2, h3, h4⟩ := r
    cases e
    subst h1
    have hl : ks.isEmpty = us.isEmpty := isEmpty_len (by rw [← h3, List.length_map])
    exact .inr (.inr ⟨us, s _ _ h2, by rw [hl]⟩)
  | rf w => cases e
  | scr ns => cases e
theorem tx_tru {f : M D} (ha : Ex c E ta f) : Tx c E (fun σ H Q => ta σ H fun x H' => ∃ k, TruV c.K x H' k ∧ Q k H') (tTru truD f) := by
  intro W F H σ ρ Q R h
  refine ha W F H σ ρ _ R ((h.bind (Rep c.K)).mono fun x H1 ⟨d, ρ1, F1, R1, s1, r1, h1⟩ => ?_)
  obtain ⟨k, e1, q⟩ := h1.lift
  exact ⟨k, tru_rep R1.sub r1 e1, q F1 H1 k R1 (Same.refl _) rfl⟩
theorem tx_and (hT : Tx c E tT fT) (hU : Tx c E tU fU) : Tx c E (tAnd tT tU) (tAndB fT fU) := by
  intro W F H σ ρ Q R h
  refine hT W F H σ ρ _ R ((h.bind (fun _ a b => b = a)).mono fun k H1 ⟨k', ρ1, F1, R1, s1, r1, h1⟩ => ?_)
  subst r1
  cases k with
  | true => exact hU W F1 H1 σ ρ1 _ R1 h1
  | false => exact h1 F1 H1 false R1 (Same.refl _) rfl
theorem tx_or (hT : Tx c E tT fT) (hU : Tx c E tU fU) : Tx c E (tOr tT tU) (tOrB fT fU) := by
  intro W F H σ ρ Q R h
  refine hT W F H σ ρ _ R ((h.bind (fun _ a b => b = a)).mono fun k H1 ⟨k', ρ1, F1, R1, s1, r1, h1⟩ => ?_)
  subst r1
  cases k with
  | true => exact h1 F1 H1 true R1 (Same.refl _) rfl
  | false => exact hU W F1 H1 σ ρ1 _ R1 h1
theorem tx_not (hT : Tx c E tT fT) : Tx c E (tNot tT) (tNotB fT) := by
  intro W F H σ ρ Q R h
  refine hT W F H σ ρ _ R ((h.bind (fun _ a b => b = a)).mono fun k H1 ⟨k', ρ1, F1, R1, s1, r1, h1⟩ => ?_)
  subst r1
  exact h1 F1 H1 _ R1 (Same.refl _) rfl
theorem ex_and (ha : Ex c E ta fa) (hb : Ex c E tb fb) : Ex c E (tAndV ta tb) (eAnd fa fb) := by
  intro W F H σ ρ Q R h
  refine ha W F H σ ρ _ R ((h.bind (Rep c.K)).mono fun x H1 ⟨d, ρ1, F1, R1, s1, r1, h1⟩ => ?_)
  obtain ⟨k, ρ2, F2, R2, s2, r2, h2⟩ : ∃ k ρ2 F2, Rel c W F2 H1 σ ρ2 ∧ Same F1 F2 ∧ isBl d = some k ∧ Post c W F2 σ E (Rep c.K) ((if k = true then fb else M.pure (.bl false)) ρ2) Q := by
    cases e : isBl d with
    | none => rw [e] at h1; exact h1.elim
    | some k => rw [e] at h1; exact ⟨k, ρ1, F1, R1, Same.refl _, rfl, h1⟩
  refine ⟨k, rep_bl r1 r2, ?_⟩
  cases k with
  | true => exact hb W F2 H1 σ ρ2 _ R2 h2
  | false => exact h2 F2 H1 _ R2 (Same.refl _) rfl
theorem ex_or (ha : Ex c E ta fa) (hb : Ex c E tb fb) : Ex c E (tOrV ta tb) (eOr fa fb) := by
  intro W F H σ ρ Q R h
  refine ha W F H σ ρ _ R ((h.bind (Rep c.K)).mono fun x H1 ⟨d, ρ1, F1, R1, s1, r1, h1⟩ => ?_)
  obtain ⟨k, ρ2, F2, R2, s2, r2, h2⟩ : ∃ k ρ2 F2, Rel c W F2 H1 σ ρ2 ∧ Same F1 F2 ∧ isBl d = some k ∧ Post c W F2 σ E (Rep c.K) ((if k = true then M.pure (.bl true) else fb) ρ2) Q := by
    cases e : isBl d with
    | none => rw [e] at h1; exact h1.elim
    | some k => rw [e] at h1; exact ⟨k, ρ1, F1, R1, Same.refl _, rfl, h1⟩
  refine ⟨k, rep_bl r1 r2, ?_⟩
  cases k with
  | true => exact h2 F2 H1 _ R2 (Same.refl _) rfl
  | false => exact hb W F2 H1 σ ρ2 _ R2 h2
theorem ex_not (ha : Ex c E ta fa) : Ex c E (tNotV ta) (eNot fa) := by
  intro W F H σ ρ Q R h
  refine ha W F H σ ρ _ R ((h.bind (Rep c.K)).mono fun x H1 ⟨d, ρ1, F1, R1, s1, r1, h1⟩ => ?_)
  cases e : isBl d with
  | none => rw [e] at h1; exact h1.elim
  | some k =>
    rw [e] at h1
    exact ⟨k, rep_bl r1 e, h1 F1 H1 _ R1 (Same.refl _) rfl⟩
theorem ex_chain {g g' : D → D → Option D} (ha : Ex c E ta fa) (hb : Ex c E tb fb) (hd : Ex c E td fd) : Ex c E (tChain (rD c.K g) (rD c.K g') ta tb td) (eChain g g' fa fb fd) := by
  intro W F H σ ρ Q R h
  refine ha W F H σ ρ _ R ((h.bind (Rep c.K)).mono fun x H1 ⟨d, ρ1, F1, R1, s1, r1, h1⟩ => ?_)
  refine hb W F1 H1 σ ρ1 _ R1 ((h1.bind (Rep c.K)).mono fun y H2 ⟨e, ρ2, F2, R2, s2, r2, h2⟩ => ?_)
  cases e1 : g d e with
  | none => rw [e1] at h2; exact h2.elim
  | some z =>
    rw [e1] at h2
    cases e2 : isBl z with
    | none =>
      have h3 : Post c W F2 σ E (Rep c.K) (((M.lift (isBl z)).bind fun k => if k = true then fd.bind fun w => M.lift (g' e w) else M.pure (.bl false)) ρ2) Q := h2
      rw [e2] at h3
      exact h3.elim
    | some k =>
      have h3 : Post c W F2 σ E (Rep c.K) (((M.lift (isBl z)).bind fun k => if k = true then fd.bind fun w => M.lift (g' e w) else M.pure (.bl false)) ρ2) Q := h2
      rw [e2] at h3
      refine ⟨F2, d, e, z, R2.fz, r1.mono s2, r2, e1, fun F3 H3 v gr rv => ⟨k, rep_bl rv e2, ?_⟩⟩
      have R3 := R2.grow gr
      have h4 := Post.up gr.fs h3
      cases k with
      | false =>
        rw [if_neg Bool.false_ne_true]
        exact h4 F3 H3 _ R3 (Same.refl _) rfl
      | true =>
        rw [if_pos rfl]
        have h5 : Post c W F3 σ E (Rep c.K) ((fd.bind fun w => M.lift (g' e w)) ρ2) Q := h4
        refine hd W F3 H3 σ ρ2 _ R3 ((h5.bind (Rep c.K)).mono fun w H4 ⟨d4, ρ4, F4, R4, s4, r4, h6⟩ => ?_)
        obtain ⟨z4, e4, k4⟩ := h6.lift
        exact ⟨F4, e, d4, z4, R4.fz, (r2.mono gr.fs).mono s4, r4, e4, fun F' H' v gr rv => k4 F' H' v (R4.grow gr) gr.fs rv⟩
theorem ax_nil : Ax c E tNil aNil := fun W F H σ ρ Q R h => h F H [] R (Same.refl _) rfl
theorem ax_cons (ha : Ex c E ta fa) (hr : Ax c E tA fA) : Ax c E (tCons ta tA) (aCons fa fA) := by
  intro W F H σ ρ Q R h
  refine ha W F H σ ρ _ R ((h.bind (Rep c.K)).mono fun x H1 ⟨d, ρ1, F1, R1, s1, r1, h1⟩ => ?_)
  refine hr W F1 H1 σ ρ1 _ R1 ((h1.bind (RepL c.K)).mono fun xs H2 ⟨ds, ρ2, F2, R2, s2, r2, h2⟩ => ?_)
  exact h2 F2 H2 _ R2 (Same.refl _) (.cons (r1.mono s2) r2)
theorem ex_tup (ha : Ax c E tA fA) : Ex c E (tTup tA) (eTup fA) := by
  intro W F H σ ρ Q R h
  refine ha W F H σ ρ _ R ((h.bind (RepL c.K)).mono fun xs H1 ⟨ds, ρ1, F1, R1, s1, r1, h1⟩ => ?_)
  obtain ⟨z, e1, k⟩ := h1.lift
  split at e1
  · cases e1
    refine ⟨by rw [← r1.len]; exact Nat.le_trans (by assumption) h100, fun p hp => ?_⟩
    have g := R1.fz.new (o := .tup xs) hp fun _ z => by cases z
    exact k _ _ _ (R1.grow g) g.fs ⟨p, xs, rfl, .inl upd_same, r1.mono g.fs⟩
  · cases e1
theorem ex_lst (ha : Ax c E tA fA) : Ex c E (tLst tA) (eLst fA) := by
  intro W F H σ ρ Q R h
  refine ha W F H σ ρ _ R ((h.bind (RepL c.K)).mono fun xs H1 ⟨ds, ρ1, F1, R1, s1, r1, h1⟩ => ?_)
  obtain ⟨z, e1, k⟩ := h1.lift
  split at e1
  · cases e1
    refine ⟨by rw [← r1.len]; exact Nat.le_trans (by assumption) h100, fun p hp => ?_⟩
    have g := R1.fz.new (o := .lst xs) hp fun _ z => by cases z
    exact k _ _ _ (R1.grow g) g.fs ⟨p, xs, rfl, upd_same, r1.mono g.fs⟩
  · cases e1
theorem ex_cD {g : List D → Option D} (ha : Ax c E tA fA) : Ex c E (fun σ H Q => tA σ H fun vs H1 => cD c.K g vs H1 Q) (eCall g fA) := by
  intro W F H σ ρ Q R h
  refine ha W F H σ ρ _ R ((h.bind (RepL c.K)).mono fun xs H1 ⟨ds, ρ1, F1, R1, s1, r1, h1⟩ => ?_)
  obtain ⟨z, e1, k⟩ := h1.lift
  exact ⟨F1, ds, z, R1.fz, r1, e1, fun F' H' v gr rv => k F' H' v (R1.grow gr) gr.fs rv⟩
end
end Pl
namespace Pl
open PySem PySem.Spec PyProof.Rows L2
variable {α β γ : Type} {c : Cn} {E : WX} {W : Fm} {F H : Hp} {σ : L2.St} {ρ : Env}
/-! ## C. changes of an environment -/
theorem set_at {α : Type} {l : List α} {i j : Nat} {x y : α} (h : (l.set i x)[j]? = some y) : (i = j ∧ i < l.length ∧ x = y) ∨ (i ≠ j ∧ l[j]? = some y) := by
  by_cases e : i = j
  · subst e
    have hi : i < l.length := by
      have := (List.getElem?_eq_some_iff.mp h).1
      rwa [List.length_set] at this
    rw [List.getElem?_set_self hi] at h
    exact .inl ⟨rfl, hi, Option.some.inj h⟩
  · rw [List.getElem?_set_ne e] at h
    exact .inr ⟨e, h⟩
theorem Rel.store {d : D} {v : V} (R : Rel c W F H σ ρ) (r : Rep c.K F d v) (i : Nat) : Rel c W F H (σ.set i (some v)) (ρ.set i (.d d)) where
  sub := R.sub
  nt := R.nt
  tab := R.tab
  len := by rw [List.length_set, List.length_set, R.len]
  here := fun j s e => by
    rcases set_at e with ⟨e1, e2, e3⟩ | ⟨e1, e2⟩
    · subst e1 e3
      exact ⟨v, by rw [List.getElem?_set_self (by rw [R.len]; exact e2)], r⟩
    · rw [List.getElem?_set_ne e1]
      exact R.here j s e2
  dis := fun j k s t p e1 e2 o1 o2 a1 a2 => by
    rcases set_at e1 with ⟨_, _, z⟩ | ⟨n1, e1⟩
    · subst z; cases o1
    · rcases set_at e2 with ⟨_, _, z⟩ | ⟨n2, e2⟩
      · subst z; cases o2
      · rw [List.getElem?_set_ne n1] at a1
        rw [List.getElem?_set_ne n2] at a2
        exact R.dis j k s t p e1 e2 o1 o2 a1 a2
  wb := R.wb
  pa := fun j p h => ⟨(R.pa j p h).1, fun s e o => by
    rcases set_at e with ⟨_, _, z⟩ | ⟨n1, e1⟩
    · subst z; cases o
    · rw [List.getElem?_set_ne n1]
      exact (R.pa j p h).2 s e1 o⟩
  lo := fun j s p h e o a => by
    rcases set_at e with ⟨_, _, z⟩ | ⟨n1, e1⟩
    · subst z; cases o
    · rw [List.getElem?_set_ne n1] at a
      exact R.lo j s p h e1 o a
  st := R.st
  kp := R.kp
  f0 := R.f0
  nf := R.nf
/-- a fresh object comes to a name -/
theorem Rel.got {p : Addr} {o : HO} {s : Slot} {i : Nat} (R : Rel c W F H σ ρ) (hp : H p = none) (hi : W.np ≤ i) (h : Own c F (upd H p o) p s) : Rel c W F (upd H p o) (σ.set i (some (.ref p))) (ρ.set i s) := by
  have R1 := R.grow (Grow.side (o := o) R.sub R.nt hp)
  have ne : ∀ (j : Nat) (t : Slot), ρ[j]? = some t → t.own = true → σ[j]? ≠ some (some (.ref p)) := fun j t e ot z => by
    obtain ⟨q, e1, e2, _⟩ := (R.here j t e).own ot
    rw [z] at e1
    cases e1
    exact e2.there hp
  refine ⟨R1.sub, R1.nt, R1.tab, by rw [List.length_set, List.length_set, R.len], fun j t e => ?_, fun j k t u q e1 e2 o1 o2 a1 a2 => ?_, R.wb, fun j q m => ⟨(R.pa j q m).1, fun t e ot => ?_⟩, fun j t q hj e ot a => ?_, R1.st, R1.kp, R1.f0, R1.nf⟩
  · rcases set_at e with ⟨e1, e2, e3⟩ | ⟨e1, e2⟩
    · subst e1 e3
      exact .of_own (List.getElem?_set_self (by rw [R.len]; exact e2)) h (R.wb p (R.st p (bl_none hp)))
    · rw [List.getElem?_set_ne e1]
      exact R1.here j t e2
  · rcases set_at e1 with ⟨n1, l1, z1⟩ | ⟨n1, e1⟩
    · rcases set_at e2 with ⟨n2, l2, z2⟩ | ⟨n2, e2⟩
      · rw [← n1, ← n2]
      · subst n1
        rw [List.getElem?_set_self (by rw [R.len]; exact l1)] at a1
        rw [List.getElem?_set_ne n2] at a2
        cases a1
        exact absurd a2 (ne k u e2 o2)
    · rw [List.getElem?_set_ne n1] at a1
      rcases set_at e2 with ⟨n2, l2, z2⟩ | ⟨n2, e2⟩
      · subst n2
        rw [List.getElem?_set_self (by rw [R.len]; exact l2)] at a2
        cases a2
        exact absurd a1 (ne j t e1 o1)
      · rw [List.getElem?_set_ne n2] at a2
        exact R.dis j k t u q e1 e2 o1 o2 a1 a2
  · rcases set_at e with ⟨n1, _, _⟩ | ⟨n1, e1⟩
    · have := (R.pa j q m).1
      omega
    · rw [List.getElem?_set_ne n1]
      exact (R.pa j q m).2 t e1 ot
  · rcases set_at e with ⟨n1, l1, _⟩ | ⟨n1, e1⟩
    · subst n1
      rw [List.getElem?_set_self (by rw [R.len]; exact l1)] at a
      cases a
      exact R.st p (bl_none hp)
    · rw [List.getElem?_set_ne n1] at a
      exact R.lo j t q hj e1 ot a
theorem tabS_put {p P : Addr} {q : Str} {o o' : HO} (t : LamX.TabS H P q) (e : H p = some o) (n1 : ∀ ps, o ≠ .tbl ps) (n2 : ∀ φ, o ≠ .ext φ) : LamX.TabS (upd H p o') P q := by
  obtain ⟨ps, h1, h2, h3⟩ := t
  refine ⟨ps, ?_, h2, fun pos cv hc => ?_⟩
  · rw [upd_ne (fun z => by rw [z, e] at h1; exact n1 _ (Option.some.inj h1))]
    exact h1
  · obtain ⟨c, e1, e2⟩ := h3 pos cv hc
    refine ⟨c, e1, ?_⟩
    rw [upd_ne (fun z => by rw [z, e] at e2; exact n2 _ (Option.some.inj e2))]
    exact e2
theorem Own.plain {p : Addr} {s : Slot} (h : Own c F H p s) : ∃ o, H p = some o ∧ (∀ ps, o ≠ .tbl ps) ∧ ∀ φ, o ≠ .ext φ := by
  cases s with
  | u => exact h.elim
  | e _ => exact h.elim
  | oo _ => exact h.elim
  | al _ => exact h.elim
  | d _ => exact h.elim
  | o ds => obtain ⟨vs, h1, h2, h3⟩ := h; exact ⟨_, h1, (fun _ z => by cases z), (fun _ z => by cases z)⟩
  | q kvs => obtain ⟨us, h1, h2, h3, h4⟩ := h; exact ⟨_, h1, (fun _ z => by cases z), (fun _ z => by cases z)⟩
  | qt kvs => obtain ⟨us, h1, h2, h3, h4⟩ := h; exact ⟨_, h1, (fun _ z => by cases z), (fun _ z => by cases z)⟩
/-- an address that nothing but its name knows is written -/
theorem Rel.write {p : Addr} {o o' : HO} (R : Rel c W F H σ ρ) (e : H p = some o) (n1 : ∀ ps, o ≠ .tbl ps) (n2 : ∀ φ, o ≠ .ext φ) (n3 : ∀ ps, o' ≠ .tbl ps) (fp : F p = none) (b : W.B p) (h : ∀ (j : Nat) (t : Slot), ρ[j]? = some t → t.own = true → σ[j]? = some (some (.ref p)) → Own c F (upd H p o') p t) : Rel c W F (upd H p o') σ ρ where
  sub := fun a u q => by rw [upd_ne (fun z => by rw [z, fp] at q; cases q)]; exact R.sub a u q
  nt := R.nt
  tab := fun q hq => tabS_put (R.tab q hq) e n1 n2
  len := R.len
  here := fun j t q => by
    cases t with
    | u => exact trivial
    | e _ => exact R.here j _ q
    | al _ => exact R.here j _ q
    | oo _ =>
      obtain ⟨a, rs, e1, e2, e3, e4⟩ := R.here j _ q
      exact ⟨a, rs, e1, e2, e3, e4.mono (Same.refl _) (fun x m => (e4.at x m).1) fun x vs m ex => by rw [upd_ne (fun z => (e3 x m).1 (by rw [z]; exact b))]; exact ex⟩
    | d d => exact R.here j _ q
    | o _ =>
      obtain ⟨a, e1, e2, e3⟩ := R.here j _ q
      by_cases z : a = p
      · rw [z] at e1 e3
        exact ⟨p, e1, h j _ q rfl e1, e3⟩
      · exact ⟨a, e1, e2.mono (Same.refl _) e2.at.1 fun o k _ => by rw [upd_ne z]; exact k, e3⟩
    | q _ =>
      obtain ⟨a, e1, e2, e3⟩ := R.here j _ q
      by_cases z : a = p
      · rw [z] at e1 e3
        exact ⟨p, e1, h j _ q rfl e1, e3⟩
      · exact ⟨a, e1, e2.mono (Same.refl _) e2.at.1 fun o k _ => by rw [upd_ne z]; exact k, e3⟩
    | qt _ =>
      obtain ⟨a, e1, e2, e3⟩ := R.here j _ q
      by_cases z : a = p
      · rw [z] at e1 e3
        exact ⟨p, e1, h j _ q rfl e1, e3⟩
      · exact ⟨a, e1, e2.mono (Same.refl _) e2.at.1 fun o k _ => by rw [upd_ne z]; exact k, e3⟩
  dis := R.dis
  wb := R.wb
  pa := R.pa
  lo := R.lo
  st := fun a q => R.st a (by
    by_cases z : a = p
    · rw [z, bl_of upd_same n3] at q; cases q
    · unfold bl at q ⊢
      rw [upd_ne z] at q; exact q)
  kp := fun a u h1 h2 h3 => by rw [upd_ne (fun z => h1 (by rw [z]; exact b))]; exact R.kp a u h1 h2 h3
  f0 := R.f0
  nf := R.nf
/-- the object of a name is changed -/
theorem Rel.put {i : Nat} {p : Addr} {s s' : Slot} {o' : HO} (R : Rel c W F H σ ρ) (e : ρ[i]? = some s) (so : s.own = true) (a : σ[i]? = some (some (.ref p))) (h : Own c F (upd H p o') p s') : Rel c W F (upd H p o') σ (ρ.set i s') := by
  obtain ⟨q, e1, e2, e3⟩ := (R.here i s e).own so
  rw [a] at e1
  cases e1
  obtain ⟨o, k1, k2, k3⟩ := e2.plain
  have hi : i < ρ.length := (List.getElem?_eq_some_iff.mp e).1
  have so' : s'.own = true := h.at.2.2
  refine ⟨fun b u q => ?_, R.nt, fun q hq => tabS_put (R.tab q hq) k1 k2 k3, by rw [List.length_set, R.len], fun j t q => ?_, fun j k t u q f1 f2 o1 o2 a1 a2 => ?_, R.wb, fun j q m => ⟨(R.pa j q m).1, fun t f ot => ?_⟩, fun j t q hj f ot b => ?_, fun b q => R.st b ?_, fun b u h1 h2 h3 => ?_, R.f0, R.nf⟩
  · rw [upd_ne (fun z => by rw [z, e2.at.1] at q; cases q)]
    exact R.sub b u q
  · rcases set_at q with ⟨n1, l1, z1⟩ | ⟨n1, q1⟩
    · subst n1 z1
      exact .of_own a h e3
    · refine (R.here j t q1).mono (Same.refl _) (fun r f k => ?_) fun q' rs xss kp h => h.mono (Same.refl _) (fun x m => (h.at x m).1) fun x vs m ex => by rw [upd_ne (fun z => (kp x m).1 (by rw [z]; exact e3))]; exact ex
      have z : r ≠ p := fun z => by
        rw [z] at f
        exact n1 (R.dis i j s t p e q1 so k.at.2.2 a f)
      exact k.mono (Same.refl _) k.at.1 fun o f _ => by rw [upd_ne z]; exact f
  · rcases set_at f1 with ⟨n1, _, _⟩ | ⟨n1, f1⟩
    · rcases set_at f2 with ⟨n2, _, _⟩ | ⟨n2, f2⟩
      · rw [← n1, ← n2]
      · subst n1
        exact R.dis i k s u q e f2 so o2 a1 a2
    · rcases set_at f2 with ⟨n2, _, _⟩ | ⟨n2, f2⟩
      · subst n2
        exact R.dis j i t s q f1 e o1 so a1 a2
      · exact R.dis j k t u q f1 f2 o1 o2 a1 a2
  · rcases set_at f with ⟨n1, _, _⟩ | ⟨n1, f1⟩
    · subst n1
      exact (R.pa i q m).2 s e so
    · exact (R.pa j q m).2 t f1 ot
  · rcases set_at f with ⟨n1, _, _⟩ | ⟨n1, f1⟩
    · subst n1
      exact R.lo i s q hj e so b
    · exact R.lo j t q hj f1 ot b
  · by_cases z : b = p
    · rw [z] at q
      exact absurd q h.bl
    · unfold bl at q ⊢
      rw [upd_ne z] at q; exact q
  · rw [upd_ne (fun z => h1 (by rw [z]; exact e3))]
    exact R.kp b u h1 h2 h3
/-- a list, a dict of the frame's own is frozen -/
def frz : Slot → Option D
  | .o ds => some (.lst ds)
  | .q kvs => some (.dct (kvs.map (·.1)) (kvs.map (·.2)))
  | _ => none
theorem Rel.freeze {i : Nat} {s : Slot} {d : D} (R : Rel c W F H σ ρ) (hi : W.np ≤ i) (e : ρ[i]? = some s) (ed : frz s = some d) : ∃ F', Same F F' ∧ Rel c W F' H σ (ρ.set i (.d d)) := by
  have so : s.own = true := by cases s <;> first | rfl | cases ed
  obtain ⟨p, a, h, b⟩ := (R.here i s e).own so
  have h0 : W.H0 p = none := R.lo i s p hi e so a
  have fp := h.at.1
  obtain ⟨o, eo, n1, n2⟩ := h.plain
  have sm : Same F (upd F p o) := fun a u q => by rw [upd_ne (ne_of_none q fp)]; exact q
  have rp : Rep c.K (upd F p o) d (.ref p) := by
    cases s with
    | u => cases ed
    | e _ => cases ed
    | oo _ => cases ed
    | al _ => cases ed
    | d _ => cases ed
    | qt _ => cases ed
    | o ds =>
      obtain ⟨vs, h1, h2, h3⟩ := h
      cases ed
      rw [eo] at h1
      cases h1
      exact ⟨p, vs, rfl, upd_same, h2.mono sm⟩
    | q kvs =>
      obtain ⟨us, h1, h2, h3, h4⟩ := h
      cases ed
      rw [eo] at h1
      cases h1
      exact ⟨p, us, rfl, upd_same, h2, h3.mono sm⟩
  refine ⟨upd F p o, sm, fun x u q => ?_, fun x ps => ?_, R.tab, by rw [List.length_set, R.len], fun j t q => ?_, fun j k t u q f1 f2 o1 o2 a1 a2 => ?_, R.wb, fun j q m => ⟨(R.pa j q m).1, fun t f ot => ?_⟩, fun j t q hj f ot b => ?_, R.st, R.kp, fun x u q => sm x u (R.f0 x u q), fun x h1 h2 => ?_⟩
  · by_cases z : x = p
    · rw [z, upd_same] at q; rw [z, eo]; exact q
    · rw [upd_ne z] at q; exact R.sub x u q
  · by_cases z : x = p
    · rw [z, upd_same]; exact fun w => n1 ps (Option.some.inj w)
    · rw [upd_ne z]; exact R.nt x ps
  · rcases set_at q with ⟨n1, l1, z1⟩ | ⟨n1, q1⟩
    · subst n1 z1
      exact ⟨.ref p, a, rp⟩
    · refine (R.here j t q1).mono sm (fun r f k => ?_) fun q' rs xss kp h => h.mono sm (fun x m => by rw [upd_ne (fun z => (kp x m).1 (by rw [z]; exact b))]; exact (h.at x m).1) fun x vs m ex => ex
      have z : r ≠ p := fun z => by
        rw [z] at f
        exact n1 (R.dis i j s t p e q1 so k.at.2.2 a f)
      exact k.mono sm (by rw [upd_ne z]; exact k.at.1) fun o f _ => f
  · rcases set_at f1 with ⟨_, _, z⟩ | ⟨n1, f1⟩
    · subst z; cases o1
    · rcases set_at f2 with ⟨_, _, z⟩ | ⟨n2, f2⟩
      · subst z; cases o2
      · exact R.dis j k t u q f1 f2 o1 o2 a1 a2
  · rcases set_at f with ⟨_, _, z⟩ | ⟨n1, f1⟩
    · subst z; cases ot
    · exact (R.pa j q m).2 t f1 ot
  · rcases set_at f with ⟨_, _, z⟩ | ⟨n1, f1⟩
    · subst z; cases ot
    · exact R.lo j t q hj f1 ot b
  · exact th_upd (fun z => h2 (by rw [z]; exact h0)) (R.nf x h1 h2)
end Pl
namespace Pl
open PySem PySem.Spec PyProof.Rows L2
variable {α β γ : Type} {c : Cn} {E : WX} {np : Nat}
/-! ## D. statements -/
inductive Ct where
  | nx | rt (d : D) | rn (ds : List D) | bk | ct
abbrev S := M Ct
/-- at p lies a list of the data ds that nobody else knows -/
structure Fresh (c : Cn) (W : Fm) (F H : Hp) (σ : L2.St) (ρ : Env) (p : Addr) (ds : List D) : Prop where
  own : OwnL c F H p ds
  h0 : W.H0 p = none
  no : ∀ (j : Nat) (t : Slot), ρ[j]? = some t → t.own = true → σ[j]? ≠ some (some (.ref p))
def SPost (c : Cn) (W : Fm) (F : Hp) (E : WX) (D : Ends) (r : Rs Ct) : Prop := match r with
  | .ok .nx ρ' => ∀ F' H' σ', Rel c W F' H' σ' ρ' → Same F F' → D.nx σ' H'
  | .ok (.rt d) ρ' => ∀ F' H' σ' v, Rel c W F' H' σ' ρ' → Same F F' → Rep c.K F' d v → D.rt v H'
  | .ok (.rn ds) ρ' => ∀ F' H' σ' p, Rel c W F' H' σ' ρ' → Same F F' → Fresh c W F' H' σ' ρ' p ds → D.rt (.ref p) H'
  | .ok .bk ρ' => ∀ F' H' σ', Rel c W F' H' σ' ρ' → Same F F' → D.bk σ' H'
  | .ok .ct ρ' => ∀ F' H' σ', Rel c W F' H' σ' ρ' → Same F F' → D.ct σ' H'
  | .ex e ρ' => ∀ F' H' σ' cls od, Rel c W F' H' σ' ρ' → Same F F' → XRep c F' H' e cls od → E cls od σ' H'
  | .bad => False
section
variable {W : Fm} {F : Hp} {D : Ends}
theorem SPost.up {F1 : Hp} {r : Rs Ct} (s : Same F F1) (h : SPost c W F E D r) : SPost c W F1 E D r := by
  cases r with
  | ok k ρ' =>
    cases k with
    | nx => exact fun F' H' σ' h1 h2 => h F' H' σ' h1 (s.trans h2)
    | rt d => exact fun F' H' σ' v h1 h2 h3 => h F' H' σ' v h1 (s.trans h2) h3
    | rn ds => exact fun F' H' σ' v h1 h2 h3 => h F' H' σ' v h1 (s.trans h2) h3
    | bk => exact fun F' H' σ' h1 h2 => h F' H' σ' h1 (s.trans h2)
    | ct => exact fun F' H' σ' h1 h2 => h F' H' σ' h1 (s.trans h2)
  | ex e ρ' => exact fun F' H' σ' cls od h1 h2 h3 => h F' H' σ' cls od h1 (s.trans h2) h3
  | bad => exact h
theorem SPost.bind {σ : L2.St} {m : M α} {g : α → S} {ρ : Env} (rel : Hp → α → β → Prop) (h : SPost c W F E D (M.bind m g ρ)) :
    Post c W F σ E rel (m ρ) fun b H1 => ∃ a ρ1 F1, Rel c W F1 H1 σ ρ1 ∧ Same F F1 ∧ rel F1 a b ∧ SPost c W F1 E D (g a ρ1) := by
  unfold M.bind at h
  revert h
  cases m ρ with
  | ok a ρ' => exact fun h F' H' b h1 h2 h3 => ⟨a, ρ', F', h1, h2, h3, h.up h2⟩
  | ex e ρ' => exact fun h F' H' cls od h1 h2 h3 => h F' H' σ cls od h1 h2 h3
  | bad => exact fun h => h
end
def Sx (c : Cn) (E : WX) (np : Nat) (t : TS) (g : S) : Prop := ∀ W F H σ ρ D, W.np = np → Rel c W F H σ ρ → SPost c W F E D (g ρ) → t D σ H
/-- a target; the places that it stores to -/
def Gx (c : Cn) (g : TG) (is : List Nat) (gd : D → Env → Option Env) : Prop := ∀ W F H σ ρ d v ρ' Q, Rel c W F H σ ρ → Rep c.K F d v → gd d ρ = some ρ' →
  (∀ F' H' σ', Rel c W F' H' σ' ρ' → Same F F' → σ'.length = σ.length → (∀ j, j ∉ is → σ'[j]? = σ[j]?) → Q σ' H') → g v σ H Q
def Gxs (c : Cn) (g : TGs) (is : List Nat) (gd : List D → Env → Option Env) : Prop := ∀ W F H σ ρ ds vs ρ' Q, Rel c W F H σ ρ → RepL c.K F ds vs → gd ds ρ = some ρ' →
  (∀ F' H' σ', Rel c W F' H' σ' ρ' → Same F F' → σ'.length = σ.length → (∀ j, j ∉ is → σ'[j]? = σ[j]?) → Q σ' H') → g vs σ H Q
def sSeq (s t : S) : S := s.bind fun k => match k with
  | .nx => t
  | k => M.pure k
def sNext : S := M.pure .nx
def sIf (t : M Bool) (a b : S) : S := t.bind fun k => if k = true then a else b
def sRet (e : M D) : S := e.bind fun d => M.pure (.rt d)
def sDrop (e : M D) : S := e.bind fun _ => M.pure .nx
def sAsg (gd : D → Env → Option Env) (e : M D) : S := e.bind fun d ρ => match gd d ρ with
  | some ρ' => .ok .nx ρ'
  | none => .bad
def sBad : S := fun _ => .bad
def nmD (i : Nat) (d : D) (ρ : Env) : Option Env := some (ρ.set i (.d d))
def nilD (ds : List D) (ρ : Env) : Option Env := match ds with
  | [] => some ρ
  | _ => none
def consD (g : D → Env → Option Env) (gs : List D → Env → Option Env) (ds : List D) (ρ : Env) : Option Env := match ds with
  | [] => none
  | d :: ds => (g d ρ).bind (gs ds)
def tupD (n : Nat) (gs : List D → Env → Option Env) (d : D) (ρ : Env) : Option Env := match d with
  | .tup ds => if ds.length = n then gs ds ρ else none
  | _ => none
def lstD (n : Nat) (gs : List D → Env → Option Env) (d : D) (ρ : Env) : Option Env := match d with
  | .lst ds => if ds.length = n then gs ds ρ else none
  | _ => none
section
variable {t u ts : TS} {g gu : S} {te : TE} {f : M D} {tT : TT} {fT : M Bool}
theorem sx_next : Sx c E np tNext sNext := fun W F H σ ρ D _ R h => h F H σ R (Same.refl _)
theorem sx_seq (h1 : Sx c E np t g) (h2 : Sx c E np u gu) : Sx c E np (tSeq t u) (sSeq g gu) := by
  intro W F H σ ρ D hn R h
  refine h1 W F H σ ρ { D with nx := u D } hn R ?_
  unfold sSeq M.bind at h
  revert h
  cases g ρ with
  | ok k ρ' =>
    cases k with
    | nx => exact fun h F' H' σ' R' s => h2 W F' H' σ' ρ' D hn R' (h.up s)
    | rt d => exact fun h => h
    | rn ds => exact fun h => h
    | bk => exact fun h => h
    | ct => exact fun h => h
  | ex e ρ' => exact fun h => h
  | bad => exact fun h => h
theorem sx_if (hT : Tx c E tT fT) (h1 : Sx c E np t g) (h2 : Sx c E np u gu) : Sx c E np (tIfS tT t u) (sIf fT g gu) := by
  intro W F H σ ρ D hn R h
  refine hT W F H σ ρ _ R ((h.bind (fun _ a b => b = a)).mono fun k H1 ⟨k', ρ1, F1, R1, s1, r1, q⟩ => ?_)
  subst r1
  cases k with
  | true => exact h1 W F1 H1 σ ρ1 D hn R1 q
  | false => exact h2 W F1 H1 σ ρ1 D hn R1 q
theorem sx_ret (he : Ex c E te f) : Sx c E np (tRet te) (sRet f) := by
  intro W F H σ ρ D hn R h
  refine he W F H σ ρ _ R ((h.bind (Rep c.K)).mono fun v H1 ⟨d, ρ1, F1, R1, s1, r1, q⟩ => ?_)
  exact q F1 H1 σ v R1 (Same.refl _) r1
theorem sx_retN : Sx c E np tRetN (M.pure (.rt .non)) := fun W F H σ ρ D _ R h => h F H σ .non R (Same.refl _) rfl
theorem sx_drop (he : Ex c E te f) : Sx c E np (tDrop te) (sDrop f) := by
  intro W F H σ ρ D hn R h
  refine he W F H σ ρ _ R ((h.bind (Rep c.K)).mono fun v H1 ⟨d, ρ1, F1, R1, s1, r1, q⟩ => ?_)
  exact q F1 H1 σ R1 (Same.refl _)
theorem sx_break : Sx c E np tBreak (M.pure .bk) := fun W F H σ ρ D _ R h => h F H σ R (Same.refl _)
theorem sx_cont : Sx c E np tCont (M.pure .ct) := fun W F H σ ρ D _ R h => h F H σ R (Same.refl _)
theorem sx_never : Sx c E np tNever sBad := fun W F H σ ρ D _ R h => h
theorem gx_name {i : Nat} : Gx c (gName i) [i] (nmD i) := by
  intro W F H σ ρ d v ρ' Q R r e k
  cases e
  exact k F H _ (R.store r i) (Same.refl _) (by rw [List.length_set]) fun j hj => by
    rw [List.getElem?_set_ne]
    intro z
    exact hj (by rw [z]; exact List.mem_cons_self ..)
theorem gxs_nil : Gxs c gNil [] nilD := by
  intro W F H σ ρ ds vs ρ' Q R r e k
  cases ds with
  | nil =>
    have r : vs = [] := r
    cases e
    exact ⟨r, k F H σ R (Same.refl _) rfl fun _ _ => rfl⟩
  | cons d ds => cases e
theorem gxs_cons {g : TG} {gs : TGs} {is js : List Nat} {gd : D → Env → Option Env} {gds : List D → Env → Option Env} (h1 : Gx c g is gd) (h2 : Gxs c gs js gds) : Gxs c (gCons g gs) (is ++ js) (consD gd gds) := by
  intro W F H σ ρ ds vs ρ' Q R r e k
  cases ds with
  | nil => cases e
  | cons d ds =>
    obtain ⟨v, vr, e1, r1, r2⟩ := r
    have e : (gd d ρ).bind (gds ds) = some ρ' := e
    cases e2 : gd d ρ with
    | none => rw [e2] at e; cases e
    | some ρ1 =>
      rw [e2] at e
      refine ⟨v, vr, e1, h1 W F H σ ρ d v ρ1 _ R r1 e2 fun F1 H1 σ1 R1 s1 l1 k1 => ?_⟩
      refine h2 W F1 H1 σ1 ρ1 ds vr ρ' _ R1 (r2.mono s1) e fun F2 H2 σ2 R2 s2 l2 k2 => ?_
      exact k F2 H2 σ2 R2 (s1.trans s2) (l2.trans l1) fun j hj => (k2 j fun z => hj (List.mem_append_right _ z)).trans (k1 j fun z => hj (List.mem_append_left _ z))
theorem gx_tup {n : Nat} {gs : TGs} {is : List Nat} {gds : List D → Env → Option Env} (h : Gxs c gs is gds) : Gx c (gTup c.K n gs) is (tupD n gds) := by
  intro W F H σ ρ d v ρ' Q R r e k
  cases d with
  | tup ds =>
    obtain ⟨a, xs, e1, e2, e3⟩ := r
    have e : (if ds.length = n then gds ds ρ else none) = some ρ' := e
    split at e
    · rename_i hl
      exact ⟨a, xs, e1, sqT_mono R.sub e2.sq, by rw [← e3.len]; exact hl, h W F H σ ρ ds xs ρ' Q R e3 e k⟩
    · cases e
  | _ => cases e
theorem sx_asg {g : TG} {is : List Nat} {gd : D → Env → Option Env} (he : Ex c E te f) (hg : Gx c g is gd) : Sx c E np (tAsg te g) (sAsg gd f) := by
  intro W F H σ ρ D hn R h
  refine he W F H σ ρ _ R ((h.bind (Rep c.K)).mono fun v H1 ⟨d, ρ1, F1, R1, s1, r1, q⟩ => ?_)
  cases e : gd d ρ1 with
  | none =>
    have q : SPost c W F1 E D (match gd d ρ1 with | some ρ' => Rs.ok Ct.nx ρ' | none => Rs.bad) := q
    rw [e] at q
    exact q.elim
  | some ρ2 =>
    have q : SPost c W F1 E D (match gd d ρ1 with | some ρ' => Rs.ok Ct.nx ρ' | none => Rs.bad) := q
    rw [e] at q
    exact hg W F1 H1 σ ρ1 d v ρ2 _ R1 r1 e fun F2 H2 σ2 R2 s2 _ _ => q F2 H2 σ2 R2 s2
end
/-! ### loops -/
/-- the iterator J walks over the data ds, that lie frozen in F -/
structure WalkD (K : PySem.W.Frag) (J : It) (F : Hp) (ds : List D) : Prop where
  stop : ∀ i H, Same F H → ds.length ≤ i → J.stop i H
  go : ∀ i H, Same F H → i < ds.length → J.go i H
  yld : ∀ i H x H', Same F H → i < ds.length → J.yld i H x H' → ∃ d, ds[i]? = some d ∧ ((H' = H ∧ Rep K F d x) ∨ ∃ (T : Addr) (vs : List V) (es : List D), H T = none ∧ H' = upd H T (.tup vs) ∧ x = .ref T ∧ d = .tup es ∧ RepL K F es vs)
theorem WalkD.mono {K : PySem.W.Frag} {J : It} {F F' : Hp} {ds : List D} (w : WalkD K J F ds) (s : Same F F') : WalkD K J F' ds :=
  ⟨fun i H h => w.stop i H (s.trans h), fun i H h => w.go i H (s.trans h), fun i H x H' h hi y => by
    obtain ⟨d, e, q⟩ := w.yld i H x H' (s.trans h) hi y
    refine ⟨d, e, ?_⟩
    rcases q with ⟨q1, q2⟩ | ⟨T, vs, es, q1, q2, q3, q4, q5⟩
    · exact .inl ⟨q1, q2.mono s⟩
    · exact .inr ⟨T, vs, es, q1, q2, q3, q4, q5.mono s⟩⟩
/-- the item that a turn hands over, data again -/
theorem WalkD.turn {W : Fm} {F F1 H H' : Hp} {σ : L2.St} {ρ : Env} {J : It} {ds : List D} {i : Nat} {x : V} (w : WalkD c.K J F ds) (s : Same F F1) (R : Rel c W F1 H σ ρ) (hi : i < ds.length) (y : J.yld i H x H') :
    ∃ d F2, ds[i]? = some d ∧ Grow F1 H F2 H' ∧ Rep c.K F2 d x := by
  obtain ⟨d, e, q⟩ := w.yld i H x H' (s.trans R.sub) hi y
  rcases q with ⟨q1, q2⟩ | ⟨T, vs, es, q1, q2, q3, q4, q5⟩
  · subst q1
    exact ⟨d, F1, e, R.fz.refl, q2.mono s⟩
  · subst q2 q3 q4
    have g := R.fz.new (o := .tup vs) q1 fun _ z => by cases z
    exact ⟨_, _, e, g, T, vs, rfl, .inl upd_same, (q5.mono s).mono g.fs⟩
def Ix (c : Cn) (E : WX) (wi : TI) (f : M (List D)) : Prop := ∀ W F H σ ρ R, Rel c W F H σ ρ → Post c W F σ E (fun F' ds J => WalkD c.K J F' ds) (f ρ) R → wi σ H R
/-- behind a turn: on with k, or out -/
def again (r : Rs Ct) (k : S) : Rs Ct := match r with
  | .ok .nx ρ => k ρ
  | .ok .ct ρ => k ρ
  | .ok .bk ρ => .ok .nx ρ
  | .ok (.rt d) ρ => .ok (.rt d) ρ
  | .ok (.rn ds) ρ => .ok (.rn ds) ρ
  | .ex e ρ => .ex e ρ
  | .bad => .bad
def forL (gd : D → Env → Option Env) (body : S) : List D → S
  | [], ρ => .ok .nx ρ
  | x :: xs, ρ => match gd x ρ with
    | none => .bad
    | some ρ1 => again (body ρ1) (forL gd body xs)
def sFor (it : M (List D)) (gd : D → Env → Option Env) (body : S) : S := it.bind fun xs => forL gd body xs
theorem sx_for {wi : TI} {f : M (List D)} {g : TG} {is : List Nat} {gd : D → Env → Option Env} {tb : TS} {gb : S} (hi : Ix c E wi f) (hg : Gx c g is gd) (hb : Sx c E np tb gb) : Sx c E np (tFor wi g tb) (sFor f gd gb) := by
  intro W F H σ ρ D hn R h
  refine hi W F H σ ρ _ R ((h.bind (fun F' ds J => WalkD c.K J F' ds)).mono fun J H1 ⟨ds, ρ1, F1, R1, s1, w, q⟩ => ?_)
  refine ⟨fun i m σ2 H2 => ∃ F2 ρ2, Rel c W F2 H2 σ2 ρ2 ∧ Same F1 F2 ∧ m = ds.length - i ∧ i ≤ ds.length ∧ SPost c W F2 E D (forL gd gb (ds.drop i) ρ2), ⟨_, F1, ρ1, R1, Same.refl _, rfl, Nat.zero_le _, q⟩, ?_⟩
  rintro i m σ2 H2 ⟨F2, ρ2, R2, s2, rfl, hle, q2⟩
  by_cases hlt : i < ds.length
  · refine .inr ⟨w.go i H2 (s2.trans R2.sub) hlt, fun σ' H' => ∃ F3 ρ3, Rel c W F3 H' σ' ρ3 ∧ Same F1 F3 ∧ SPost c W F3 E D (forL gd gb (ds.drop (i + 1)) ρ3), fun σ' H' ⟨F3, ρ3, a, b, d⟩ => ⟨ds.length - (i + 1), by omega, F3, ρ3, a, b, rfl, hlt, d⟩, fun x H3 y => ?_⟩
    obtain ⟨d, F3, e, gr, r⟩ := w.turn s2 R2 hlt y
    have ed : ds.drop i = d :: ds.drop (i + 1) := by
      rw [List.getElem?_eq_getElem hlt] at e
      rw [List.drop_eq_getElem_cons hlt, Option.some.inj e]
    rw [ed] at q2
    have R3 := R2.grow gr
    cases e4 : gd d ρ2 with
    | none =>
      unfold forL at q2
      rw [e4] at q2
      exact q2.elim
    | some ρ4 =>
      unfold forL at q2
      rw [e4] at q2
      have q2 : SPost c W F2 E D (again (gb ρ4) (forL gd gb (ds.drop (i + 1)))) := q2
      refine hg W F3 H3 σ2 ρ2 d x ρ4 _ R3 r e4 fun F4 H4 σ4 R4 s4 _ _ => ?_
      have s14 : Same F1 F4 := (s2.trans gr.fs).trans s4
      refine hb W F4 H4 σ4 ρ4 _ hn R4 ?_
      have q3 := SPost.up (gr.fs.trans s4) q2
      revert q3
      cases gb ρ4 with
      | ok k ρ5 =>
        cases k with
        | nx => exact fun q3 F' H' σ' R' s' => ⟨F', ρ5, R', s14.trans s', q3.up s'⟩
        | ct => exact fun q3 F' H' σ' R' s' => ⟨F', ρ5, R', s14.trans s', q3.up s'⟩
        | bk => exact fun q3 => q3
        | rt d => exact fun q3 => q3
        | rn ds => exact fun q3 => q3
      | ex e ρ5 => exact fun q3 => q3
      | bad => exact fun q3 => q3
  · have e : i = ds.length := by omega
    subst e
    refine .inl ⟨w.stop _ H2 (s2.trans R2.sub) (Nat.le_refl _), ?_⟩
    rw [List.drop_length] at q2
    exact q2 F2 H2 σ2 R2 (Same.refl _)
/-- while, at most n turns -/
def whileN (t : M Bool) (body : S) : Nat → S
  | 0, _ => .bad
  | n + 1, ρ => match t ρ with
    | .ok false ρ1 => .ok .nx ρ1
    | .ok true ρ1 => again (body ρ1) (whileN t body n)
    | .ex e ρ1 => .ex e ρ1
    | .bad => .bad
theorem sx_while {tT : TT} {fT : M Bool} {tb : TS} {gb : S} (n : Nat) (hT : Tx c E tT fT) (hb : Sx c E np tb gb) : Sx c E np (tWhile tT tb) (whileN fT gb n) := by
  intro W F H σ ρ D hn R h
  refine ⟨fun m σ2 H2 => ∃ F2 ρ2, Rel c W F2 H2 σ2 ρ2 ∧ Same F F2 ∧ SPost c W F2 E D (whileN fT gb m ρ2), ⟨n, F, ρ, R, Same.refl _, h⟩, ?_⟩
  rintro m σ2 H2 ⟨F2, ρ2, R2, s2, q2⟩
  cases m with
  | zero => exact q2.elim
  | succ m =>
    refine hT W F2 H2 σ2 ρ2 _ R2 ?_
    unfold whileN at q2
    revert q2
    cases fT ρ2 with
    | ex e ρ3 => exact fun q3 F' H' cls od R' s' x' => q3 F' H' σ2 cls od R' s' x'
    | bad => exact fun q3 => q3
    | ok k ρ3 =>
      cases k with
      | false =>
        intro q3 F3 H3 b R3 s3 eb
        subst eb
        rw [if_neg Bool.false_ne_true]
        exact q3 F3 H3 σ2 R3 s3
      | true =>
        intro q3 F3 H3 b R3 s3 eb
        subst eb
        rw [if_pos rfl]
        refine ⟨fun σ' H' => ∃ F4 ρ4, Rel c W F4 H' σ' ρ4 ∧ Same F F4 ∧ SPost c W F4 E D (whileN fT gb m ρ4), fun σ' H' ⟨F4, ρ4, a, b, d⟩ => ⟨m, Nat.lt_succ_self _, F4, ρ4, a, b, d⟩, ?_⟩
        refine hb W F3 H3 σ2 ρ3 _ hn R3 ?_
        have q4 : SPost c W F3 E D (again (gb ρ3) (whileN fT gb m)) := SPost.up s3 q3
        have sF : Same F F3 := s2.trans s3
        revert q4
        cases gb ρ3 with
        | ok k ρ5 =>
          cases k with
          | nx => exact fun q3 F' H' σ' R' s' => ⟨F', ρ5, R', sF.trans s', q3.up s'⟩
          | ct => exact fun q3 F' H' σ' R' s' => ⟨F', ρ5, R', sF.trans s', q3.up s'⟩
          | bk => exact fun q3 => q3
          | rt d => exact fun q3 => q3
          | rn ds => exact fun q3 => q3
        | ex e ρ5 => exact fun q3 => q3
        | bad => exact fun q3 => q3
end Pl
namespace Pl
open PySem PySem.Spec PyProof.Rows L2
variable {α β γ : Type} {c : Cn} {E : WX} {np : Nat} {W : Fm} {F H : Hp} {σ : L2.St} {ρ : Env}
/-! ## E. lists just made -/
theorem Rel.nobody {p : Addr} (R : Rel c W F H σ ρ) (hp : H p = none) : ∀ (j : Nat) (t : Slot), ρ[j]? = some t → t.own = true → σ[j]? ≠ some (some (.ref p)) := fun j t e ot z => by
  obtain ⟨q, e1, e2, _⟩ := (R.here j t e).own ot
  rw [z] at e1
  cases e1
  exact e2.there hp
theorem Rel.lay {p : Addr} {vs : List V} {ds : List D} (R : Rel c W F H σ ρ) (hp : H p = none) (r : RepL c.K F ds vs) : Rel c W F (upd H p (.lst vs)) σ ρ ∧ Fresh c W F (upd H p (.lst vs)) σ ρ p ds :=
  ⟨R.grow (Grow.side R.sub R.nt hp), ⟨⟨vs, upd_same, r, R.sub.free hp⟩, R.st p (bl_none hp), R.nobody hp⟩⟩
/-- it is frozen -/
theorem Rel.chill {p : Addr} {o : HO} (R : Rel c W F H σ ρ) (e : H p = some o) (n1 : ∀ ps, o ≠ .tbl ps) (fp : F p = none) (h0 : W.H0 p = none) (no : ∀ (j : Nat) (t : Slot), ρ[j]? = some t → t.own = true → σ[j]? ≠ some (some (.ref p))) : Same F (upd F p o) ∧ Rel c W (upd F p o) H σ ρ := by
  have sm : Same F (upd F p o) := fun a u q => by rw [upd_ne (ne_of_none q fp)]; exact q
  refine ⟨sm, fun x u q => ?_, fun x ps => ?_, R.tab, R.len, fun j t q => (R.here j t q).mono sm (fun r f k => ?_) fun q' rs xss kp h => h.mono sm (fun x m => by rw [upd_ne (fun z => by obtain ⟨u, w⟩ := (kp x m).2; rw [z, h0] at w; cases w)]; exact (h.at x m).1) fun x vs m ex => ex, R.dis, R.wb, R.pa, R.lo, R.st, R.kp, fun x u q => sm x u (R.f0 x u q), fun x h1 h2 => ?_⟩
  · by_cases z : x = p
    · rw [z, upd_same] at q; rw [z, e]; exact q
    · rw [upd_ne z] at q; exact R.sub x u q
  · by_cases z : x = p
    · rw [z, upd_same]; exact fun w => n1 ps (Option.some.inj w)
    · rw [upd_ne z]; exact R.nt x ps
  · have z : r ≠ p := fun z => no j t q k.at.2.2 (by rw [f, z])
    exact k.mono sm (by rw [upd_ne z]; exact k.at.1) fun o f _ => f
  · exact th_upd (fun z => h2 (by rw [z]; exact h0)) (R.nf x h1 h2)
theorem Fresh.chill {p : Addr} {ds : List D} (R : Rel c W F H σ ρ) (h : Fresh c W F H σ ρ p ds) : ∃ F', Same F F' ∧ Rel c W F' H σ ρ ∧ Rep c.K F' (.lst ds) (.ref p) := by
  obtain ⟨vs, h1, h2, h3⟩ := h.own
  obtain ⟨s, R'⟩ := R.chill h1 (fun _ z => by cases z) h3 h.h0 h.no
  exact ⟨_, s, R', p, vs, rfl, upd_same, h2.mono s⟩
/-- it comes to a name -/
theorem Fresh.named {p : Addr} {ds : List D} {i : Nat} (R : Rel c W F H σ ρ) (h : Fresh c W F H σ ρ p ds) (hi : W.np ≤ i) : Rel c W F H (σ.set i (some (.ref p))) (ρ.set i (.o ds)) := by
  obtain ⟨own, h0, no⟩ := h
  have ne := no
  refine ⟨R.sub, R.nt, R.tab, by rw [List.length_set, List.length_set, R.len], fun j t e => ?_, fun j k t u q e1 e2 o1 o2 a1 a2 => ?_, R.wb, fun j q m => ⟨(R.pa j q m).1, fun t e ot => ?_⟩, fun j t q hj e ot a => ?_, R.st, R.kp, R.f0, R.nf⟩
  · rcases set_at e with ⟨e1, e2, e3⟩ | ⟨e1, e2⟩
    · subst e1 e3
      exact .of_own (s := .o ds) (List.getElem?_set_self (by rw [R.len]; exact e2)) own (R.wb p h0)
    · rw [List.getElem?_set_ne e1]
      exact R.here j t e2
  · rcases set_at e1 with ⟨n1, l1, z1⟩ | ⟨n1, e1⟩
    · rcases set_at e2 with ⟨n2, l2, z2⟩ | ⟨n2, e2⟩
      · rw [← n1, ← n2]
      · subst n1
        rw [List.getElem?_set_self (by rw [R.len]; exact l1)] at a1
        rw [List.getElem?_set_ne n2] at a2
        cases a1
        exact absurd a2 (ne k u e2 o2)
    · rw [List.getElem?_set_ne n1] at a1
      rcases set_at e2 with ⟨n2, l2, z2⟩ | ⟨n2, e2⟩
      · subst n2
        rw [List.getElem?_set_self (by rw [R.len]; exact l2)] at a2
        cases a2
        exact absurd a1 (ne j t e1 o1)
      · rw [List.getElem?_set_ne n2] at a2
        exact R.dis j k t u q e1 e2 o1 o2 a1 a2
  · rcases set_at e with ⟨n1, _, _⟩ | ⟨n1, e1⟩
    · have := (R.pa j q m).1
      omega
    · rw [List.getElem?_set_ne n1]
      exact (R.pa j q m).2 t e1 ot
  · rcases set_at e with ⟨n1, l1, _⟩ | ⟨n1, e1⟩
    · subst n1
      rw [List.getElem?_set_self (by rw [R.len]; exact l1)] at a
      cases a
      exact h0
    · rw [List.getElem?_set_ne n1] at a
      exact R.lo j t q hj e1 ot a
def PostF (c : Cn) (W : Fm) (F : Hp) (σ : L2.St) (E : WX) (r : Rs (List D)) (Q : VK) : Prop := match r with
  | .ok ds ρ' => ∀ F' H' p, Rel c W F' H' σ ρ' → Same F F' → Fresh c W F' H' σ ρ' p ds → Q (.ref p) H'
  | .ex e ρ' => ∀ F' H' cls od, Rel c W F' H' σ ρ' → Same F F' → XRep c F' H' e cls od → E cls od σ H'
  | .bad => False
/-- an expression that makes a new list -/
def Ef (c : Cn) (E : WX) (t : TE) (f : M (List D)) : Prop := ∀ W F H σ ρ Q, Rel c W F H σ ρ → PostF c W F σ E (f ρ) Q → t σ H Q
theorem PostF.bind {Q : VK} {m : M α} {g : α → M (List D)} (rel : Hp → α → β → Prop) (h : PostF c W F σ E (M.bind m g ρ) Q) :
    Post c W F σ E rel (m ρ) fun b H1 => ∃ a ρ1 F1, Rel c W F1 H1 σ ρ1 ∧ Same F F1 ∧ rel F1 a b ∧ PostF c W F1 σ E (g a ρ1) Q := by
  unfold M.bind at h
  revert h
  have up : ∀ {F1 : Hp} {r : Rs (List D)}, Same F F1 → PostF c W F σ E r Q → PostF c W F1 σ E r Q := fun {F1 r} s h => by
    cases r with
    | ok a ρ' => exact fun F' H' b h1 h2 h3 => h F' H' b h1 (s.trans h2) h3
    | ex e ρ' => exact fun F' H' cls od h1 h2 h3 => h F' H' cls od h1 (s.trans h2) h3
    | bad => exact h
  cases m ρ with
  | ok a ρ' => exact fun h F' H' b h1 h2 h3 => ⟨a, ρ', F', h1, h2, h3, up h2 h⟩
  | ex e ρ' => exact fun h => h
  | bad => exact fun h => h
def eFr (f : M (List D)) : M D := f.bind fun ds => M.pure (.lst ds)
theorem ex_fr {t : TE} {f : M (List D)} (h : Ef c E t f) : Ex c E t (eFr f) := by
  intro W F H σ ρ Q R q
  refine h W F H σ ρ Q R ?_
  unfold eFr M.bind at q
  revert q
  cases f ρ with
  | ok ds ρ' =>
    intro q F' H' p R' s fr
    obtain ⟨F2, s2, R2, r2⟩ := fr.chill R'
    exact q F2 H' _ R2 (s.trans s2) r2
  | ex e ρ' => exact fun q => q
  | bad => exact fun q => q
def eNew (a : M (List D)) : M (List D) := a.bind fun xs => M.lift (if xs.length ≤ 100000 then some xs else none)
theorem ef_lst {tA : TA} {fA : M (List D)} (ha : Ax c E tA fA) : Ef c E (tLst tA) (eNew fA) := by
  intro W F H σ ρ Q R h
  refine ha W F H σ ρ _ R ((h.bind (RepL c.K)).mono fun xs H1 ⟨ds, ρ1, F1, R1, s1, r1, h1⟩ => ?_)
  split at h1
  · refine ⟨by rw [← r1.len]; exact Nat.le_trans (by assumption) h100, fun p hp => ?_⟩
    obtain ⟨R2, fr⟩ := R1.lay hp r1
    exact h1 F1 _ p R2 (Same.refl _) fr
  · exact h1.elim
/-- x = a new list that will change -/
def sNew (i : Nat) (f : M (List D)) : S := f.bind fun ds ρ => .ok .nx (ρ.set i (.o ds))
theorem sx_new {t : TE} {f : M (List D)} {i : Nat} (h : Ef c E t f) (hi : np ≤ i) : Sx c E np (tAsg t (gName i)) (sNew i f) := by
  intro W F H σ ρ D hn R q
  refine h W F H σ ρ _ R ?_
  unfold sNew M.bind at q
  revert q
  cases f ρ with
  | ok ds ρ' => exact fun q F' H' p R' s fr => q F' H' _ (fr.named R' (by rw [hn]; exact hi)) s
  | ex e ρ' => exact fun q F' H' cls od R' s x => q F' H' σ cls od R' s x
  | bad => exact fun q => q
/-- return a new list -/
def sRetN (f : M (List D)) : S := f.bind fun ds => M.pure (.rn ds)
theorem sx_retNew {t : TE} {f : M (List D)} (h : Ef c E t f) : Sx c E np (tRet t) (sRetN f) := by
  intro W F H σ ρ D hn R q
  refine h W F H σ ρ _ R ?_
  unfold sRetN M.bind at q
  revert q
  cases f ρ with
  | ok ds ρ' => exact fun q F' H' p R' s fr => q F' H' σ p R' s fr
  | ex e ρ' => exact fun q F' H' cls od R' s x => q F' H' σ cls od R' s x
  | bad => exact fun q => q
/-! ### comprehensions -/
def wipeE (ρ : Env) : List Nat → Env
  | [] => ρ
  | v :: vs => (wipeE ρ vs).set v .u
def restE (ρ0 ρ : Env) : List Nat → Env
  | [] => ρ
  | v :: vs => (restE ρ0 ρ vs).set v (ρ0.getD v .u)
def calmE (ρ : Env) (vs : List Nat) : Bool := vs.all fun v => !(ρ.getD v .u).shy
theorem wipeE_length (ρ : Env) : ∀ vs : List Nat, (wipeE ρ vs).length = ρ.length
  | [] => rfl
  | v :: vs => by
    show ((wipeE ρ vs).set v .u).length = _
    rw [List.length_set, wipeE_length ρ vs]
theorem wipe_get {σ : L2.St} {j : Nat} : ∀ {vs : List Nat}, j ∉ vs → (wipe σ vs)[j]? = σ[j]?
  | [], _ => rfl
  | v :: vs, h => by
    show ((wipe σ vs).set v none)[j]? = _
    rw [List.getElem?_set_ne (fun z => h (by rw [z]; exact List.mem_cons_self ..))]
    exact wipe_get fun z => h (List.mem_cons_of_mem _ z)
theorem wipeE_get {ρ : Env} {j : Nat} : ∀ {vs : List Nat}, j ∉ vs → (wipeE ρ vs)[j]? = ρ[j]?
  | [], _ => rfl
  | v :: vs, h => by
    show ((wipeE ρ vs).set v .u)[j]? = _
    rw [List.getElem?_set_ne (fun z => h (by rw [z]; exact List.mem_cons_self ..))]
    exact wipeE_get fun z => h (List.mem_cons_of_mem _ z)
theorem wipeE_in {ρ : Env} {j : Nat} {s : Slot} : ∀ {vs : List Nat}, j ∈ vs → (wipeE ρ vs)[j]? = some s → s = .u
  | [], h, _ => by cases h
  | v :: vs, h, e => by
    have e : ((wipeE ρ vs).set v .u)[j]? = some s := e
    rcases set_at e with ⟨_, _, z⟩ | ⟨n, e⟩
    · exact z.symm
    · exact wipeE_in (by
        rcases List.mem_cons.mp h with z | z
        · exact absurd z.symm n
        · exact z) e
theorem wipe_ext {σ σ2 : L2.St} {vs : List Nat} (hl : σ2.length = σ.length) (h : ∀ j, j ∉ vs → σ2[j]? = σ[j]?) : wipe σ2 vs = wipe σ vs := by
  have inn : ∀ (σ : L2.St) (vs : List Nat) (j : Nat), j ∈ vs → (wipe σ vs)[j]? = if j < σ.length then some none else none := by
    intro σ vs
    induction vs with
    | nil => intro j hj; cases hj
    | cons v vs ih =>
      intro j hj
      show ((wipe σ vs).set v none)[j]? = _
      by_cases z : v = j
      · subst z
        by_cases hlt : v < σ.length
        · rw [List.getElem?_set_self (by rw [wipe_length]; exact hlt), if_pos hlt]
        · rw [List.getElem?_eq_none (by rw [List.length_set, wipe_length]; omega), if_neg hlt]
      · rw [List.getElem?_set_ne z]
        exact ih j (by
          rcases List.mem_cons.mp hj with w | w
          · exact absurd w.symm z
          · exact w)
  refine List.ext_getElem? fun j => ?_
  by_cases hj : j ∈ vs
  · rw [inn _ _ _ hj, inn _ _ _ hj, hl]
  · rw [wipe_get hj, wipe_get hj]
    exact h j hj
theorem Rel.wiped (R : Rel c W F H σ ρ) (vs : List Nat) : Rel c W F H (wipe σ vs) (wipeE ρ vs) := by
  have key : ∀ (j : Nat) (s : Slot), (wipeE ρ vs)[j]? = some s → s.own = true → j ∉ vs ∧ ρ[j]? = some s ∧ (wipe σ vs)[j]? = σ[j]? := fun j s e o => by
    by_cases h : j ∈ vs
    · rw [wipeE_in h e] at o
      cases o
    · exact ⟨h, by rw [← wipeE_get h]; exact e, wipe_get h⟩
  refine ⟨R.sub, R.nt, R.tab, by rw [wipe_length, wipeE_length, R.len], fun j s e => ?_, fun j k s t p e1 e2 o1 o2 a1 a2 => ?_, R.wb, fun j p m => ⟨(R.pa j p m).1, fun s e o => ?_⟩, fun j s p hj e o a => ?_, R.st, R.kp, R.f0, R.nf⟩
  · by_cases h : j ∈ vs
    · rw [wipeE_in h e]
      exact trivial
    · rw [wipe_get h]
      exact R.here j s (by rw [← wipeE_get h]; exact e)
  · obtain ⟨_, q1, w1⟩ := key j s e1 o1
    obtain ⟨_, q2, w2⟩ := key k t e2 o2
    rw [w1] at a1
    rw [w2] at a2
    exact R.dis j k s t p q1 q2 o1 o2 a1 a2
  · obtain ⟨_, q1, w1⟩ := key j s e o
    rw [w1]
    exact (R.pa j p m).2 s q1 o
  · obtain ⟨_, q1, w1⟩ := key j s e o
    rw [w1] at a
    exact R.lo j s p hj q1 o a
theorem restE_length (ρ0 ρ : Env) : ∀ vs : List Nat, (restE ρ0 ρ vs).length = ρ.length
  | [] => rfl
  | v :: vs => by
    show ((restE ρ0 ρ vs).set v _).length = _
    rw [List.length_set, restE_length ρ0 ρ vs]
theorem restE_get {ρ0 ρ : Env} {j : Nat} {s : Slot} : ∀ {vs : List Nat}, (restE ρ0 ρ vs)[j]? = some s → (j ∈ vs ∧ s = ρ0.getD j .u) ∨ (j ∉ vs ∧ ρ[j]? = some s)
  | [], e => .inr ⟨by simp, e⟩
  | v :: vs, e => by
    have e : ((restE ρ0 ρ vs).set v (ρ0.getD v .u))[j]? = some s := e
    rcases set_at e with ⟨n, _, z⟩ | ⟨n, e⟩
    · subst n
      exact .inl ⟨List.mem_cons_self .., z.symm⟩
    · rcases restE_get e with ⟨a, b⟩ | ⟨a, b⟩
      · exact .inl ⟨List.mem_cons_of_mem _ a, b⟩
      · exact .inr ⟨fun z => by
          rcases List.mem_cons.mp z with z | z
          · exact n z.symm
          · exact a z, b⟩
/-- behind a comprehension: its names are what they were -/
theorem Rel.back {F0 H0 : Hp} {ρ1 : Env} {vs : List Nat} (R0 : Rel c W F0 H0 σ ρ) (hc : calmE ρ vs = true) (s : Same F0 F) (R : Rel c W F H (wipe σ vs) (wipeE ρ1 vs)) : Rel c W F H σ (restE ρ ρ1 vs) := by
  have calm2 : ∀ j, j ∈ vs → (ρ.getD j .u).shy = false := fun j hj => by
    have := List.all_eq_true.mp hc j hj
    simpa using this
  have calm : ∀ j, j ∈ vs → (ρ.getD j .u).own = false := fun j hj => shy_own (calm2 j hj)
  have key : ∀ (j : Nat) (t : Slot), (restE ρ ρ1 vs)[j]? = some t → t.own = true → (wipeE ρ1 vs)[j]? = some t ∧ (wipe σ vs)[j]? = σ[j]? := fun j t e o => by
    rcases restE_get e with ⟨a, b⟩ | ⟨a, b⟩
    · rw [b, calm j a] at o
      cases o
    · exact ⟨by rw [wipeE_get a]; exact b, wipe_get a⟩
  have hl : ρ1.length = ρ.length := by
    have h1 := R.len
    rw [wipe_length, wipeE_length] at h1
    rw [← h1, R0.len]
  refine ⟨R.sub, R.nt, R.tab, by rw [restE_length, R0.len, hl], fun j t e => ?_, fun j k t u p e1 e2 o1 o2 a1 a2 => ?_, R.wb, fun j p m => ⟨(R.pa j p m).1, fun t e o => ?_⟩, fun j t p hj e o a => ?_, R.st, R.kp, R.f0, R.nf⟩
  · rcases restE_get e with ⟨a, b⟩ | ⟨a, b⟩
    · have hj : j < ρ.length := by
        have := (List.getElem?_eq_some_iff.mp e).1
        rw [restE_length] at this
        omega
      have e0 : ρ[j]? = some t := by
        rw [b, List.getD_eq_getElem?_getD, List.getElem?_eq_getElem hj]
        rfl
      have o0 : t.own = false := by rw [b]; exact calm j a
      have o2 : t.shy = false := by rw [b]; exact calm2 j a
      have h0 := R0.here j t e0
      cases t with
      | u => exact trivial
      | e _ =>
        obtain ⟨a, cls, od, e1, e2, x⟩ := h0
        exact ⟨a, cls, od, e1, e2, x.mono s⟩
      | oo _ => cases o2
      | al _ => exact h0
      | d d =>
        obtain ⟨v, e1, r⟩ := h0
        exact ⟨v, e1, r.mono s⟩
      | o _ => cases o0
      | q _ => cases o0
      | qt _ => cases o0
    · have := R.here j t (by rw [wipeE_get a]; exact b)
      rw [wipe_get a] at this
      exact this
  · obtain ⟨q1, w1⟩ := key j t e1 o1
    obtain ⟨q2, w2⟩ := key k u e2 o2
    rw [← w1] at a1
    rw [← w2] at a2
    exact R.dis j k t u p q1 q2 o1 o2 a1 a2
  · obtain ⟨q1, w1⟩ := key j t e o
    rw [← w1]
    exact (R.pa j p m).2 t q1 o
  · obtain ⟨q1, w1⟩ := key j t e o
    rw [← w1] at a
    exact R.lo j t p hj q1 o a
/-- while an element is reckoned, the list so far is out of reach -/
def Fm.ward (W : Fm) (p : Addr) (o : HO) : Fm := { W with B := fun a => W.B a ∧ a ≠ p, H0 := upd W.H0 p o }
theorem Rel.ward {p : Addr} {o : HO} (R : Rel c W F H σ ρ) (e : H p = some o) (n1 : ∀ ps, o ≠ .tbl ps) (fp : F p = none) (h0 : W.H0 p = none) (no : ∀ (j : Nat) (t : Slot), ρ[j]? = some t → t.own = true → σ[j]? ≠ some (some (.ref p))) : Rel c (W.ward p o) F H σ ρ := by
  refine ⟨R.sub, R.nt, R.tab, R.len, fun j t q => ?_, R.dis, fun a q => ?_, R.pa, fun j t q hj f ot a => ?_, fun a q => ?_, fun a u h1 h2 h3 => ?_, R.f0, fun a h1 h2 => ?_⟩
  · have h := R.here j t q
    cases t with
    | u => exact trivial
    | e _ => exact h
    | al _ => exact h
    | oo _ =>
      obtain ⟨r, rs, e1, e2, e3, e4⟩ := h
      refine ⟨r, rs, e1, e2, fun x m => ⟨fun z => (e3 x m).1 z.1, ?_⟩, e4⟩
      obtain ⟨u, w⟩ := (e3 x m).2
      have z : x ≠ p := fun z => by rw [z, h0] at w; cases w
      exact ⟨u, by show upd W.H0 p o x = _; rw [upd_ne z]; exact w⟩
    | d d => exact h
    | o _ => obtain ⟨r, e1, e2, e3⟩ := h; exact ⟨r, e1, e2, e3, fun z => no j _ q rfl (by rw [e1, z])⟩
    | q _ => obtain ⟨r, e1, e2, e3⟩ := h; exact ⟨r, e1, e2, e3, fun z => no j _ q rfl (by rw [e1, z])⟩
    | qt _ => obtain ⟨r, e1, e2, e3⟩ := h; exact ⟨r, e1, e2, e3, fun z => no j _ q rfl (by rw [e1, z])⟩
  · have q : upd W.H0 p o a = none := q
    have z : a ≠ p := fun z => by rw [z, upd_same] at q; cases q
    rw [upd_ne z] at q
    exact ⟨R.wb a q, z⟩
  · have z : q ≠ p := fun z => no j t f ot (by rw [a, z])
    show upd W.H0 p o q = none
    rw [upd_ne z]
    exact R.lo j t q hj f ot a
  · have z : a ≠ p := fun z => by rw [z, bl_of e n1] at q; cases q
    show upd W.H0 p o a = none
    rw [upd_ne z]
    exact R.st a q
  · have h2 : upd W.H0 p o a = some u := h2
    by_cases z : a = p
    · rw [z, upd_same] at h2
      rw [z, e]
      exact h2
    · rw [upd_ne z] at h2
      exact R.kp a u (fun b => h1 ⟨b, z⟩) h2 h3
  · have h2 : upd W.H0 p o a ≠ none := h2
    by_cases z : a = p
    · rw [z]; exact th0 fp
    · rw [upd_ne z] at h2
      exact R.nf a h1 h2
theorem Rel.unward {p : Addr} {o : HO} (R : Rel c (W.ward p o) F H σ ρ) (n1 : ∀ ps, o ≠ .tbl ps) (n2 : ∀ xs, o ≠ .tup xs) (h0 : W.H0 p = none) (hf : W.F0 p = none) (b : W.B p) :
    Rel c W F H σ ρ ∧ H p = some o ∧ F p = none ∧ ∀ (j : Nat) (t : Slot), ρ[j]? = some t → t.own = true → σ[j]? ≠ some (some (.ref p)) := by
  have nB : ¬ (W.ward p o).B p := fun z => z.2 rfl
  refine ⟨⟨R.sub, R.nt, R.tab, R.len, fun j t q => ?_, R.dis, fun a q => ?_, R.pa, fun j t q hj f ot a => ?_, fun a q => ?_, fun a u h1 h2 h3 => ?_, R.f0, fun a h1 h2 => ?_⟩, R.kp p o nB upd_same n1, (R.nf p (th0 hf) (by show upd W.H0 p o p ≠ none; rw [upd_same]; intro z; cases z)).none R.sub (R.kp p o nB upd_same n1) n2, fun j t q ot z => ?_⟩
  · have h := R.here j t q
    cases t with
    | u => exact trivial
    | e _ => exact h
    | al _ => exact h
    | oo _ =>
      obtain ⟨r, rs, e1, e2, e3, e4⟩ := h
      refine ⟨r, rs, e1, e2, fun x m => ?_, e4⟩
      obtain ⟨nb, u, w⟩ := e3 x m
      have w : upd W.H0 p o x = some (.tbl u) := w
      have z : x ≠ p := fun z => by rw [z, upd_same] at w; exact n1 u (Option.some.inj w)
      rw [upd_ne z] at w
      exact ⟨fun y => nb ⟨y, z⟩, u, w⟩
    | d d => exact h
    | o _ => obtain ⟨r, e1, e2, e3⟩ := h; exact ⟨r, e1, e2, e3.1⟩
    | q _ => obtain ⟨r, e1, e2, e3⟩ := h; exact ⟨r, e1, e2, e3.1⟩
    | qt _ => obtain ⟨r, e1, e2, e3⟩ := h; exact ⟨r, e1, e2, e3.1⟩
  · by_cases z : a = p
    · rw [z]; exact b
    · exact (R.wb a (by show upd W.H0 p o a = none; rw [upd_ne z]; exact q)).1
  · have h : upd W.H0 p o q = none := R.lo j t q hj f ot a
    have z : q ≠ p := fun z => by rw [z, upd_same] at h; cases h
    rw [upd_ne z] at h
    exact h
  · have h : upd W.H0 p o a = none := R.st a q
    have z : a ≠ p := fun z => by rw [z, upd_same] at h; cases h
    rw [upd_ne z] at h
    exact h
  · have z : a ≠ p := fun z => by rw [z, h0] at h2; cases h2
    exact R.kp a u (fun b => h1 b.1) (by show upd W.H0 p o a = some u; rw [upd_ne z]; exact h2) h3
  · have z : a ≠ p := fun z => h2 (by rw [z]; exact h0)
    exact R.nf a h1 (by show upd W.H0 p o a ≠ none; rw [upd_ne z]; exact h2)
  · obtain ⟨r, e1, e2, e3⟩ := (R.here j t q).own ot
    rw [z] at e1
    cases e1
    exact e3.2 rfl
end Pl
namespace Pl
open PySem PySem.Spec PyProof.Rows L2
variable {α β γ : Type} {c : Cn} {E : WX} {np : Nat} {W : Fm} {F H : Hp} {σ : L2.St} {ρ : Env}
def lcL (gd : D → Env → Option Env) (tt : M Bool) (te : M D) (vs : List Nat) : List D → Env → Rs (List D)
  | [], ρ => .ok [] ρ
  | x :: xs, ρ => match gd x (wipeE ρ vs) with
    | none => .bad
    | some ρ1 => match tt ρ1 with
      | .ok false ρ2 => lcL gd tt te vs xs ρ2
      | .ok true ρ2 => match te ρ2 with
        | .ok d ρ3 => match lcL gd tt te vs xs ρ3 with
          | .ok ds ρ4 => .ok (d :: ds) ρ4
          | _ => .bad
        | _ => .bad
      | _ => .bad
def eLc (it : M (List D)) (gd : D → Env → Option Env) (tt : M Bool) (te : M D) (vs : List Nat) : M (List D) := it.bind fun xs ρ =>
  if calmE ρ vs = true then match lcL gd tt te vs xs ρ with
    | .ok ds ρ' => if ds.length ≤ 100000 then .ok ds (restE ρ ρ' vs) else .bad
    | _ => .bad
  else .bad
def E0w : WX := fun _ _ _ _ => False
theorem nobody_wiped {p : Addr} {vs : List Nat} (h : ∀ (j : Nat) (t : Slot), ρ[j]? = some t → t.own = true → σ[j]? ≠ some (some (.ref p))) : ∀ (j : Nat) (t : Slot), (wipeE ρ vs)[j]? = some t → t.own = true → (wipe σ vs)[j]? ≠ some (some (.ref p)) := fun j t e o => by
  by_cases k : j ∈ vs
  · rw [wipeE_in k e] at o
    cases o
  · rw [wipe_get k]
    exact h j t (by rw [← wipeE_get k]; exact e) o
theorem rest_own {ρ1 : Env} {vs : List Nat} (hc : calmE ρ vs = true) {j : Nat} {t : Slot} (e : (restE ρ ρ1 vs)[j]? = some t) (o : t.own = true) : (wipeE ρ1 vs)[j]? = some t ∧ (wipe σ vs)[j]? = σ[j]? := by
  rcases restE_get e with ⟨a, b⟩ | ⟨a, b⟩
  · have := List.all_eq_true.mp hc j a
    rw [b] at o
    rw [shy_own (by simpa using this)] at o
    cases o
  · exact ⟨by rw [wipeE_get a]; exact b, wipe_get a⟩
theorem ef_lc {wi : TI} {fi : M (List D)} {g : TG} {is vs : List Nat} {gd : D → Env → Option Env} {tt : TT} {ft : M Bool} {te : TE} {fe : M D} (hi : Ix c E wi fi) (hg : Gx c g is gd) (hv : ∀ j ∈ is, j ∈ vs) (ht : Tx c E0w tt ft) (he : Ex c E0w te fe) :
    Ef c E (tLc wi g tt te vs) (eLc fi gd ft fe vs) := by
  intro W F H σ ρ Q R h
  refine hi W F H σ ρ _ R ((h.bind (fun F' ds J => WalkD c.K J F' ds)).mono fun J H1 ⟨ds, ρ1, F1, R1, s1, w, q⟩ => ?_)
  obtain ⟨hc, es, ρ', hl, hz, q⟩ : calmE ρ1 vs = true ∧ ∃ es ρ', lcL gd ft fe vs ds ρ1 = .ok es ρ' ∧ es.length ≤ 100000 ∧ PostF c W F1 σ E (.ok es (restE ρ1 ρ' vs)) Q := by
    split at q
    · rename_i hc
      revert q
      cases hl : lcL gd ft fe vs ds ρ1 with
      | ok es ρ' =>
        intro q
        have q : PostF c W F1 σ E (if es.length ≤ 100000 then .ok es (restE ρ1 ρ' vs) else .bad) Q := q
        split at q
        · exact ⟨hc, es, ρ', rfl, by assumption, q⟩
        · exact q.elim
      | ex e ρ' => exact fun q => q.elim
      | bad => exact fun q => q.elim
    · exact q.elim
  intro D hD
  have h0 : W.H0 D = none := R1.st D (bl_none hD)
  have hB : W.B D := R1.wb D h0
  have hF0 : W.F0 D = none := by
    cases e : W.F0 D with
    | none => rfl
    | some o =>
      have := R1.sub D o (R1.f0 D o e)
      rw [hD] at this
      cases this
  have nt : ∀ (vs : List V) ps, HO.lst vs ≠ .tbl ps := fun _ _ z => by cases z
  have nx : ∀ (vs : List V) φ, HO.lst vs ≠ .ext φ := fun _ _ z => by cases z
  let In : Nat → Hp → Prop := fun i H2 => ∃ F2 ρ2 acc us rest, Rel c W F2 H2 (wipe σ vs) (wipeE ρ2 vs) ∧ Same F1 F2 ∧ i ≤ ds.length ∧ H2 D = some (.lst us) ∧ RepL c.K F2 acc us ∧ F2 D = none ∧
    (∀ (j : Nat) (t : Slot), (wipeE ρ2 vs)[j]? = some t → t.own = true → (wipe σ vs)[j]? ≠ some (some (.ref D))) ∧ lcL gd ft fe vs (ds.drop i) ρ2 = .ok rest ρ' ∧ acc ++ rest = es
  refine ⟨fun i m H2 => m = ds.length - i ∧ In i H2, ⟨_, rfl, F1, ρ1, [], [], es, (R1.lay hD RepL.nil).1.wiped vs, Same.refl _, Nat.zero_le _, upd_same, rfl, R1.sub.free hD, nobody_wiped (R1.nobody hD), hl, rfl⟩, ?_⟩
  rintro i m H2 ⟨rfl, F2, ρ2, acc, us, rest, R2, s2, hle, eD, ra, fD, no, hr, hes⟩
  by_cases hlt : i < ds.length
  · refine .inr ⟨w.go i H2 (s2.trans R2.sub) hlt, In (i + 1), fun H' h' => ⟨_, by omega, rfl, h'⟩, fun x H3 y => ?_⟩
    have R2' := R2.ward eD (fun _ z => by cases z) fD h0 no
    obtain ⟨d, F3, e, gr, r⟩ := w.turn s2 R2' hlt y
    have ed : ds.drop i = d :: ds.drop (i + 1) := by
      rw [List.getElem?_eq_getElem hlt] at e
      rw [List.drop_eq_getElem_cons hlt, Option.some.inj e]
    rw [ed] at hr
    unfold lcL at hr
    have R3 := R2'.grow gr
    cases e4 : gd d (wipeE ρ2 vs) with
    | none => rw [e4] at hr; cases hr
    | some ρ3 =>
      rw [e4] at hr
      refine hg _ F3 H3 (wipe σ vs) (wipeE ρ2 vs) d x ρ3 _ R3 r e4 fun F4 H4 σ4 R4 s4 l4 k4 => ?_
      have ew : wipe σ4 vs = wipe σ vs := wipe_ext (by rw [l4, wipe_length]) fun j hj => by rw [k4 j fun z => hj (hv j z), wipe_get hj]
      refine ⟨ew, ht _ F4 H4 σ4 ρ3 _ R4 ?_⟩
      have hr : (match ft ρ3 with
        | .ok false ρ2 => lcL gd ft fe vs (ds.drop (i + 1)) ρ2
        | .ok true ρ2 => match fe ρ2 with
          | .ok d ρ3 => match lcL gd ft fe vs (ds.drop (i + 1)) ρ3 with
            | .ok ds ρ4 => .ok (d :: ds) ρ4
            | _ => .bad
          | _ => .bad
        | _ => .bad) = Rs.ok rest ρ' := hr
      revert hr
      cases ft ρ3 with
      | ex e ρ5 => exact fun hr => by cases hr
      | bad => exact fun hr => by cases hr
      | ok k ρ5 =>
        cases k with
        | false =>
          intro hr F5 H5 b R5 s5 eb
          subst eb
          rw [if_neg Bool.false_ne_true]
          obtain ⟨R6, e6, f6, n6⟩ := R5.unward (nt us) (fun _ z => by cases z) h0 hF0 hB
          have R7 := R6.wiped vs
          rw [ew] at R7
          have n7 := nobody_wiped (vs := vs) n6
          rw [ew] at n7
          exact ⟨F5, ρ5, acc, us, rest, R7, ((s2.trans gr.fs).trans s4).trans s5, hlt, e6, ((ra.mono gr.fs).mono s4).mono s5, f6, n7, hr, hes⟩
        | true =>
          intro hr F5 H5 b R5 s5 eb
          subst eb
          rw [if_pos rfl]
          refine he _ F5 H5 σ4 ρ5 _ R5 ?_
          have hr : (match fe ρ5 with
            | .ok d ρ3 => match lcL gd ft fe vs (ds.drop (i + 1)) ρ3 with
              | .ok ds ρ4 => .ok (d :: ds) ρ4
              | _ => .bad
            | _ => .bad) = Rs.ok rest ρ' := hr
          revert hr
          cases fe ρ5 with
          | ex e ρ6 => exact fun hr => by cases hr
          | bad => exact fun hr => by cases hr
          | ok z ρ6 =>
            intro hr F6 H6 v R6 s6 rv
            have hr : (match lcL gd ft fe vs (ds.drop (i + 1)) ρ6 with
              | .ok ds ρ4 => .ok (z :: ds) ρ4
              | _ => .bad) = Rs.ok rest ρ' := hr
            obtain ⟨rest', h1, h2⟩ : ∃ rest', lcL gd ft fe vs (ds.drop (i + 1)) ρ6 = .ok rest' ρ' ∧ rest = z :: rest' := by
              revert hr
              cases lcL gd ft fe vs (ds.drop (i + 1)) ρ6 with
              | ok r4 ρ4 =>
                intro hr
                cases hr
                exact ⟨r4, rfl, rfl⟩
              | ex e ρ4 => exact fun hr => by cases hr
              | bad => exact fun hr => by cases hr
            subst h2
            obtain ⟨R7, e7, f7, n7⟩ := R6.unward (nt us) (fun _ z => by cases z) h0 hF0 hB
            have R8 := R7.wiped vs
            rw [ew] at R8
            have n8 := nobody_wiped (vs := vs) n7
            rw [ew] at n8
            have ra' : RepL c.K F6 acc us := (((ra.mono gr.fs).mono s4).mono s5).mono s6
            refine ⟨us, e7, ?_, F6, ρ6, acc ++ [z], us ++ [v], rest', R8.write e7 (nt us) (nx us) (nt _) f7 hB (fun j t q ot a => absurd a (n8 j t q ot)), (((s2.trans gr.fs).trans s4).trans s5).trans s6, hlt, upd_same, ra'.app (.cons rv .nil), f7, n8, h1, ?_⟩
            · have h3 : acc.length + (rest'.length + 1) ≤ 100000 := by
                rw [← hes, List.length_append, List.length_cons] at hz
                exact hz
              rw [← ra'.len]
              exact Nat.lt_of_lt_of_le (by omega) h100
            · rw [← hes, List.append_assoc]
              rfl
  · have e : i = ds.length := by omega
    subst e
    rw [List.drop_length] at hr
    cases hr
    refine .inl ⟨w.stop _ H2 (s2.trans R2.sub) (Nat.le_refl _), ?_⟩
    rw [List.append_nil] at hes
    subst hes
    refine q F2 H2 D (R1.back hc s2 R2) s2 ⟨⟨us, eD, ra, fD⟩, h0, fun j t e o => ?_⟩
    obtain ⟨q1, w1⟩ := rest_own (σ := σ) hc e o
    rw [← w1]
    exact no j t q1 o
theorem tx_yes : Tx c E tYes (M.pure true) := fun W F H σ ρ Q R h => h F H true R (Same.refl _) rfl
end Pl
namespace Pl
open PySem PySem.Spec PyProof.Rows L2
variable {α β γ : Type} {c : Cn} {E : WX} {np : Nat} {W : Fm} {F H F' H' : Hp} {σ : L2.St} {ρ : Env}
/-! ## F. calls -/
inductive Arg where
  | d (x : D) | o (i : Nat)
def ArgsOk (K : PySem.W.Frag) (F : Hp) (σ : L2.St) : List Arg → List V → Prop
  | [], vs => vs = []
  | .d x :: r, vs => ∃ v ws, vs = v :: ws ∧ Rep K F x v ∧ ArgsOk K F σ r ws
  | .o i :: r, vs => ∃ v ws, vs = v :: ws ∧ σ[i]? = some (some v) ∧ ArgsOk K F σ r ws
theorem ArgsOk.mono (s : Same F F') {K : PySem.W.Frag} : ∀ {as : List Arg} {vs : List V}, ArgsOk K F σ as vs → ArgsOk K F' σ as vs
  | [], _, h => h
  | .d x :: r, _, ⟨v, ws, h1, h2, h3⟩ => ⟨v, ws, h1, h2.mono s, ArgsOk.mono s h3⟩
  | .o i :: r, _, ⟨v, ws, h1, h2, h3⟩ => ⟨v, ws, h1, h2, ArgsOk.mono s h3⟩
theorem ArgsOk.len {K : PySem.W.Frag} : ∀ {as : List Arg} {vs : List V}, ArgsOk K F σ as vs → as.length = vs.length
  | [], _, h => by
    have h : _ = [] := h
    rw [h]
    rfl
  | .d x :: r, _, ⟨v, ws, h1, h2, h3⟩ => by rw [h1, List.length_cons, List.length_cons, ArgsOk.len h3]
  | .o i :: r, _, ⟨v, ws, h1, h2, h3⟩ => by rw [h1, List.length_cons, List.length_cons, ArgsOk.len h3]
theorem ArgsOk.getD {K : PySem.W.Frag} : ∀ {as : List Arg} {vs : List V} {j : Nat} {x : D}, ArgsOk K F σ as vs → as[j]? = some (.d x) → ∃ v, vs[j]? = some v ∧ Rep K F x v
  | [], _, _, _, _, e => by simp at e
  | .d x :: r, _, 0, _, ⟨v, ws, h1, h2, h3⟩, e => by
    simp at e
    subst e
    rw [h1]
    exact ⟨v, rfl, h2⟩
  | .o i :: r, _, 0, _, ⟨v, ws, h1, h2, h3⟩, e => by simp at e
  | .d x :: r, _, j + 1, _, ⟨v, ws, h1, h2, h3⟩, e => by
    obtain ⟨w, e1, e2⟩ := ArgsOk.getD (j := j) h3 (by simpa using e)
    rw [h1]
    exact ⟨w, by simpa using e1, e2⟩
  | .o i :: r, _, j + 1, _, ⟨v, ws, h1, h2, h3⟩, e => by
    obtain ⟨w, e1, e2⟩ := ArgsOk.getD (j := j) h3 (by simpa using e)
    rw [h1]
    exact ⟨w, by simpa using e1, e2⟩
theorem ArgsOk.getO {K : PySem.W.Frag} : ∀ {as : List Arg} {vs : List V} {j i : Nat}, ArgsOk K F σ as vs → as[j]? = some (.o i) → ∃ v, vs[j]? = some v ∧ σ[i]? = some (some v)
  | [], _, _, _, _, e => by simp at e
  | .o i :: r, _, 0, _, ⟨v, ws, h1, h2, h3⟩, e => by
    simp at e
    subst e
    rw [h1]
    exact ⟨v, rfl, h2⟩
  | .d i :: r, _, 0, _, ⟨v, ws, h1, h2, h3⟩, e => by simp at e
  | .d x :: r, _, j + 1, _, ⟨v, ws, h1, h2, h3⟩, e => by
    obtain ⟨w, e1, e2⟩ := ArgsOk.getO (j := j) h3 (by simpa using e)
    rw [h1]
    exact ⟨w, by simpa using e1, e2⟩
  | .o i :: r, _, j + 1, _, ⟨v, ws, h1, h2, h3⟩, e => by
    obtain ⟨w, e1, e2⟩ := ArgsOk.getO (j := j) h3 (by simpa using e)
    rw [h1]
    exact ⟨w, by simpa using e1, e2⟩
def Aox (c : Cn) (E : WX) (t : TA) (f : M (List Arg)) : Prop := ∀ W F H σ ρ Q, Rel c W F H σ ρ → Post c W F σ E (fun F' as vs => ArgsOk c.K F' σ as vs) (f ρ) Q → t σ H Q
def aoNil : M (List Arg) := M.pure []
def aoCons (a : M D) (r : M (List Arg)) : M (List Arg) := a.bind fun x => r.bind fun xs => M.pure (.d x :: xs)
def isOwn (ρ : Env) (i : Nat) : Bool := match ρ[i]? with
  | some s => s.own
  | none => false
def aoOwn (i : Nat) (r : M (List Arg)) : M (List Arg) := fun ρ => if isOwn ρ i = true then (r.bind fun xs => M.pure (.o i :: xs)) ρ else .bad
section
variable {ta : TE} {fa : M D} {tA : TA} {fA : M (List Arg)}
theorem ao_nil : Aox c E tNil aoNil := fun W F H σ ρ Q R h => h F H [] R (Same.refl _) rfl
theorem ao_cons (ha : Ex c E ta fa) (hr : Aox c E tA fA) : Aox c E (tCons ta tA) (aoCons fa fA) := by
  intro W F H σ ρ Q R h
  refine ha W F H σ ρ _ R ((h.bind (Rep c.K)).mono fun x H1 ⟨d, ρ1, F1, R1, s1, r1, h1⟩ => ?_)
  refine hr W F1 H1 σ ρ1 _ R1 ((h1.bind (fun F' as vs => ArgsOk c.K F' σ as vs)).mono fun xs H2 ⟨ds, ρ2, F2, R2, s2, r2, h2⟩ => ?_)
  exact h2 F2 H2 _ R2 (Same.refl _) ⟨x, xs, rfl, r1.mono s2, r2⟩
theorem ao_own {i : Nat} (hr : Aox c E tA fA) : Aox c E (tCons (tVar i) tA) (aoOwn i fA) := by
  intro W F H σ ρ Q R h
  unfold aoOwn at h
  split at h
  · rename_i ho
    obtain ⟨s, e, so⟩ : ∃ s, ρ[i]? = some s ∧ s.own = true := by
      unfold isOwn at ho
      cases e : ρ[i]? with
      | none => rw [e] at ho; cases ho
      | some s => rw [e] at ho; exact ⟨s, rfl, ho⟩
    obtain ⟨p, e1, _⟩ := (R.here i s e).own so
    refine ⟨.ref p, e1, hr W F H σ ρ _ R ((h.bind (fun F' as vs => ArgsOk c.K F' σ as vs)).mono fun xs H2 ⟨ds, ρ2, F2, R2, s2, r2, h2⟩ => ?_)⟩
    exact h2 F2 H2 _ R2 (Same.refl _) ⟨.ref p, xs, rfl, e1, r2⟩
  · exact h.elim
end
/-- a def as callers see it: from the arguments to its answer and what has become of the lists that it got -/
inductive An where
  | v (d : D) | n (ds : List D)
abbrev FnM := List Slot → Rs An
def slotsOf (ρ : Env) : List Arg → Option (List Slot)
  | [] => some []
  | .d x :: r => (slotsOf ρ r).map (Slot.d x :: ·)
  | .o i :: r => match ρ[i]? with
    | some s => if s.own = true then (slotsOf ρ r).map (s :: ·) else none
    | none => none
def ownIx : List Arg → List Nat
  | [] => []
  | .d _ :: r => ownIx r
  | .o i :: r => i :: ownIx r
def free2 : List Nat → Bool
  | [] => true
  | x :: r => !r.contains x && free2 r
def putBack (ρ : Env) : List Arg → List Slot → Env
  | .o i :: r, s :: ss => (putBack ρ r ss).set i s
  | .d _ :: r, _ :: ss => putBack ρ r ss
  | _, _ => ρ
def callM (m : FnM) (args : M (List Arg)) : M D := args.bind fun as ρ => match slotsOf ρ as with
  | none => .bad
  | some ps => if free2 (ownIx as) = true then match m ps with
    | .ok (.v d) outs => .ok d (putBack ρ as outs)
    | .ok (.n ds) outs => .ok (.lst ds) (putBack ρ as outs)
    | .ex e outs => .ex e (putBack ρ as outs)
    | .bad => .bad
    else .bad
/-- the call of a def that hands back a new list -/
def callN (m : FnM) (args : M (List Arg)) : M (List D) := args.bind fun as ρ => match slotsOf ρ as with
  | none => .bad
  | some ps => if free2 (ownIx as) = true then match m ps with
    | .ok (.n ds) outs => .ok ds (putBack ρ as outs)
    | .ok (.v _) _ => .bad
    | .ex e outs => .ex e (putBack ρ as outs)
    | .bad => .bad
    else .bad
structure ParOk (c : Cn) (F H : Hp) (ps : List Slot) (vs : List V) : Prop where
  len : ps.length = vs.length
  dat : ∀ (j : Nat) (d : D), ps[j]? = some (.d d) → ∃ v, vs[j]? = some v ∧ Rep c.K F d v
  own : ∀ (j : Nat) (s : Slot), ps[j]? = some s → s.own = true → ∃ p, vs[j]? = some (.ref p) ∧ Own c F H p s
  dis : ∀ (j k : Nat) (s t : Slot) (p : Addr), ps[j]? = some s → ps[k]? = some t → s.own = true → t.own = true → vs[j]? = some (.ref p) → vs[k]? = some (.ref p) → j = k
  noe : ∀ (j : Nat) (x : Exn), ps[j]? ≠ some (.e x)
  nop : ∀ (j : Nat) (s : Slot), ps[j]? = some s → s.isN = false
structure After (c : Cn) (F H : Hp) (ps : List Slot) (vs : List V) (outs : List Slot) (F' H' : Hp) : Prop where
  fs : Same F F'
  sub : Same F' H'
  nt : ∀ a ps, F' a ≠ some (.tbl ps)
  tab : LamX.Tabs c.T H'
  nw : ∀ a, Th F a → bl H a ≠ none → Th F' a
  hs : ∀ a o, H a = some o → (∀ ps, o ≠ .tbl ps) → (∀ (j : Nat) (s : Slot), ps[j]? = some s → s.own = true → vs[j]? ≠ some (.ref a)) → H' a = some o
  ht : ∀ a, bl H' a = none → bl H a = none
  ow : ∀ (j : Nat) (s : Slot) (p : Addr), ps[j]? = some s → s.own = true → vs[j]? = some (.ref p) → ∃ s', outs[j]? = some s' ∧ Own c F' H' p s'
def Out (c : Cn) (F H : Hp) (ps : List Slot) (vs : List V) (Q : VK) (E : XK) : Rs An → Prop
  | .ok (.v d) outs => ∀ F' H' v, After c F H ps vs outs F' H' → Rep c.K F' d v → Q v H'
  | .ok (.n ds) outs => ∀ F' H' p, After c F H ps vs outs F' H' → OwnL c F' H' p ds → bl H p = none → Q (.ref p) H'
  | .ex e outs => ∀ F' H' cls od, After c F H ps vs outs F' H' → XRep c F' H' e cls od → E cls od H'
  | .bad => False
def spM (c : Cn) (m : FnM) : Sp := fun vs H Q E => ∃ F ps, Fz F H ∧ LamX.Tabs c.T H ∧ ParOk c F H ps vs ∧ Out c F H ps vs Q E (m ps)
theorem slotsOf_at {ρ : Env} : ∀ {as : List Arg} {ps : List Slot}, slotsOf ρ as = some ps → ps.length = as.length ∧ ∀ (j : Nat) (s : Slot), ps[j]? = some s → (∃ x, as[j]? = some (.d x) ∧ s = .d x) ∨ ∃ i, as[j]? = some (.o i) ∧ ρ[i]? = some s ∧ s.own = true
  | [], ps, e => by
    cases e
    exact ⟨rfl, fun j s h => by simp at h⟩
  | .d x :: r, ps, e => by
    have e : (slotsOf ρ r).map (Slot.d x :: ·) = some ps := e
    cases er : slotsOf ρ r with
    | none => rw [er] at e; cases e
    | some qs =>
      rw [er] at e
      cases e
      obtain ⟨h1, h2⟩ := slotsOf_at er
      refine ⟨by rw [List.length_cons, List.length_cons, h1], fun j s h => ?_⟩
      cases j with
      | zero =>
        simp at h
        exact .inl ⟨x, rfl, h.symm⟩
      | succ j =>
        rcases h2 j s (by simpa using h) with ⟨y, a, b⟩ | ⟨i, a, b⟩
        · exact .inl ⟨y, by simpa using a, b⟩
        · exact .inr ⟨i, by simpa using a, b⟩
  | .o i :: r, ps, e => by
    have e : (match ρ[i]? with | some s => if s.own = true then (slotsOf ρ r).map (s :: ·) else none | none => none) = some ps := e
    cases es : ρ[i]? with
    | none => rw [es] at e; cases e
    | some t =>
      rw [es] at e
      have e : (if t.own = true then (slotsOf ρ r).map (t :: ·) else none) = some ps := e
      split at e
      · rename_i to
        cases er : slotsOf ρ r with
        | none => rw [er] at e; cases e
        | some qs =>
          rw [er] at e
          cases e
          obtain ⟨h1, h2⟩ := slotsOf_at er
          refine ⟨by rw [List.length_cons, List.length_cons, h1], fun j s h => ?_⟩
          cases j with
          | zero =>
            simp at h
            subst h
            exact .inr ⟨i, rfl, es, to⟩
          | succ j =>
            rcases h2 j s (by simpa using h) with ⟨y, a, b⟩ | ⟨i, a, b⟩
            · exact .inl ⟨y, by simpa using a, b⟩
            · exact .inr ⟨i, by simpa using a, b⟩
      · cases e
theorem ownIx_mem {i : Nat} : ∀ {as : List Arg}, i ∈ ownIx as → ∃ j : Nat, as[j]? = some (.o i)
  | [], h => by cases h
  | .d x :: r, h => by
    obtain ⟨j, e⟩ := ownIx_mem (as := r) h
    exact ⟨j + 1, by simpa using e⟩
  | .o k :: r, h => by
    rcases List.mem_cons.mp h with h | h
    · exact ⟨0, by rw [h]; rfl⟩
    · obtain ⟨j, e⟩ := ownIx_mem (as := r) h
      exact ⟨j + 1, by simpa using e⟩
theorem mem_ownIx {i : Nat} : ∀ {as : List Arg} {j : Nat}, as[j]? = some (.o i) → i ∈ ownIx as
  | [], j, e => by simp at e
  | .d x :: r, 0, e => by simp at e
  | .d x :: r, j + 1, e => mem_ownIx (as := r) (j := j) (by simpa using e)
  | .o k :: r, 0, e => by
    simp at e
    subst e
    exact List.mem_cons_self ..
  | .o k :: r, j + 1, e => List.mem_cons_of_mem _ (mem_ownIx (as := r) (j := j) (by simpa using e))
theorem free2_at {i : Nat} : ∀ {as : List Arg} {j k : Nat}, free2 (ownIx as) = true → as[j]? = some (.o i) → as[k]? = some (.o i) → j = k
  | [], _, _, _, e, _ => by simp at e
  | .d x :: r, 0, _, _, e, _ => by simp at e
  | .d x :: r, _ + 1, 0, _, _, e => by simp at e
  | .d x :: r, j + 1, k + 1, h, e1, e2 => congrArg Nat.succ (free2_at (as := r) h (by simpa using e1) (by simpa using e2))
  | .o q :: r, 0, 0, _, _, _ => rfl
  | .o q :: r, 0, k + 1, h, e1, e2 => by
    simp at e1
    subst e1
    have h : (!(ownIx r).contains q && free2 (ownIx r)) = true := h
    have : q ∈ ownIx r := mem_ownIx (j := k) (by simpa using e2)
    simp [this] at h
  | .o q :: r, j + 1, 0, h, e1, e2 => by
    simp at e2
    subst e2
    have h : (!(ownIx r).contains q && free2 (ownIx r)) = true := h
    have : q ∈ ownIx r := mem_ownIx (j := j) (by simpa using e1)
    simp [this] at h
  | .o q :: r, j + 1, k + 1, h, e1, e2 => by
    have h : (!(ownIx r).contains q && free2 (ownIx r)) = true := h
    have h2 : free2 (ownIx r) = true := by
      rw [Bool.and_eq_true] at h
      exact h.2
    exact congrArg Nat.succ (free2_at (as := r) h2 (by simpa using e1) (by simpa using e2))
theorem putBack_length (ρ : Env) : ∀ (as : List Arg) (ss : List Slot), (putBack ρ as ss).length = ρ.length
  | [], ss => by cases ss <;> rfl
  | .d _ :: r, [] => rfl
  | .o _ :: r, [] => rfl
  | .d _ :: r, s :: ss => putBack_length ρ r ss
  | .o i :: r, s :: ss => by
    show ((putBack ρ r ss).set i s).length = _
    rw [List.length_set, putBack_length ρ r ss]
theorem putBack_get {ρ : Env} {k : Nat} {t : Slot} : ∀ {as : List Arg} {ss : List Slot}, (putBack ρ as ss)[k]? = some t → (∃ j : Nat, as[j]? = some (.o k) ∧ ss[j]? = some t) ∨ (ρ[k]? = some t ∧ ∀ j : Nat, as[j]? = some (.o k) → ss[j]? = none)
  | [], ss, e => .inr ⟨by cases ss <;> exact e, fun j h => by simp at h⟩
  | .d _ :: r, [], e => .inr ⟨e, fun j _ => by simp⟩
  | .o _ :: r, [], e => .inr ⟨e, fun j _ => by simp⟩
  | .d _ :: r, s :: ss, e => by
    rcases putBack_get (as := r) (ss := ss) e with ⟨j, a, b⟩ | ⟨a, b⟩
    · exact .inl ⟨j + 1, by simpa using a, by simpa using b⟩
    · refine .inr ⟨a, fun j h => ?_⟩
      cases j with
      | zero => simp at h
      | succ j => simpa using b j (by simpa using h)
  | .o i :: r, s :: ss, e => by
    have e : ((putBack ρ r ss).set i s)[k]? = some t := e
    rcases set_at e with ⟨n, _, z⟩ | ⟨n, e⟩
    · subst n z
      exact .inl ⟨0, rfl, rfl⟩
    · rcases putBack_get (as := r) (ss := ss) e with ⟨j, a, b⟩ | ⟨a, b⟩
      · exact .inl ⟨j + 1, by simpa using a, by simpa using b⟩
      · refine .inr ⟨a, fun j h => ?_⟩
        cases j with
        | zero =>
          simp at h
          exact absurd h n
        | succ j => simpa using b j (by simpa using h)
theorem par_of {as : List Arg} {vs : List V} {ps : List Slot} (R : Rel c W F H σ ρ) (ha : ArgsOk c.K F σ as vs) (hs : slotsOf ρ as = some ps) (hf : free2 (ownIx as) = true) : ParOk c F H ps vs := by
  obtain ⟨h1, h2⟩ := slotsOf_at hs
  have own : ∀ (j : Nat) (s : Slot), ps[j]? = some s → s.own = true → ∃ i p, as[j]? = some (.o i) ∧ ρ[i]? = some s ∧ σ[i]? = some (some (.ref p)) ∧ vs[j]? = some (.ref p) ∧ Own c F H p s := fun j s e o => by
    rcases h2 j s e with ⟨x, a, b⟩ | ⟨i, a, b, _⟩
    · rw [b] at o; cases o
    · obtain ⟨p, e1, e2, _⟩ := (R.here i s b).own o
      obtain ⟨v, e3, e4⟩ := ha.getO a
      rw [e1] at e4
      cases e4
      exact ⟨i, p, a, b, e1, e3, e2⟩
  have nop : ∀ j (s : Slot), ps[j]? = some s → s.isN = false := fun j s e => by
    rcases h2 j _ e with ⟨_, _, z⟩ | ⟨_, _, _, z⟩
    · rw [z]; rfl
    · cases s <;> first | rfl | cases z
  refine ⟨h1.trans ha.len, fun j d e => ?_, fun j s e o => ?_, fun j k s t p e1 e2 o1 o2 a1 a2 => ?_, fun j x e => ?_, nop⟩
  rotate_right
  · rcases h2 j _ e with ⟨_, _, z⟩ | ⟨_, _, _, z⟩
    · cases z
    · cases z
  · rcases h2 j _ e with ⟨x, a, b⟩ | ⟨i, a, b, z⟩
    · cases b
      exact ha.getD a
    · cases z
  · obtain ⟨i, p, _, _, _, h, h'⟩ := own j s e o
    exact ⟨p, h, h'⟩
  · obtain ⟨i1, p1, b1, r1, s1, v1, _⟩ := own j s e1 o1
    obtain ⟨i2, p2, b2, r2, s2, v2, _⟩ := own k t e2 o2
    rw [a1] at v1
    rw [a2] at v2
    cases v1
    cases v2
    have : i1 = i2 := R.dis i1 i2 s t p r1 r2 o1 o2 s1 s2
    subst this
    exact free2_at hf b1 b2
theorem Rel.after {as : List Arg} {vs : List V} {ps outs : List Slot} (R : Rel c W F H σ ρ) (ha : ArgsOk c.K F σ as vs) (hs : slotsOf ρ as = some ps) (hf : free2 (ownIx as) = true) (A : After c F H ps vs outs F' H') : Rel c W F' H' σ (putBack ρ as outs) := by
  obtain ⟨h1, h2⟩ := slotsOf_at hs
  -- the arguments that are handed over, from their names
  have arg : ∀ (j k : Nat), as[j]? = some (.o k) → ∃ s p, ps[j]? = some s ∧ ρ[k]? = some s ∧ s.own = true ∧ σ[k]? = some (some (.ref p)) ∧ vs[j]? = some (.ref p) ∧ W.B p := fun j k e => by
    have hj : j < ps.length := by
      rw [h1]
      exact (List.getElem?_eq_some_iff.mp e).1
    obtain ⟨s, es⟩ : ∃ s, ps[j]? = some s := ⟨_, List.getElem?_eq_getElem hj⟩
    rcases h2 j s es with ⟨x, a, b⟩ | ⟨i, a, b, o⟩
    · rw [e] at a; cases a
    · rw [e] at a
      cases a
      obtain ⟨p, e1, e2, e3⟩ := (R.here k s b).own o
      obtain ⟨v, e4, e5⟩ := ha.getO e
      rw [e1] at e5
      cases e5
      exact ⟨s, p, es, b, o, e1, e4, e3⟩
  -- a name's slot behind the call
  have slot : ∀ (k : Nat) (t : Slot), (putBack ρ as outs)[k]? = some t → (∃ (j : Nat) (s : Slot) (p : Addr), as[j]? = some (.o k) ∧ ρ[k]? = some s ∧ s.own = true ∧ σ[k]? = some (some (.ref p)) ∧ Own c F' H' p t ∧ W.B p) ∨ (ρ[k]? = some t ∧ ∀ j : Nat, as[j]? ≠ some (.o k)) := fun k t e => by
    rcases putBack_get e with ⟨j, a, b⟩ | ⟨a, b⟩
    · obtain ⟨s, p, e1, e2, e3, e4, e5, e6⟩ := arg j k a
      obtain ⟨s', f1, f2⟩ := A.ow j s p e1 e3 e5
      rw [b] at f1
      cases f1
      exact .inl ⟨j, s, p, a, e2, e3, e4, f2, e6⟩
    · refine .inr ⟨a, fun j h => ?_⟩
      obtain ⟨s, p, e1, e2, e3, e4, e5, e6⟩ := arg j k h
      obtain ⟨s', f1, f2⟩ := A.ow j s p e1 e3 e5
      rw [b j h] at f1
      cases f1
  have was : ∀ (k : Nat) (t : Slot), (putBack ρ as outs)[k]? = some t → t.own = true → ∃ s, ρ[k]? = some s ∧ s.own = true := fun k t e o => by
    rcases slot k t e with ⟨j, s, p, _, a, b, _⟩ | ⟨a, _⟩
    · exact ⟨s, a, b⟩
    · exact ⟨t, a, o⟩
  have keep : ∀ (a : Addr), (∀ (k : Nat) (s : Slot) (j : Nat), as[j]? = some (.o k) → ρ[k]? = some s → s.own = true → σ[k]? ≠ some (some (.ref a))) → ∀ o, H a = some o → (∀ ps, o ≠ .tbl ps) → H' a = some o := fun a no o e n => by
    refine A.hs a o e n fun j s e1 o1 z => ?_
    rcases h2 j s e1 with ⟨x, _, b⟩ | ⟨i, a1, b, _⟩
    · rw [b] at o1; cases o1
    · obtain ⟨v, e4, e5⟩ := ha.getO a1
      rw [z] at e4
      cases e4
      exact no i s j a1 b o1 e5
  refine ⟨A.sub, A.nt, A.tab, by rw [putBack_length]; exact R.len, fun k t e => ?_, fun j k s t p e1 e2 o1 o2 a1 a2 => ?_, R.wb, fun j p m => ⟨(R.pa j p m).1, fun s e o => ?_⟩, fun j s p hj e o a => ?_, fun a e => R.st a (A.ht a e), fun a o g1 g2 g3 => ?_, fun a o e => A.fs a o (R.f0 a o e), fun a g1 g2 => A.nw a (R.nf a g1 g2) fun z => g2 (R.st a z)⟩
  · rcases slot k t e with ⟨j, s, p, _, _, _, a, b, d⟩ | ⟨a, no⟩
    · exact .of_own a b d
    · refine (R.here k t a).mono A.fs (fun p hp ho => ?_) fun q rs xss kp h => h.mono' A.fs (fun x m => by
        obtain ⟨f, vs, e⟩ := h.at x m
        exact A.nw x (th0 f) (by rw [bl_of e fun _ z => by cases z]; intro z; cases z)) A.sub fun x vs m e => keep x (fun i s j a1 b1 o1 z => by
          obtain ⟨y, y1, _, y3⟩ := (R.here i s b1).own o1
          rw [z] at y1
          cases y1
          exact (kp x m).1 y3) _ e fun _ z => by cases z
      refine ho.mono' A.fs (A.nw p (th0 ho.at.1) ho.bl) A.sub fun o e n => keep p (fun i s j a1 b1 o1 z => ?_) o e n
      have : i = k := R.dis i k s t p b1 a o1 ho.at.2.2 z hp
      subst this
      exact no j a1
  · obtain ⟨s', f1, g1⟩ := was j s e1 o1
    obtain ⟨t', f2, g2⟩ := was k t e2 o2
    exact R.dis j k s' t' p f1 f2 g1 g2 a1 a2
  · obtain ⟨s', f1, g1⟩ := was j s e o
    exact (R.pa j p m).2 s' f1 g1
  · obtain ⟨s', f1, g1⟩ := was j s e o
    exact R.lo j s' p hj f1 g1 a
  · refine keep a (fun k s j a1 b1 o1 z => ?_) o (R.kp a o g1 g2 g3) g3
    obtain ⟨s', p, _, f1, f2, f3, _, f4⟩ := arg j k a1
    rw [z] at f3
    cases f3
    exact g1 f4
theorem Rel.nobody' {p : Addr} (R : Rel c W F H σ ρ) (hp : bl H p = none) : ∀ (j : Nat) (t : Slot), ρ[j]? = some t → t.own = true → σ[j]? ≠ some (some (.ref p)) := fun j t e ot z => by
  obtain ⟨q, e1, e2, _⟩ := (R.here j t e).own ot
  rw [z] at e1
  cases e1
  exact e2.bl hp
theorem fresh_after {as : List Arg} {vs : List V} {ps outs : List Slot} {p : Addr} {ds : List D} (R : Rel c W F H σ ρ) (ha : ArgsOk c.K F σ as vs) (hs : slotsOf ρ as = some ps) (hf : free2 (ownIx as) = true) (A : After c F H ps vs outs F' H') (ol : OwnL c F' H' p ds) (hp : bl H p = none) :
    Fresh c W F' H' σ (putBack ρ as outs) p ds := by
  refine ⟨ol, R.st p hp, fun k t e o z => ?_⟩
  obtain ⟨h1, h2⟩ := slotsOf_at hs
  rcases putBack_get e with ⟨j, a, b⟩ | ⟨a, b⟩
  · have hj : j < ps.length := by
      rw [h1]
      exact (List.getElem?_eq_some_iff.mp a).1
    obtain ⟨s, es⟩ : ∃ s, ps[j]? = some s := ⟨_, List.getElem?_eq_getElem hj⟩
    rcases h2 j s es with ⟨x, a1, b1⟩ | ⟨i, a1, b1, o1⟩
    · rw [a] at a1; cases a1
    · rw [a] at a1
      cases a1
      exact R.nobody' hp k s b1 o1 z
  · exact R.nobody' hp k t a o z
theorem ex_call {ta : TA} {m : FnM} {fa : M (List Arg)} (ha : Aox c E ta fa) : Ex c E (tCallS (spM c m) (WE E) ta) (callM m fa) := by
  intro W F H σ ρ Q R h
  refine ha W F H σ ρ _ R ((h.bind (fun F' as vs => ArgsOk c.K F' σ as vs)).mono fun vs H1 ⟨as, ρ1, F1, R1, s1, ao, q⟩ => ?_)
  revert q
  cases hs : slotsOf ρ1 as with
  | none => exact fun q => q.elim
  | some ps =>
    intro q
    have q : Post c W F1 σ E (Rep c.K) (if free2 (ownIx as) = true then match m ps with | .ok (.v d) outs => .ok d (putBack ρ1 as outs) | .ok (.n ds) outs => .ok (.lst ds) (putBack ρ1 as outs) | .ex e outs => .ex e (putBack ρ1 as outs) | .bad => .bad else .bad) Q := q
    split at q
    · rename_i hf
      refine ⟨F1, ps, R1.fz, R1.tab, par_of R1 ao hs hf, ?_⟩
      revert q
      cases m ps with
      | ok d outs =>
        cases d with
        | v d => exact fun q F' H' v A r => q F' H' v (R1.after ao hs hf A) A.fs r
        | n ds =>
          intro q F' H' p A ol hp
          have R2 := R1.after ao hs hf A
          obtain ⟨F2, s2, R3, r3⟩ := (fresh_after R1 ao hs hf A ol hp).chill R2
          exact q F2 H' _ R3 (A.fs.trans s2) r3
      | ex e outs => exact fun q F' H' cls od A x => q F' H' cls od (R1.after ao hs hf A) A.fs x
      | bad => exact fun q => q
    · exact q.elim
theorem ef_call {ta : TA} {m : FnM} {fa : M (List Arg)} (ha : Aox c E ta fa) : Ef c E (tCallS (spM c m) (WE E) ta) (callN m fa) := by
  intro W F H σ ρ Q R h
  refine ha W F H σ ρ _ R ((h.bind (fun F' as vs => ArgsOk c.K F' σ as vs)).mono fun vs H1 ⟨as, ρ1, F1, R1, s1, ao, q⟩ => ?_)
  revert q
  cases hs : slotsOf ρ1 as with
  | none => exact fun q => q.elim
  | some ps =>
    intro q
    have q : PostF c W F1 σ E (if free2 (ownIx as) = true then match m ps with | .ok (.n ds) outs => .ok ds (putBack ρ1 as outs) | .ok (.v _) _ => .bad | .ex e outs => .ex e (putBack ρ1 as outs) | .bad => .bad else .bad) Q := q
    split at q
    · rename_i hf
      refine ⟨F1, ps, R1.fz, R1.tab, par_of R1 ao hs hf, ?_⟩
      revert q
      cases m ps with
      | ok d outs =>
        cases d with
        | v d => exact fun q => q.elim
        | n ds => exact fun q F' H' p A ol hp => q F' H' p (R1.after ao hs hf A) A.fs (fresh_after R1 ao hs hf A ol hp)
      | ex e outs => exact fun q F' H' cls od A x => q F' H' cls od (R1.after ao hs hf A) A.fs x
      | bad => exact fun q => q
    · exact q.elim
/-! ### a def's body -/
def keepOk : List Slot → Env → Bool
  | [], _ => true
  | s :: ss, [] => false
  | s :: ss, r :: rs => (!s.own || r.own) && keepOk ss rs
def runBody (n k : Nat) (g : S) : FnM := fun ps => if ps.length = n then match g (ps ++ List.replicate k .u) with
    | .ok .nx ρ => if keepOk ps ρ = true then .ok (.v .non) (ρ.take n) else .bad
    | .ok (.rt d) ρ => if keepOk ps ρ = true then .ok (.v d) (ρ.take n) else .bad
    | .ok (.rn ds) ρ => if keepOk ps ρ = true then .ok (.n ds) (ρ.take n) else .bad
    | .ex e ρ => if keepOk ps ρ = true then .ex e (ρ.take n) else .bad
    | _ => .bad
  else .bad
theorem keepOk_at : ∀ {ps : List Slot} {ρ : Env} {j : Nat} {s : Slot}, keepOk ps ρ = true → ps[j]? = some s → s.own = true → ∃ r, ρ[j]? = some r ∧ r.own = true
  | [], _, _, _, _, e, _ => by simp at e
  | s :: ss, [], _, _, h, _, _ => by cases h
  | s :: ss, r :: rs, 0, t, h, e, o => by
    simp at e
    subst e
    have h : ((!s.own || r.own) && keepOk ss rs) = true := h
    rw [o] at h
    simp at h
    exact ⟨r, rfl, h.1⟩
  | s :: ss, r :: rs, j + 1, t, h, e, o => by
    have h : ((!s.own || r.own) && keepOk ss rs) = true := h
    rw [Bool.and_eq_true] at h
    obtain ⟨u, a, b⟩ := keepOk_at (j := j) h.2 (by simpa using e) o
    exact ⟨u, by simpa using a, b⟩
def fm0 (F H : Hp) (ps : List Slot) (vs : List V) : Fm where
  np := ps.length
  P := fun j p => ∃ s, ps[j]? = some s ∧ s.own = true ∧ vs[j]? = some (.ref p)
  B := fun a => bl H a = none ∨ ∃ (j : Nat) (s : Slot), ps[j]? = some s ∧ s.own = true ∧ vs[j]? = some (.ref a)
  F0 := F
  H0 := bl H
  pn := none
theorem rel0 {ps : List Slot} {vs : List V} {N : List Str} {k : Nat} (hk : N.length = ps.length + k) (fz : Fz F H) (tab : LamX.Tabs c.T H) (P : ParOk c F H ps vs) : Rel c (fm0 F H ps vs) F H (L2.start N vs) (ps ++ List.replicate k .u) := by
  have hl : vs.length = ps.length := P.len.symm
  have st : ∀ (j : Nat) (v : V), vs[j]? = some v → (L2.start N vs)[j]? = some (some v) := fun j v e => by
    have hj := (List.getElem?_eq_some_iff.mp e).1
    unfold L2.start
    rw [List.getElem?_append_left (by simpa using hj), List.getElem?_map, e]
    rfl
  have ap : ∀ (j : Nat) (s : Slot), (ps ++ List.replicate k Slot.u)[j]? = some s → ps[j]? = some s ∨ (s = .u ∧ ps.length ≤ j) := fun j s e => by
    by_cases hj : j < ps.length
    · rw [List.getElem?_append_left hj] at e
      exact .inl e
    · rw [List.getElem?_append_right (by omega), List.getElem?_replicate] at e
      split at e
      · cases e
        exact .inr ⟨rfl, by omega⟩
      · cases e
  have back : ∀ (j : Nat) (s : Slot) (p : Addr), ps[j]? = some s → (L2.start N vs)[j]? = some (some (.ref p)) → vs[j]? = some (.ref p) := fun j s p e a => by
    have hj : j < vs.length := by rw [hl]; exact (List.getElem?_eq_some_iff.mp e).1
    have e2 : vs[j]? = some (vs[j]) := List.getElem?_eq_getElem hj
    rw [st j _ e2] at a
    rw [e2, Option.some.inj (Option.some.inj a)]
  refine ⟨fz.1, fz.2, tab, ?_, fun j s e => ?_, fun j k s t p e1 e2 o1 o2 a1 a2 => ?_, fun a e => .inl e, fun j p ⟨s, e1, e2, e3⟩ => ⟨(List.getElem?_eq_some_iff.mp e1).1, fun t e o => st j _ e3⟩, fun j s p hj e o a => ?_, fun a e => e, fun a o h1 h2 h3 => (bl_at h2).1, Same.refl _, fun a h1 h2 => h1⟩
  · unfold L2.start
    rw [List.length_append, List.length_map, List.length_replicate, List.length_append, List.length_replicate]
    omega
  · rcases ap j s e with e | ⟨e, _⟩
    · cases s with
      | u => exact trivial
      | e x => exact absurd e (P.noe j x)
      | oo _ => exact absurd (P.nop j _ e) (by intro z; cases z)
      | al _ => exact absurd (P.nop j _ e) (by intro z; cases z)
      | d d =>
        obtain ⟨v, e1, r⟩ := P.dat j d e
        exact ⟨v, st j v e1, r⟩
      | o _ => obtain ⟨p, e1, r⟩ := P.own j _ e rfl; exact ⟨p, st j _ e1, r, .inr ⟨j, _, e, rfl, e1⟩⟩
      | q _ => obtain ⟨p, e1, r⟩ := P.own j _ e rfl; exact ⟨p, st j _ e1, r, .inr ⟨j, _, e, rfl, e1⟩⟩
      | qt _ => obtain ⟨p, e1, r⟩ := P.own j _ e rfl; exact ⟨p, st j _ e1, r, .inr ⟨j, _, e, rfl, e1⟩⟩
    · rw [e]
      exact trivial
  · rcases ap j s e1 with e1 | ⟨z, _⟩
    · rcases ap k t e2 with e2 | ⟨z, _⟩
      · exact P.dis j k s t p e1 e2 o1 o2 (back j s p e1 a1) (back k t p e2 a2)
      · rw [z] at o2; cases o2
    · rw [z] at o1; cases o1
  · rcases ap j s e with e | ⟨z, _⟩
    · have := (List.getElem?_eq_some_iff.mp e).1
      have hj : ps.length ≤ j := hj
      omega
    · rw [z] at o; cases o
theorem after0 {ps : List Slot} {vs : List V} (R : Rel c (fm0 F H ps vs) F' H' σ ρ) (hk : keepOk ps ρ = true) : After c F H ps vs (ρ.take ps.length) F' H' where
  fs := R.f0
  sub := R.sub
  nt := R.nt
  tab := R.tab
  nw := R.nf
  hs := fun a o e n no => R.kp a o (fun b => by
    rcases b with b | ⟨j, s, e1, e2, e3⟩
    · rw [bl_of e n] at b; cases b
    · exact no j s e1 e2 e3) (bl_of e n) n
  ht := R.st
  ow := fun j s p e o a => by
    obtain ⟨r, e1, o1⟩ := keepOk_at hk e o
    have h := (R.pa j p ⟨s, e, o, a⟩).2 r e1 o1
    obtain ⟨q, e2, e3, _⟩ := (R.here j r e1).own o1
    rw [h] at e2
    cases e2
    exact ⟨r, by rw [List.getElem?_take_of_lt (List.getElem?_eq_some_iff.mp e).1]; exact e1, e3⟩
/-! ### a def that knows besides (b) that no repr is running -/
abbrev Gd (b : Bool) (A : Around) : Prop := b = true → A.guards = some []
variable {b : Bool}
structure FnG (b : Bool) (P : Program) (w : World) (K : PySem.W.Frag) (mg : Str → Option Value) (base : Heap) (k : Nat) (f : Addr) (fd : FuncData) (ps : List Str) (sp : Sp) : Prop where
  many : ∀ vs H Q E, sp vs H Q E → vs.length = ps.length
  goes : ∀ (A : Around) (outer : List PySem.Env) (s : Shared) (H : Hp) (args : Args) (us : List Value) (vs : List V) (Q : VK) (E : XK), Room k A → Gd b A → Env0 P w K mg base A outer s H → BindsTo s fd args (ps.zip us) → Vals vs us → sp vs H Q E →
    codeAny (model P w) A (.call (.ref f) args) (CR (L2.CX P w) outer P w H s Q E) s
theorem FnG.up {P : Program} {w : World} {K : PySem.W.Frag} {mg : Str → Option Value} {base : Heap} {j k : Nat} {f : Addr} {fd : FuncData} {ps : List Str} {sp : Sp} (F : FnG b P w K mg base j f fd ps sp) (h : j ≤ k) : FnG b P w K mg base k f fd ps sp :=
  ⟨F.many, fun A outer s H args us vs Q E hr => F.goes A outer s H args us vs Q E (hr.mono h)⟩
section
variable {X : Cx} {k : Nat} {f : Addr} {fd : FuncData} {ps : List Str} {sp : Sp} {W : WX} {x : Str} {p pos : Pos} {e : Expr} {es : List Expr} {t : TA}
theorem run_G {pins : List (Addr × Obj)} {σ : L2.St} {H : Hp} {s : Shared} {Q : VK} {us : List Value} {vs : List V} (G : FnG b X.prog X.w X.K X.mg X.base k f fd ps sp) (hr : Room k X.A) (hg : Gd b X.A) (bi : Binds X.K fd ps []) (tk : Takes X W)
    (J : Inv X pins σ H s) (r : Vals vs us) (h : sp vs H Q (WE W σ)) : wpAny (model X.prog X.w) X.A (call (.ref f) us) (EP X pins σ Q) X.xe s := by
  have hn : (us ++ []).length = ps.length := by rw [List.append_nil, ← r.length]; exact G.many _ _ _ _ h
  have bound := bi s us J.kIn hn
  rw [List.append_nil] at bound
  refine wpAny_call (codeAny_mono (G.goes X.A X.stack s H ⟨us, []⟩ us vs Q (WE W σ) hr hg J.env0 bound r h) ?_)
  rintro (x | x) s' hx
  · exact passAt tk σ pins H s x s' J hx
  · cases x with
    | ret u => exact J.after hx
    | next => exact hx.elim
    | brk => exact hx.elim
    | cont => exact hx.elim
theorem pe_callG (G : FnG b X.prog X.w X.K X.mg X.base k f fd ps sp) (hr : Room k X.A) (hgu : Gd b X.A) (hg : Gl X x) (hm : X.mg x = some (.ref f)) (hk : PySem.W.keepIn X.K (.ref f) = true) (bi : Binds X.K fd ps []) (tk : Takes X W) (ha : PA X (e :: es) t)
    (h1 : (x == ("__debug__" : Str)) = false := by decide) (h2 : starEach (e :: es) X.env = (false, eval e X.env) :: starEach es X.env := by rfl) (h3 : (backTo pos (starEach es X.env)).any (·.1) = false := by rfl) : PE X (.Call (.Name x p) (e :: es) [] pos) (tCallS sp (WE W) t) :=
  ⟨fun pins s σ H Q J h => wpAny_Call_Name_kw (ld_glob J hg hm (PySem.W.callWith_K (h₀ := X.base) J.ok.mod.kin hk (thn (ha.run pos pins s σ H _ J h) fun us s1 ⟨vs, H1, J1, r, q⟩ => ⟨J1.kIn, run_G G hr hgu bi tk J1 r q⟩) h2 h3) h1)⟩
theorem pe_callG0 (G : FnG b X.prog X.w X.K X.mg X.base k f fd ps sp) (hr : Room k X.A) (hgu : Gd b X.A) (hg : Gl X x) (hm : X.mg x = some (.ref f)) (hk : PySem.W.keepIn X.K (.ref f) = true) (bi : Binds X.K fd ps []) (tk : Takes X W)
    (h1 : (x == ("__debug__" : Str)) = false := by decide) : PE X (.Call (.Name x p) [] [] pos) (tCallS sp (WE W) tNil) :=
  ⟨fun pins s σ H Q J h => wpAny_Call_Name_kw (ld_glob J hg hm (PySem.W.callWith_K0 J.kIn hk (run_G (us := []) G hr hgu bi tk J .nil h)) h1)⟩
end
/-- the module's name x is such a def -/
structure HasG (b : Bool) (P : Program) (w : World) (K : PySem.W.Frag) (mg : Str → Option Value) (base : Heap) (x : Str) (k : Nat) (ps : List Str) (sp : Sp) : Prop where
  ex : ∃ (f : Addr) (fd : FuncData), FnG b P w K mg base k f fd ps sp ∧ mg x = some (.ref f) ∧ PySem.W.keepIn K (.ref f) = true ∧ Binds K fd ps []
section
variable {P : Program} {w : World} {K : PySem.W.Frag} {mg : Str → Option Value} {base : Heap} {T : List (Addr × Str)}
theorem okG {x qual : Str} {st : Stmt} {f : Addr} {fd : FuncData} {N ps : List Str} {k : Nat} {sp : Sp} (Fu : Fun K x qual st f fd) (Sc : FnScope N ps (defScope st)) (many : ∀ vs H Q E, sp vs H Q E → vs.length = ps.length)
    (body : ∀ (cdv : Value) (A : Around) (outer : List PySem.Env) (s : Shared) (H : Hp) (vs : List V) (Q : VK) (E : XK), Room k (A.deeper (envOfC qual (defScope st) s.heap.objs.size f cdv)) → Gd b A → sp vs H Q E →
      ∃ t, PSs (cxOf (L2.CX P w) P w K mg base N qual (defScope st) f cdv A outer s H E) (defBody st) t ∧ t { nx := fun _ H' => Q .non H', rt := Q } (L2.start N vs) H) : FnG b P w K mg base (k + 1) f fd ps sp := by
  obtain ⟨oc, od, kV, doc, pm, an, cdv, ct, osl, efd, look, rec⟩ := Fu.ex
  subst efd
  refine ⟨many, fun A outer s H args us vs Q E hr hgu e0 hb r hsp => ?_⟩
  have stays : ∀ b o, base.get? b = some o → s.heap.get? b = some o := fun b o z => (e0.bs b o z).1
  have inK : K.In s.heap := e0.mod.kin.keeps stays
  have roomy : s.heap.NoLimit := e0.mod.nolimit.keeps stays
  refine codeAny_call_function hr.depth (inK _ _ look) rfl Sc.co Sc.gen rfl (PySem.W.codeRec_of inK rec) (hb _ _ _ _ (wpAny_newFunctionEnv_cells Sc.kind (fun y hy => ?_) fun env he s1 x => ?_))
  · rcases Sc.par y.1 (List.of_mem_zip hy).1 with l | l
    · exact .inl l
    · exact .inr ⟨l, PySem.W.cellsFrom_some _ _ _ (.inl l)⟩
  · subst he
    refine ⟨roomy.keeps x.toInCall.keep, codeAny_func ?_⟩
    obtain ⟨t, ht, hq⟩ := body cdv A outer s H vs Q E (hr.deeper _) hgu hsp
    have J := inv_start (CX := L2.CX P w) (E := E) Sc hr.hd e0 (many _ _ _ _ hsp) r x
    refine wpAny_mono (ht.run [] s1 _ H _ J hq) (fun fl s' hs => ?_) fun _ _ hs => hs
    cases fl with
    | ret u =>
      obtain ⟨v, σ', H', J', rv, q⟩ := hs
      exact ⟨v, H', J'.os, J'.bare, J'.base, J'.hok, rv, q⟩
    | next =>
      obtain ⟨σ', H', J', q⟩ := hs
      exact ⟨V.non, H', J'.os, J'.bare, J'.base, J'.hok, rfl, q⟩
    | brk => exact (show False from hs.choose_spec.choose_spec.2).elim
    | cont => exact (show False from hs.choose_spec.choose_spec.2).elim
/-- THE RULE for a def: its body as a term, and what that term does to data -/
theorem fn_body {x qual : Str} {st : Stmt} {f : Addr} {fd : FuncData} {N ps : List Str} {k n : Nat} {g : S} (Fu : Fun K x qual st f fd) (Sc : FnScope N ps (defScope st)) (hn : N.length = ps.length + n)
    (hbody : ∀ (cdv : Value) (A : Around) (outer : List PySem.Env) (s : Shared) (H : Hp) (E : XK), Room k (A.deeper (envOfC qual (defScope st) s.heap.objs.size f cdv)) → Gd b A →
      ∃ t, PSs (cxOf (L2.CX P w) P w K mg base N qual (defScope st) f cdv A outer s H E) (defBody st) t ∧ Sx ⟨K, mg, T, none⟩ (fun cls od _ H => E cls od H) ps.length t g) : FnG b P w K mg base (k + 1) f fd ps (spM ⟨K, mg, T, none⟩ (runBody ps.length n g)) := by
  have len : ∀ vs H Q E, spM ⟨K, mg, T, none⟩ (runBody ps.length n g) vs H Q E → vs.length = ps.length := fun vs H Q E h => by
    obtain ⟨F, qs, _, _, par, hm⟩ := h
    unfold runBody at hm
    by_cases hl : qs.length = ps.length
    · rw [← par.len, hl]
    · rw [if_neg hl] at hm
      exact hm.elim
  refine okG Fu Sc len (fun cdv A outer s H vs Q E hr hgu h => ?_)
  have hv := len vs H Q E h
  obtain ⟨F, qs, fz, tab, par, hm⟩ := h
  obtain ⟨t, ht, hx⟩ := hbody cdv A outer s H E hr hgu
  refine ⟨t, ht, hx (fm0 F H qs vs) F H (L2.start N vs) _ _ (by show qs.length = _; rw [par.len, hv]) (rel0 (k := n) (by rw [par.len, hv]; exact hn) fz tab par) ?_⟩
  have hq : qs.length = ps.length := by rw [par.len, hv]
  unfold runBody at hm
  rw [if_pos hq] at hm
  rw [← hq] at hm
  revert hm
  have sel : ∀ {r : Rs An} {b : Bool}, Out ⟨K, mg, T, none⟩ F H qs vs Q E (if b = true then r else .bad) → b = true ∧ Out ⟨K, mg, T, none⟩ F H qs vs Q E r := fun {r b} h => by
    cases b with
    | true => exact ⟨rfl, h⟩
    | false => exact h.elim
  cases g (qs ++ List.replicate n .u) with
  | ok k ρ =>
    cases k with
    | nx =>
      intro hm
      obtain ⟨hk, hm⟩ := sel hm
      exact fun F' H' σ' R' s' => hm F' H' .non (after0 R' hk) rfl
    | rt d =>
      intro hm
      obtain ⟨hk, hm⟩ := sel hm
      exact fun F' H' σ' v R' s' r => hm F' H' v (after0 R' hk) r
    | rn ds =>
      intro hm
      obtain ⟨hk, hm⟩ := sel hm
      exact fun F' H' σ' p R' s' fr => hm F' H' p (after0 R' hk) fr.own fr.h0
    | bk => exact fun hm => hm.elim
    | ct => exact fun hm => hm.elim
  | ex e ρ =>
    intro hm
    obtain ⟨hk, hm⟩ := sel hm
    exact fun F' H' σ' cls od R' s' x => hm F' H' cls od (after0 R' hk) x
  | bad => exact fun hm => hm.elim
end
end Pl
namespace Pl
open PySem PySem.Spec PyProof.Rows L2
/-! ## G. operations on data: equality -/
mutual
def eqB : D → D → Bool
  | .non, .non => true
  | .bl a, .bl b => a == b
  | .bl a, .int b => (if a then 1 else 0) == b
  | .int a, .bl b => a == (if b then 1 else 0)
  | .int a, .int b => a == b
  | .str a, .str b => a == b
  | .tup xs, .tup ys => eqBL xs ys
  | .lst xs, .lst ys => eqBL xs ys
  | _, _ => false
def eqBL : List D → List D → Bool
  | [], [] => true
  | x :: xs, y :: ys => eqB x y && eqBL xs ys
  | _, _ => false
end
mutual
/-- no dict, nothing opaque, at most n deep -/
def shape : Nat → D → Bool
  | _, .non => true
  | _, .bl _ => true
  | _, .int _ => true
  | _, .str _ => true
  | 0, _ => false
  | n + 1, .tup xs => shapeL n xs
  | n + 1, .lst xs => shapeL n xs
  | _ + 1, .dct _ _ => false
  | _ + 1, .rf _ => false
  | _ + 1, .scr _ => false
def shapeL : Nat → List D → Bool
  | _, [] => true
  | n, x :: xs => shape n x && shapeL n xs
end

theorem shapeL_get {n : Nat} : ∀ {ds : List D} {j : Nat} {d : D}, shapeL n ds = true → ds[j]? = some d → shape n d = true
  | [], _, _, _, e => by simp at e
  | x :: xs, 0, d, h, e => by
    simp at e
    subst e
    have h : (shape n x && shapeL n xs) = true := by
      rw [shapeL] at h
      exact h
    rw [Bool.and_eq_true] at h
    exact h.1
  | x :: xs, j + 1, d, h, e => by
    have h : (shape n x && shapeL n xs) = true := by
      rw [shapeL] at h
      exact h
    rw [Bool.and_eq_true] at h
    exact shapeL_get (j := j) h.2 (by simpa using e)
theorem eqBL_iff : ∀ {ds es : List D}, eqBL ds es = (((List.range (min ds.length es.length)).all fun j => eqB (ds.getD j .non) (es.getD j .non)) && ds.length == es.length)
  | [], [] => by simp [eqBL]
  | [], e :: es => by simp [eqBL]
  | d :: ds, [] => by simp [eqBL]
  | d :: ds, e :: es => by
    have ih := eqBL_iff (ds := ds) (es := es)
    rw [eqBL, ih]
    have hm : min (d :: ds).length (e :: es).length = min ds.length es.length + 1 := by
      simp only [List.length_cons]
      omega
    rw [hm, List.range_succ_eq_map, List.all_cons, List.all_map]
    simp only [List.length_cons]
    have : (ds.length + 1 == es.length + 1) = (ds.length == es.length) := by
      by_cases h : ds.length = es.length
      · rw [h]; simp
      · have h2 : ds.length + 1 ≠ es.length + 1 := by omega
        simp [h, h2]
    rw [this, Bool.and_assoc]
    rfl
section
variable {X : Cx} {pins : List (Addr × Obj)} {σ : L2.St} {H : Hp} {s : Shared}
theorem tup_is (I : Inv X pins σ H s) {a : Addr} {xs : List V} (h : TupAt X.K H a xs) : ∃ its : List Value, Vals xs its ∧ s.heap.IsTuple a its.toArray := by
  obtain ⟨its, r, p, _⟩ := I.tuple h.sq
  exact ⟨its, r, p⟩
theorem lst_is (I : Inv X pins σ H s) {a : Addr} {xs : List V} (h : H a = some (.lst xs)) : ∃ its : List Value, Vals xs its ∧ s.heap.IsList a its.toArray := by
  obtain ⟨its, r, p, _⟩ := I.list (.of h)
  exact ⟨its, r, p.isList⟩
theorem tup_lst (I : Inv X pins σ H s) {a b : Addr} {xs ys : List V} (h : TupAt X.K H a xs) (h' : H b = some (.lst ys)) : a ≠ b := fun z => by
  subst z
  obtain ⟨its, _, hl⟩ := lst_is I h'
  obtain ⟨its', _, ht⟩ := tup_is I h
  exact SeqAt.ne_of_list_tuple hl ht rfl
mutual
theorem eqB_same (I : Inv X pins σ H s) : ∀ (n : Nat) (d e : D) (x : V), Rep X.K H d x → Rep X.K H e x → shape n d = true → shape n e = true → eqB d e = true
  | n, .non, e, x, r, q, _, h => by
    have r : x = .non := r
    subst r
    cases e with
    | non => simp [eqB]
    | bl b => cases q
    | int b => cases q
    | str b => cases q
    | tup _ => obtain ⟨_, _, z, _⟩ := q; cases z
    | lst _ => obtain ⟨_, _, z, _⟩ := q; cases z
    | dct _ _ => cases n <;> simp [shape] at h
    | rf _ => cases n <;> simp [shape] at h
    | scr _ => cases n <;> simp [shape] at h
  | n, .bl a, e, x, r, q, _, h => by
    have r : x = .bl a := r
    subst r
    cases e with
    | non => cases q
    | bl b => cases q; simp [eqB]
    | int b => cases q
    | str b => cases q
    | tup _ => obtain ⟨_, _, z, _⟩ := q; cases z
    | lst _ => obtain ⟨_, _, z, _⟩ := q; cases z
    | dct _ _ => cases n <;> simp [shape] at h
    | rf _ => cases n <;> simp [shape] at h
    | scr _ => cases n <;> simp [shape] at h
  | n, .int a, e, x, r, q, _, h => by
    have r : x = .int a := r
    subst r
    cases e with
    | non => cases q
    | bl b => cases q
    | int b => cases q; simp [eqB]
    | str b => cases q
    | tup _ => obtain ⟨_, _, z, _⟩ := q; cases z
    | lst _ => obtain ⟨_, _, z, _⟩ := q; cases z
    | dct _ _ => cases n <;> simp [shape] at h
    | rf _ => cases n <;> simp [shape] at h
    | scr _ => cases n <;> simp [shape] at h
  | n, .str a, e, x, r, q, _, h => by
    have r : x = .str a := r
    subst r
    cases e with
    | non => cases q
    | bl b => cases q
    | int b => cases q
    | str b => cases q; simp [eqB]
    | tup _ => obtain ⟨_, _, z, _⟩ := q; cases z
    | lst _ => obtain ⟨_, _, z, _⟩ := q; cases z
    | dct _ _ => cases n <;> simp [shape] at h
    | rf _ => cases n <;> simp [shape] at h
    | scr _ => cases n <;> simp [shape] at h
  | n + 1, .tup ds, e, x, ⟨a, xs, r1, r2, r3⟩, q, h, h' => by
    subst r1
    cases e with
    | non => cases q
    | bl b => cases q
    | int b => cases q
    | str b => cases q
    | tup es =>
      obtain ⟨b, ys, q1, q2, q3⟩ := q
      cases q1
      have := I.tuple_inj r2.sq q2.sq
      subst this
      have g : shapeL n ds = true := by rw [shape] at h; exact h
      have g' : shapeL n es = true := by rw [shape] at h'; exact h'
      show eqBL ds es = true
      exact eqBL_same I n ds es xs r3 q3 g g'
    | lst es =>
      obtain ⟨b, ys, q1, q2, q3⟩ := q
      cases q1
      exact absurd rfl (tup_lst I r2 q2)
    | dct _ _ => simp [shape] at h'
    | rf _ => simp [shape] at h'
    | scr _ => simp [shape] at h'
  | n + 1, .lst ds, e, x, ⟨a, xs, r1, r2, r3⟩, q, h, h' => by
    subst r1
    cases e with
    | non => cases q
    | bl b => cases q
    | int b => cases q
    | str b => cases q
    | lst es =>
      obtain ⟨b, ys, q1, q2, q3⟩ := q
      cases q1
      rw [r2] at q2
      cases q2
      have g : shapeL n ds = true := by rw [shape] at h; exact h
      have g' : shapeL n es = true := by rw [shape] at h'; exact h'
      show eqBL ds es = true
      exact eqBL_same I n ds es xs r3 q3 g g'
    | tup es =>
      obtain ⟨b, ys, q1, q2, q3⟩ := q
      cases q1
      exact absurd rfl (tup_lst I q2 r2)
    | dct _ _ => simp [shape] at h'
    | rf _ => simp [shape] at h'
    | scr _ => simp [shape] at h'
  | 0, .tup ds, _, _, _, _, h, _ => by simp [shape] at h
  | 0, .lst ds, _, _, _, _, h, _ => by simp [shape] at h
  | n, .dct _ _, _, _, _, _, h, _ => by cases n <;> simp [shape] at h
  | n, .rf _, _, _, _, _, h, _ => by cases n <;> simp [shape] at h
  | n, .scr _, _, _, _, _, h, _ => by cases n <;> simp [shape] at h
theorem eqBL_same (I : Inv X pins σ H s) : ∀ (n : Nat) (ds es : List D) (xs : List V), RepL X.K H ds xs → RepL X.K H es xs → shapeL n ds = true → shapeL n es = true → eqBL ds es = true
  | n, [], es, xs, r, q, _, _ => by
    have r : xs = [] := r
    subst r
    cases es with
    | nil => simp [eqBL]
    | cons e es => obtain ⟨_, _, z, _⟩ := q; cases z
  | n, d :: ds, es, xs, ⟨v, vs, r1, r2, r3⟩, q, h, h' => by
    subst r1
    cases es with
    | nil => have q : v :: vs = [] := q; cases q
    | cons e es =>
      obtain ⟨_, _, z, q2, q3⟩ := q
      cases z
      rw [shapeL, Bool.and_eq_true] at h h'
      rw [eqBL, eqB_same I n d e v r2 q2 h.1 h'.1, eqBL_same I n ds es vs r3 q3 h.2 h'.2]
      rfl
end
mutual
theorem rep_inj (I : Inv X pins σ H s) : ∀ (n : Nat) (d e : D) (x : V), Rep X.K H d x → Rep X.K H e x → shape n d = true → shape n e = true → d = e
  | n, .non, e, x, r, q, _, h => by
    have r : x = .non := r
    subst r
    cases e with
    | non => rfl
    | bl b => cases q
    | int b => cases q
    | str b => cases q
    | tup _ => obtain ⟨_, _, z, _⟩ := q; cases z
    | lst _ => obtain ⟨_, _, z, _⟩ := q; cases z
    | dct _ _ => cases n <;> simp [shape] at h
    | rf _ => cases n <;> simp [shape] at h
    | scr _ => cases n <;> simp [shape] at h
  | n, .bl a, e, x, r, q, _, h => by
    have r : x = .bl a := r
    subst r
    cases e with
    | non => cases q
    | bl b => cases q; rfl
    | int b => cases q
    | str b => cases q
    | tup _ => obtain ⟨_, _, z, _⟩ := q; cases z
    | lst _ => obtain ⟨_, _, z, _⟩ := q; cases z
    | dct _ _ => cases n <;> simp [shape] at h
    | rf _ => cases n <;> simp [shape] at h
    | scr _ => cases n <;> simp [shape] at h
  | n, .int a, e, x, r, q, _, h => by
    have r : x = .int a := r
    subst r
    cases e with
    | non => cases q
    | bl b => cases q
    | int b => cases q; rfl
    | str b => cases q
    | tup _ => obtain ⟨_, _, z, _⟩ := q; cases z
    | lst _ => obtain ⟨_, _, z, _⟩ := q; cases z
    | dct _ _ => cases n <;> simp [shape] at h
    | rf _ => cases n <;> simp [shape] at h
    | scr _ => cases n <;> simp [shape] at h
  | n, .str a, e, x, r, q, _, h => by
    have r : x = .str a := r
    subst r
    cases e with
    | non => cases q
    | bl b => cases q
    | int b => cases q
    | str b => cases q; rfl
    | tup _ => obtain ⟨_, _, z, _⟩ := q; cases z
    | lst _ => obtain ⟨_, _, z, _⟩ := q; cases z
    | dct _ _ => cases n <;> simp [shape] at h
    | rf _ => cases n <;> simp [shape] at h
    | scr _ => cases n <;> simp [shape] at h
  | n + 1, .tup ds, e, x, ⟨a, xs, r1, r2, r3⟩, q, h, h' => by
    subst r1
    cases e with
    | non => cases q
    | bl b => cases q
    | int b => cases q
    | str b => cases q
    | tup es =>
      obtain ⟨b, ys, q1, q2, q3⟩ := q
      cases q1
      have := I.tuple_inj r2.sq q2.sq
      subst this
      have g : shapeL n ds = true := by rw [shape] at h; exact h
      have g' : shapeL n es = true := by rw [shape] at h'; exact h'
      rw [repL_inj I n ds es xs r3 q3 g g']
    | lst es =>
      obtain ⟨b, ys, q1, q2, q3⟩ := q
      cases q1
      exact absurd rfl (tup_lst I r2 q2)
    | dct _ _ => simp [shape] at h'
    | rf _ => simp [shape] at h'
    | scr _ => simp [shape] at h'
  | n + 1, .lst ds, e, x, ⟨a, xs, r1, r2, r3⟩, q, h, h' => by
    subst r1
    cases e with
    | non => cases q
    | bl b => cases q
    | int b => cases q
    | str b => cases q
    | lst es =>
      obtain ⟨b, ys, q1, q2, q3⟩ := q
      cases q1
      rw [r2] at q2
      cases q2
      have g : shapeL n ds = true := by rw [shape] at h; exact h
      have g' : shapeL n es = true := by rw [shape] at h'; exact h'
      rw [repL_inj I n ds es xs r3 q3 g g']
    | tup es =>
      obtain ⟨b, ys, q1, q2, q3⟩ := q
      cases q1
      exact absurd rfl (tup_lst I q2 r2)
    | dct _ _ => simp [shape] at h'
    | rf _ => simp [shape] at h'
    | scr _ => simp [shape] at h'
  | 0, .tup ds, _, _, _, _, h, _ => by simp [shape] at h
  | 0, .lst ds, _, _, _, _, h, _ => by simp [shape] at h
  | n, .dct _ _, _, _, _, _, h, _ => by cases n <;> simp [shape] at h
  | n, .rf _, _, _, _, _, h, _ => by cases n <;> simp [shape] at h
  | n, .scr _, _, _, _, _, h, _ => by cases n <;> simp [shape] at h
theorem repL_inj (I : Inv X pins σ H s) : ∀ (n : Nat) (ds es : List D) (xs : List V), RepL X.K H ds xs → RepL X.K H es xs → shapeL n ds = true → shapeL n es = true → ds = es
  | n, [], es, xs, r, q, _, _ => by
    have r : xs = [] := r
    subst r
    cases es with
    | nil => rfl
    | cons e es => obtain ⟨_, _, z, _⟩ := q; cases z
  | n, d :: ds, es, xs, ⟨v, vs, r1, r2, r3⟩, q, h, h' => by
    subst r1
    cases es with
    | nil => have q : v :: vs = [] := q; cases q
    | cons e es =>
      obtain ⟨_, _, z, q2, q3⟩ := q
      cases z
      rw [shapeL, Bool.and_eq_true] at h h'
      rw [rep_inj I n d e v r2 q2 h.1 h'.1, repL_inj I n ds es vs r3 q3 h.2 h'.2]
end
open SeqAt in
theorem eqAt_D (I : Inv X pins σ H s) : ∀ (n : Nat) (d e : D) (x y : V) (u v : Value) (A : Around), Rep X.K H d x → Rep X.K H e y → RelV x u → RelV y v → shape n d = true → shape n e = true → A.units + n < cLine → EqAt A s u v (eqB d e) := by
  intro n
  induction n with
  | zero =>
    intro d e x y u v A r q ru rv h h' hu
    have hu : A.units < cLine := hu
    cases d with
    | non =>
      cases r; cases ru
      cases e with
      | non => cases q; cases rv; exact .same _
      | bl b => cases q; cases rv; exact .none_bool b
      | int b => cases q; obtain ⟨t, rfl⟩ := rv; exact .none_int b t
      | str b => cases q; obtain ⟨t, rfl⟩ := rv; exact .none_str b t
      | _ => simp [shape] at h'
    | bl a =>
      cases r; cases ru
      cases e with
      | non => cases q; cases rv; exact .bool_none a
      | bl b => cases q; cases rv; exact .bool_bool a b
      | int b => cases q; obtain ⟨t, rfl⟩ := rv; exact .bool_int a b t
      | str b => cases q; obtain ⟨t, rfl⟩ := rv; exact .bool_str a b t
      | _ => simp [shape] at h'
    | int a =>
      cases r; obtain ⟨t', rfl⟩ := ru
      cases e with
      | non => cases q; cases rv; exact .int_none a t'
      | bl b => cases q; cases rv; exact .int_bool a t' b
      | int b => cases q; obtain ⟨t, rfl⟩ := rv; exact .int_int a t' b t
      | str b => cases q; obtain ⟨t, rfl⟩ := rv; exact .int_str a t' b t
      | _ => simp [shape] at h'
    | str a =>
      cases r; obtain ⟨t', rfl⟩ := ru
      cases e with
      | non => cases q; cases rv; exact .str_none a t'
      | bl b => cases q; cases rv; exact .str_bool a t' b
      | int b => cases q; obtain ⟨t, rfl⟩ := rv; exact .str_int a t' b t
      | str b => cases q; obtain ⟨t, rfl⟩ := rv; exact .str_str a t' b t
      | _ => simp [shape] at h'
    | _ => simp [shape] at h
  | succ n ih =>
    intro d e x y u v A r q ru rv h h' hu
    have hu0 : A.units < cLine := by omega
    have hu1 : A.in1.units + n < cLine := by
      show A.units + 1 + n < cLine
      omega
    -- two rows of items
    have items : ∀ {ds es : List D} {xs ys : List V} {its its2 : List Value}, RepL X.K H ds xs → RepL X.K H es ys → Vals xs its → Vals ys its2 → shapeL n ds = true → shapeL n es = true →
        ∀ j (h1 : j < its.toArray.size) (h2 : j < its2.toArray.size), EqAt A.in1 s its.toArray[j] its2.toArray[j] (eqB (ds.getD j .non) (es.getD j .non)) := fun {ds es xs ys its its2} r3 q3 ru rv g g' j h1 h2 => by
      have e1 : ds[j]? = some (ds.getD j .non) := by
        rw [List.getD_eq_getElem?_getD, List.getElem?_eq_getElem (by rw [r3.len, ru.length]; simpa using h1)]
        rfl
      have e2 : es[j]? = some (es.getD j .non) := by
        rw [List.getD_eq_getElem?_getD, List.getElem?_eq_getElem (by rw [q3.len, rv.length]; simpa using h2)]
        rfl
      obtain ⟨x, ex, rx⟩ := r3.get e1
      obtain ⟨y, ey, ry⟩ := q3.get e2
      obtain ⟨a, ea, ra⟩ := ru.get ex
      obtain ⟨b, eb, rb⟩ := rv.get ey
      have i1 : its.toArray[j] = a := by
        have := List.getElem?_eq_some_iff.mp ea
        obtain ⟨_, w⟩ := this
        simpa using w
      have i2 : its2.toArray[j] = b := by
        have := List.getElem?_eq_some_iff.mp eb
        obtain ⟨_, w⟩ := this
        simpa using w
      rw [i1, i2]
      exact ih _ _ x y a b A.in1 rx ry ra rb (shapeL_get g e1) (shapeL_get g' e2) hu1
    cases d with
    | non =>
      cases r; cases ru
      cases e with
      | non => cases q; cases rv; exact .same _
      | bl b => cases q; cases rv; exact .none_bool b
      | int b => cases q; obtain ⟨t, rfl⟩ := rv; exact .none_int b t
      | str b => cases q; obtain ⟨t, rfl⟩ := rv; exact .none_str b t
      | tup es => obtain ⟨b, ys, q1, q2, q3⟩ := q; subst q1; cases rv; obtain ⟨its, _, p⟩ := tup_is I q2; exact .none_tuple p hu0
      | lst es => obtain ⟨b, ys, q1, q2, q3⟩ := q; subst q1; cases rv; obtain ⟨its, _, p⟩ := lst_is I q2; exact .none_list p hu0
      | _ => simp [shape] at h'
    | bl a =>
      cases r; cases ru
      cases e with
      | non => cases q; cases rv; exact .bool_none a
      | bl b => cases q; cases rv; exact .bool_bool a b
      | int b => cases q; obtain ⟨t, rfl⟩ := rv; exact .bool_int a b t
      | str b => cases q; obtain ⟨t, rfl⟩ := rv; exact .bool_str a b t
      | tup es => obtain ⟨b, ys, q1, q2, q3⟩ := q; subst q1; cases rv; obtain ⟨its, _, p⟩ := tup_is I q2; exact .bool_tuple a p hu0
      | lst es => obtain ⟨b, ys, q1, q2, q3⟩ := q; subst q1; cases rv; obtain ⟨its, _, p⟩ := lst_is I q2; exact .bool_list a p hu0
      | _ => simp [shape] at h'
    | int a =>
      cases r; obtain ⟨t', rfl⟩ := ru
      cases e with
      | non => cases q; cases rv; exact .int_none a t'
      | bl b => cases q; cases rv; exact .int_bool a t' b
      | int b => cases q; obtain ⟨t, rfl⟩ := rv; exact .int_int a t' b t
      | str b => cases q; obtain ⟨t, rfl⟩ := rv; exact .int_str a t' b t
      | tup es => obtain ⟨b, ys, q1, q2, q3⟩ := q; subst q1; cases rv; obtain ⟨its, _, p⟩ := tup_is I q2; exact .int_tuple a t' p hu0
      | lst es => obtain ⟨b, ys, q1, q2, q3⟩ := q; subst q1; cases rv; obtain ⟨its, _, p⟩ := lst_is I q2; exact .int_list a t' p hu0
      | _ => simp [shape] at h'
    | str a =>
      cases r; obtain ⟨t', rfl⟩ := ru
      cases e with
      | non => cases q; cases rv; exact .str_none a t'
      | bl b => cases q; cases rv; exact .str_bool a t' b
      | int b => cases q; obtain ⟨t, rfl⟩ := rv; exact .str_int a t' b t
      | str b => cases q; obtain ⟨t, rfl⟩ := rv; exact .str_str a t' b t
      | tup es => obtain ⟨b, ys, q1, q2, q3⟩ := q; subst q1; cases rv; obtain ⟨its, _, p⟩ := tup_is I q2; exact .str_tuple a t' p hu0
      | lst es => obtain ⟨b, ys, q1, q2, q3⟩ := q; subst q1; cases rv; obtain ⟨its, _, p⟩ := lst_is I q2; exact .str_list a t' p hu0
      | _ => simp [shape] at h'
    | tup ds =>
      obtain ⟨a, xs, r1, r2, r3⟩ := r
      subst r1
      cases ru
      obtain ⟨its, ri, p⟩ := tup_is I r2
      have g : shapeL n ds = true := by rw [shape] at h; exact h
      cases e with
      | non => cases q; cases rv; exact .tuple_none p hu0
      | bl b => cases q; cases rv; exact .tuple_bool b p hu0
      | int b => cases q; obtain ⟨t, rfl⟩ := rv; exact .tuple_int b t p hu0
      | str b => cases q; obtain ⟨t, rfl⟩ := rv; exact .tuple_str b t p hu0
      | tup es =>
        obtain ⟨b, ys, q1, q2, q3⟩ := q
        subst q1
        cases rv
        obtain ⟨its2, ri2, p2⟩ := tup_is I q2
        have g' : shapeL n es = true := by rw [shape] at h'; exact h'
        by_cases z : a = b
        · subst z
          have := I.tuple_inj r2.sq q2.sq
          subst this
          have e1 : eqB (.tup ds) (.tup es) = true := eqBL_same I n ds es xs r3 q3 g g'
          rw [e1]
          exact .same _
        · have hq := RcAt.tuples (e := fun j => eqB (ds.getD j .non) (es.getD j .non)) p p2 hu0 (items r3 q3 ri ri2 g g')
          have e1 : eqB (.tup ds) (.tup es) = eqBL ds es := rfl
          rw [e1, eqBL_iff, r3.len, q3.len, ri.length, ri2.length]
          simp only [List.size_toArray] at hq
          exact .of_refs z hq
      | lst es =>
        obtain ⟨b, ys, q1, q2, q3⟩ := q
        subst q1
        cases rv
        obtain ⟨its2, ri2, p2⟩ := lst_is I q2
        exact .tuple_list p p2 hu0
      | _ => simp [shape] at h'
    | lst ds =>
      obtain ⟨a, xs, r1, r2, r3⟩ := r
      subst r1
      cases ru
      obtain ⟨its, ri, p⟩ := lst_is I r2
      have g : shapeL n ds = true := by rw [shape] at h; exact h
      cases e with
      | non => cases q; cases rv; exact .list_none p hu0
      | bl b => cases q; cases rv; exact .list_bool b p hu0
      | int b => cases q; obtain ⟨t, rfl⟩ := rv; exact .list_int b t p hu0
      | str b => cases q; obtain ⟨t, rfl⟩ := rv; exact .list_str b t p hu0
      | lst es =>
        obtain ⟨b, ys, q1, q2, q3⟩ := q
        subst q1
        cases rv
        obtain ⟨its2, ri2, p2⟩ := lst_is I q2
        have g' : shapeL n es = true := by rw [shape] at h'; exact h'
        have e1 : eqB (.lst ds) (.lst es) = eqBL ds es := rfl
        rw [e1]
        by_cases z : a = b
        · subst z
          rw [r2] at q2
          cases q2
          rw [eqBL_same I n ds es xs r3 q3 g g']
          exact .same _
        · by_cases hz : its.toArray.size = its2.toArray.size
          · have hq := RcAt.lists (e := fun j => eqB (ds.getD j .non) (es.getD j .non)) p p2 hz hu0 (items r3 q3 ri ri2 g g')
            rw [eqBL_iff, r3.len, q3.len, ri.length, ri2.length]
            simp only [List.size_toArray] at hq hz
            rw [hz, Nat.min_self, beq_self_eq_true, Bool.and_true]
            rw [hz] at hq
            exact .of_refs z hq
          · have hq := RcAt.lists_lengths p p2 (by simpa using hz) hu0
            have : eqBL ds es = false := by
              rw [eqBL_iff, r3.len, q3.len, ri.length, ri2.length]
              simp only [List.size_toArray] at hz
              simp [hz]
            rw [this]
            exact .of_refs z hq
      | tup es =>
        obtain ⟨b, ys, q1, q2, q3⟩ := q
        subst q1
        cases rv
        obtain ⟨its2, ri2, p2⟩ := tup_is I q2
        exact .list_tuple p p2 hu0
      | _ => simp [shape] at h'
    | _ => simp [shape] at h

open SeqAt in
theorem items_D (I : Inv X pins σ H s) {n : Nat} {A : Around} (hu : A.units + n < cLine) {ds es : List D} {xs ys : List V} {its its2 : List Value} (r3 : RepL X.K H ds xs) (q3 : RepL X.K H es ys) (ru : Vals xs its) (rv : Vals ys its2) (g : shapeL n ds = true) (g' : shapeL n es = true) :
    ∀ j (h1 : j < its.toArray.size) (h2 : j < its2.toArray.size), EqAt A s its.toArray[j] its2.toArray[j] (eqB (ds.getD j .non) (es.getD j .non)) := fun j h1 h2 => by
  have e1 : ds[j]? = some (ds.getD j .non) := by
    rw [List.getD_eq_getElem?_getD, List.getElem?_eq_getElem (by rw [r3.len, ru.length]; simpa using h1)]
    rfl
  have e2 : es[j]? = some (es.getD j .non) := by
    rw [List.getD_eq_getElem?_getD, List.getElem?_eq_getElem (by rw [q3.len, rv.length]; simpa using h2)]
    rfl
  obtain ⟨x, ex, rx⟩ := r3.get e1
  obtain ⟨y, ey, ry⟩ := q3.get e2
  obtain ⟨a, ea, ra⟩ := ru.get ex
  obtain ⟨b, eb, rb⟩ := rv.get ey
  have i1 : its.toArray[j] = a := by
    obtain ⟨_, w⟩ := List.getElem?_eq_some_iff.mp ea
    simpa using w
  have i2 : its2.toArray[j] = b := by
    obtain ⟨_, w⟩ := List.getElem?_eq_some_iff.mp eb
    simpa using w
  rw [i1, i2]
  exact eqAt_D I n _ _ x y a b A rx ry ra rb (shapeL_get g e1) (shapeL_get g' e2) hu
open SeqAt in
theorem rcAt_D (I : Inv X pins σ H s) (n : Nat) (d e : D) (x y : V) (u v : Value) (A : Around) (r : Rep X.K H d x) (q : Rep X.K H e y) (ru : RelV x u) (rv : RelV y v) (h : shape n d = true) (h' : shape n e = true) (hu : A.units + n < cLine) : RcAt A s u v (eqB d e) := by
  have hu0 : A.units < cLine := by omega
  have down : ∀ {ds : List D}, (shape n (.tup ds) = true → ∃ m, n = m + 1 ∧ shapeL m ds = true) ∧ (shape n (.lst ds) = true → ∃ m, n = m + 1 ∧ shapeL m ds = true) := fun {ds} => by
    cases n with
    | zero => exact ⟨fun z => by simp [shape] at z, fun z => by simp [shape] at z⟩
    | succ m => exact ⟨fun z => ⟨m, rfl, by rw [shape] at z; exact z⟩, fun z => ⟨m, rfl, by rw [shape] at z; exact z⟩⟩
  have no : ∀ {f : D}, shape n f = true → (∀ ks vs, f ≠ .dct ks vs) ∧ (∀ w, f ≠ .rf w) ∧ ∀ w, f ≠ .scr w := fun {f} z => by
    refine ⟨fun ks vs w => ?_, fun a w => ?_, fun a w => ?_⟩ <;> (subst w; cases n <;> simp [shape] at z)
  cases d with
  | non =>
    cases r; cases ru
    cases e with
    | non => cases q; cases rv; exact .none_none
    | bl b => cases q; cases rv; exact .none_bool b
    | int b => cases q; obtain ⟨t, rfl⟩ := rv; exact .none_int b t
    | str b => cases q; obtain ⟨t, rfl⟩ := rv; exact .none_str b t
    | tup es => obtain ⟨b, ys, q1, q2, q3⟩ := q; subst q1; cases rv; obtain ⟨its, _, p⟩ := tup_is I q2; exact .none_tuple p hu0
    | lst es => obtain ⟨b, ys, q1, q2, q3⟩ := q; subst q1; cases rv; obtain ⟨its, _, p⟩ := lst_is I q2; exact .none_list p hu0
    | dct ks vs => exact absurd rfl ((no h').1 ks vs)
    | rf w => exact absurd rfl ((no h').2.1 w)
    | scr w => exact absurd rfl ((no h').2.2 w)
  | bl a =>
    cases r; cases ru
    cases e with
    | non => cases q; cases rv; exact .bool_none a
    | bl b => cases q; cases rv; exact .bool_bool a b
    | int b => cases q; obtain ⟨t, rfl⟩ := rv; exact .bool_int a b t
    | str b => cases q; obtain ⟨t, rfl⟩ := rv; exact .bool_str a b t
    | tup es => obtain ⟨b, ys, q1, q2, q3⟩ := q; subst q1; cases rv; obtain ⟨its, _, p⟩ := tup_is I q2; exact .bool_tuple a p hu0
    | lst es => obtain ⟨b, ys, q1, q2, q3⟩ := q; subst q1; cases rv; obtain ⟨its, _, p⟩ := lst_is I q2; exact .bool_list a p hu0
    | dct ks vs => exact absurd rfl ((no h').1 ks vs)
    | rf w => exact absurd rfl ((no h').2.1 w)
    | scr w => exact absurd rfl ((no h').2.2 w)
  | int a =>
    cases r; obtain ⟨t', rfl⟩ := ru
    cases e with
    | non => cases q; cases rv; exact .int_none a t'
    | bl b => cases q; cases rv; exact .int_bool a t' b
    | int b => cases q; obtain ⟨t, rfl⟩ := rv; exact .int_int a t' b t
    | str b => cases q; obtain ⟨t, rfl⟩ := rv; exact .int_str a t' b t
    | tup es => obtain ⟨b, ys, q1, q2, q3⟩ := q; subst q1; cases rv; obtain ⟨its, _, p⟩ := tup_is I q2; exact .int_tuple a t' p hu0
    | lst es => obtain ⟨b, ys, q1, q2, q3⟩ := q; subst q1; cases rv; obtain ⟨its, _, p⟩ := lst_is I q2; exact .int_list a t' p hu0
    | dct ks vs => exact absurd rfl ((no h').1 ks vs)
    | rf w => exact absurd rfl ((no h').2.1 w)
    | scr w => exact absurd rfl ((no h').2.2 w)
  | str a =>
    cases r; obtain ⟨t', rfl⟩ := ru
    cases e with
    | non => cases q; cases rv; exact .str_none a t'
    | bl b => cases q; cases rv; exact .str_bool a t' b
    | int b => cases q; obtain ⟨t, rfl⟩ := rv; exact .str_int a t' b t
    | str b => cases q; obtain ⟨t, rfl⟩ := rv; exact .str_str a t' b t
    | tup es => obtain ⟨b, ys, q1, q2, q3⟩ := q; subst q1; cases rv; obtain ⟨its, _, p⟩ := tup_is I q2; exact .str_tuple a t' p hu0
    | lst es => obtain ⟨b, ys, q1, q2, q3⟩ := q; subst q1; cases rv; obtain ⟨its, _, p⟩ := lst_is I q2; exact .str_list a t' p hu0
    | dct ks vs => exact absurd rfl ((no h').1 ks vs)
    | rf w => exact absurd rfl ((no h').2.1 w)
    | scr w => exact absurd rfl ((no h').2.2 w)
  | tup ds =>
    obtain ⟨a, xs, r1, r2, r3⟩ := r
    subst r1
    cases ru
    obtain ⟨its, ri, p⟩ := tup_is I r2
    obtain ⟨m, en, g⟩ := down.1 h
    subst en
    cases e with
    | non => cases q; cases rv; exact .tuple_none p hu0
    | bl b => cases q; cases rv; exact .tuple_bool b p hu0
    | int b => cases q; obtain ⟨t, rfl⟩ := rv; exact .tuple_int b t p hu0
    | str b => cases q; obtain ⟨t, rfl⟩ := rv; exact .tuple_str b t p hu0
    | lst es =>
      obtain ⟨b, ys, q1, q2, q3⟩ := q
      subst q1
      cases rv
      obtain ⟨its2, ri2, p2⟩ := lst_is I q2
      exact .tuple_list p p2 hu0
    | tup es =>
      obtain ⟨b, ys, q1, q2, q3⟩ := q
      subst q1
      cases rv
      obtain ⟨its2, ri2, p2⟩ := tup_is I q2
      have g' : shapeL m es = true := by rw [shape] at h'; exact h'
      have e1 : eqB (.tup ds) (.tup es) = eqBL ds es := rfl
      have hi := items_D I (A := A.in1) (n := m) (by show A.units + 1 + m < cLine; omega) r3 q3 ri ri2 g g'
      have hq := RcAt.tuples (e := fun j => eqB (ds.getD j .non) (es.getD j .non)) p p2 hu0 hi
      rw [e1, eqBL_iff, r3.len, q3.len, ri.length, ri2.length]
      simp only [List.size_toArray] at hq
      exact hq
    | dct ks vs => exact absurd rfl ((no h').1 ks vs)
    | rf w => exact absurd rfl ((no h').2.1 w)
    | scr w => exact absurd rfl ((no h').2.2 w)
  | lst ds =>
    obtain ⟨a, xs, r1, r2, r3⟩ := r
    subst r1
    cases ru
    obtain ⟨its, ri, p⟩ := lst_is I r2
    obtain ⟨m, en, g⟩ := down.2 h
    subst en
    cases e with
    | non => cases q; cases rv; exact .list_none p hu0
    | bl b => cases q; cases rv; exact .list_bool b p hu0
    | int b => cases q; obtain ⟨t, rfl⟩ := rv; exact .list_int b t p hu0
    | str b => cases q; obtain ⟨t, rfl⟩ := rv; exact .list_str b t p hu0
    | tup es =>
      obtain ⟨b, ys, q1, q2, q3⟩ := q
      subst q1
      cases rv
      obtain ⟨its2, ri2, p2⟩ := tup_is I q2
      exact .list_tuple p p2 hu0
    | lst es =>
      obtain ⟨b, ys, q1, q2, q3⟩ := q
      subst q1
      cases rv
      obtain ⟨its2, ri2, p2⟩ := lst_is I q2
      have g' : shapeL m es = true := by rw [shape] at h'; exact h'
      have e1 : eqB (.lst ds) (.lst es) = eqBL ds es := rfl
      have hi := items_D I (A := A.in1) (n := m) (by show A.units + 1 + m < cLine; omega) r3 q3 ri ri2 g g'
      by_cases hz : its.toArray.size = its2.toArray.size
      · have hq := RcAt.lists (e := fun j => eqB (ds.getD j .non) (es.getD j .non)) p p2 hz hu0 hi
        rw [e1, eqBL_iff, r3.len, q3.len, ri.length, ri2.length]
        simp only [List.size_toArray] at hq hz
        rw [hz, Nat.min_self, beq_self_eq_true, Bool.and_true]
        rw [hz] at hq
        exact hq
      · have hq := RcAt.lists_lengths p p2 (by simpa using hz) hu0
        have : eqBL ds es = false := by
          rw [eqBL_iff, r3.len, q3.len, ri.length, ri2.length]
          simp only [List.size_toArray] at hz
          simp [hz]
        rw [e1, this]
        exact hq
    | dct ks vs => exact absurd rfl ((no h').1 ks vs)
    | rf w => exact absurd rfl ((no h').2.1 w)
    | scr w => exact absurd rfl ((no h').2.2 w)
  | dct ks vs => exact absurd rfl ((no h).1 ks vs)
  | rf w => exact absurd rfl ((no h).2.1 w)
  | scr w => exact absurd rfl ((no h).2.2 w)
open SeqAt in
theorem rcNe_D (I : Inv X pins σ H s) (n : Nat) (d e : D) (x y : V) (u v : Value) (A : Around) (r : Rep X.K H d x) (q : Rep X.K H e y) (ru : RelV x u) (rv : RelV y v) (h : shape n d = true) (h' : shape n e = true) (hu : A.units + n < cLine) : RcNeAt A s u v (!eqB d e) := by
  have hu0 : A.units < cLine := by omega
  have down : ∀ {ds : List D}, (shape n (.tup ds) = true → ∃ m, n = m + 1 ∧ shapeL m ds = true) ∧ (shape n (.lst ds) = true → ∃ m, n = m + 1 ∧ shapeL m ds = true) := fun {ds} => by
    cases n with
    | zero => exact ⟨fun z => by simp [shape] at z, fun z => by simp [shape] at z⟩
    | succ m => exact ⟨fun z => ⟨m, rfl, by rw [shape] at z; exact z⟩, fun z => ⟨m, rfl, by rw [shape] at z; exact z⟩⟩
  have no : ∀ {f : D}, shape n f = true → (∀ ks vs, f ≠ .dct ks vs) ∧ (∀ w, f ≠ .rf w) ∧ ∀ w, f ≠ .scr w := fun {f} z => by
    refine ⟨fun ks vs w => ?_, fun a w => ?_, fun a w => ?_⟩ <;> (subst w; cases n <;> simp [shape] at z)
  cases d with
  | non =>
    cases r; cases ru
    cases e with
    | non => cases q; cases rv; exact .none_none
    | bl b => cases q; cases rv; exact .none_bool b
    | int b => cases q; obtain ⟨t, rfl⟩ := rv; exact .none_int b t
    | str b => cases q; obtain ⟨t, rfl⟩ := rv; exact .none_str b t
    | tup es => obtain ⟨b, ys, q1, q2, q3⟩ := q; subst q1; cases rv; obtain ⟨its, _, p⟩ := tup_is I q2; exact .none_tuple p hu0
    | lst es => obtain ⟨b, ys, q1, q2, q3⟩ := q; subst q1; cases rv; obtain ⟨its, _, p⟩ := lst_is I q2; exact .none_list p hu0
    | dct ks vs => exact absurd rfl ((no h').1 ks vs)
    | rf w => exact absurd rfl ((no h').2.1 w)
    | scr w => exact absurd rfl ((no h').2.2 w)
  | bl a =>
    cases r; cases ru
    cases e with
    | non => cases q; cases rv; exact .bool_none a
    | bl b => cases q; cases rv; exact .bool_bool a b
    | int b => cases q; obtain ⟨t, rfl⟩ := rv; exact .bool_int a b t
    | str b => cases q; obtain ⟨t, rfl⟩ := rv; exact .bool_str a b t
    | tup es => obtain ⟨b, ys, q1, q2, q3⟩ := q; subst q1; cases rv; obtain ⟨its, _, p⟩ := tup_is I q2; exact .bool_tuple a p hu0
    | lst es => obtain ⟨b, ys, q1, q2, q3⟩ := q; subst q1; cases rv; obtain ⟨its, _, p⟩ := lst_is I q2; exact .bool_list a p hu0
    | dct ks vs => exact absurd rfl ((no h').1 ks vs)
    | rf w => exact absurd rfl ((no h').2.1 w)
    | scr w => exact absurd rfl ((no h').2.2 w)
  | int a =>
    cases r; obtain ⟨t', rfl⟩ := ru
    cases e with
    | non => cases q; cases rv; exact .int_none a t'
    | bl b => cases q; cases rv; exact .int_bool a t' b
    | int b => cases q; obtain ⟨t, rfl⟩ := rv; exact .int_int a t' b t
    | str b => cases q; obtain ⟨t, rfl⟩ := rv; exact .int_str a t' b t
    | tup es => obtain ⟨b, ys, q1, q2, q3⟩ := q; subst q1; cases rv; obtain ⟨its, _, p⟩ := tup_is I q2; exact .int_tuple a t' p hu0
    | lst es => obtain ⟨b, ys, q1, q2, q3⟩ := q; subst q1; cases rv; obtain ⟨its, _, p⟩ := lst_is I q2; exact .int_list a t' p hu0
    | dct ks vs => exact absurd rfl ((no h').1 ks vs)
    | rf w => exact absurd rfl ((no h').2.1 w)
    | scr w => exact absurd rfl ((no h').2.2 w)
  | str a =>
    cases r; obtain ⟨t', rfl⟩ := ru
    cases e with
    | non => cases q; cases rv; exact .str_none a t'
    | bl b => cases q; cases rv; exact .str_bool a t' b
    | int b => cases q; obtain ⟨t, rfl⟩ := rv; exact .str_int a t' b t
    | str b => cases q; obtain ⟨t, rfl⟩ := rv; exact .str_str a t' b t
    | tup es => obtain ⟨b, ys, q1, q2, q3⟩ := q; subst q1; cases rv; obtain ⟨its, _, p⟩ := tup_is I q2; exact .str_tuple a t' p hu0
    | lst es => obtain ⟨b, ys, q1, q2, q3⟩ := q; subst q1; cases rv; obtain ⟨its, _, p⟩ := lst_is I q2; exact .str_list a t' p hu0
    | dct ks vs => exact absurd rfl ((no h').1 ks vs)
    | rf w => exact absurd rfl ((no h').2.1 w)
    | scr w => exact absurd rfl ((no h').2.2 w)
  | tup ds =>
    obtain ⟨a, xs, r1, r2, r3⟩ := r
    subst r1
    cases ru
    obtain ⟨its, ri, p⟩ := tup_is I r2
    obtain ⟨m, en, g⟩ := down.1 h
    subst en
    cases e with
    | non => cases q; cases rv; exact .tuple_none p hu0
    | bl b => cases q; cases rv; exact .tuple_bool b p hu0
    | int b => cases q; obtain ⟨t, rfl⟩ := rv; exact .tuple_int b t p hu0
    | str b => cases q; obtain ⟨t, rfl⟩ := rv; exact .tuple_str b t p hu0
    | lst es =>
      obtain ⟨b, ys, q1, q2, q3⟩ := q
      subst q1
      cases rv
      obtain ⟨its2, ri2, p2⟩ := lst_is I q2
      exact .tuple_list p p2 hu0
    | tup es =>
      obtain ⟨b, ys, q1, q2, q3⟩ := q
      subst q1
      cases rv
      obtain ⟨its2, ri2, p2⟩ := tup_is I q2
      have g' : shapeL m es = true := by rw [shape] at h'; exact h'
      have e1 : eqB (.tup ds) (.tup es) = eqBL ds es := rfl
      have hi := items_D I (A := A.in1) (n := m) (by show A.units + 1 + m < cLine; omega) r3 q3 ri ri2 g g'
      have hq := RcNeAt.tuples (e := fun j => eqB (ds.getD j .non) (es.getD j .non)) p p2 hu0 hi
      rw [e1, eqBL_iff, r3.len, q3.len, ri.length, ri2.length]
      simp only [List.size_toArray] at hq
      exact hq
    | dct ks vs => exact absurd rfl ((no h').1 ks vs)
    | rf w => exact absurd rfl ((no h').2.1 w)
    | scr w => exact absurd rfl ((no h').2.2 w)
  | lst ds =>
    obtain ⟨a, xs, r1, r2, r3⟩ := r
    subst r1
    cases ru
    obtain ⟨its, ri, p⟩ := lst_is I r2
    obtain ⟨m, en, g⟩ := down.2 h
    subst en
    cases e with
    | non => cases q; cases rv; exact .list_none p hu0
    | bl b => cases q; cases rv; exact .list_bool b p hu0
    | int b => cases q; obtain ⟨t, rfl⟩ := rv; exact .list_int b t p hu0
    | str b => cases q; obtain ⟨t, rfl⟩ := rv; exact .list_str b t p hu0
    | tup es =>
      obtain ⟨b, ys, q1, q2, q3⟩ := q
      subst q1
      cases rv
      obtain ⟨its2, ri2, p2⟩ := tup_is I q2
      exact .list_tuple p p2 hu0
    | lst es =>
      obtain ⟨b, ys, q1, q2, q3⟩ := q
      subst q1
      cases rv
      obtain ⟨its2, ri2, p2⟩ := lst_is I q2
      have g' : shapeL m es = true := by rw [shape] at h'; exact h'
      have e1 : eqB (.lst ds) (.lst es) = eqBL ds es := rfl
      have hi := items_D I (A := A.in1) (n := m) (by show A.units + 1 + m < cLine; omega) r3 q3 ri ri2 g g'
      by_cases hz : its.toArray.size = its2.toArray.size
      · have hq := RcNeAt.lists (e := fun j => eqB (ds.getD j .non) (es.getD j .non)) p p2 hz hu0 hi
        rw [e1, eqBL_iff, r3.len, q3.len, ri.length, ri2.length]
        simp only [List.size_toArray] at hq hz
        rw [hz, Nat.min_self, beq_self_eq_true, Bool.and_true]
        rw [hz] at hq
        exact hq
      · have hq := RcNeAt.lists_lengths p p2 (by simpa using hz) hu0
        have : eqBL ds es = false := by
          rw [eqBL_iff, r3.len, q3.len, ri.length, ri2.length]
          simp only [List.size_toArray] at hz
          simp [hz]
        rw [e1, this]
        exact hq
    | dct ks vs => exact absurd rfl ((no h').1 ks vs)
    | rf w => exact absurd rfl ((no h').2.1 w)
    | scr w => exact absurd rfl ((no h').2.2 w)
  | dct ks vs => exact absurd rfl ((no h).1 ks vs)
  | rf w => exact absurd rfl ((no h).2.1 w)
  | scr w => exact absurd rfl ((no h).2.2 w)
end
section
variable {X : Cx}
def eqD (d e : D) : Option D := if (shape 60 d && shape 60 e) = true then some (.bl (eqB d e)) else none
def neD (d e : D) : Option D := if (shape 60 d && shape 60 e) = true then some (.bl (!eqB d e)) else none
theorem Fz.up {F H : Hp} (z : Fz F H) : Same F H := z.1
theorem op_eqX (hu : X.A.units + 64 < cLine) : OpR X (compareOp .Eq) (rD X.K eqD) := by
  intro pins s σ H x y v u Q I rx ry h
  obtain ⟨F, d, e, z, fz, r, q, ez, k⟩ := h
  unfold eqD at ez
  split at ez
  · rename_i hs
    cases ez
    rw [Bool.and_eq_true] at hs
    refine rcAt_D I 60 d e x y v u X.A (r.mono fz.up) (q.mono fz.up) rx ry hs.1 hs.2 (by omega) X.prog X.w _ _ ⟨.bl (eqB d e), H, I, rfl, k F H _ fz.refl rfl⟩
  · cases ez
theorem op_neX (hu : X.A.units + 64 < cLine) : OpR X (compareOp .NotEq) (rD X.K neD) := by
  intro pins s σ H x y v u Q I rx ry h
  obtain ⟨F, d, e, z, fz, r, q, ez, k⟩ := h
  unfold neD at ez
  split at ez
  · rename_i hs
    cases ez
    rw [Bool.and_eq_true] at hs
    exact rcNe_D I 60 d e x y v u X.A (r.mono fz.up) (q.mono fz.up) rx ry hs.1 hs.2 (by omega) X.prog X.w _ _ ⟨.bl (!eqB d e), H, I, rfl, k F H _ fz.refl rfl⟩
  · cases ez
end
end Pl
/-! a text beside a dict -/
namespace Pl
open PySem PySem.Spec PyProof.Rows L2 SeqAt
theorem sub_sd : isSubtype (.type "str") (.type "dict") = pure false := by rw [isSubtype_type]; kernel_rfl
theorem sub_ds : isSubtype (.type "dict") (.type "str") = pure false := by rw [isSubtype_type]; kernel_rfl
theorem deq_no (a : Addr) (b : Str) (u : Tok) (es : Array DictEntry) (n : Nat) (dd : Option Addr) (sl : Array (Option Value)) :
    Meets (Builtin.«dict.__eq__» ⟨[.ref a, .str b u], []⟩) fun _ R s =>
      s.heap.get? a = some { cls := .type "dict", dict := dd, data := .dict es n, slots := sl } ∧ R (.ok (.ret .notImplemented)) s := by
  refine .of_wp fun prog w A R s h => ?_
  obtain ⟨hp, g, d, tk, os⟩ := s
  obtain ⟨hl, h⟩ := h
  have sub := sub_sd
  wp_walk using wpAny_loadPart' hl
  exact ⟨_, rfl, h⟩
theorem seq_no (a : Addr) (b : Str) (u : Tok) (es : Array DictEntry) (n : Nat) (dd : Option Addr) (sl : Array (Option Value)) :
    Meets (Builtin.«str.__eq__» ⟨[.str b u, .ref a], []⟩) fun _ R s =>
      s.heap.get? a = some { cls := .type "dict", dict := dd, data := .dict es n, slots := sl } ∧ R (.ok (.ret .notImplemented)) s := by
  refine .of_wp fun prog w A R s h => ?_
  obtain ⟨hp, g, d, tk, os⟩ := s
  obtain ⟨hl, h⟩ := h
  wp_walk using wpAny_loadPart' hl, wpAny_load hl
  exact ⟨_, rfl, h⟩
theorem rc_sd {A : Around} {s : Shared} {a : Addr} {o : Obj} {es : Array DictEntry} {n : Nat} (b : Str) (u : Tok) (ho : s.heap.get? a = some o) (hc : o.cls = .type "dict") (hd : o.data = .dict es n) (hu : A.units < cLine) : RcAt A s (.str b u) (.ref a) false := fun prog w E Q h => by
  obtain ⟨cls, dd, data, sl⟩ := o
  simp only at hc hd
  subst hc hd
  refine rc_eq_decline_or (k := false) (typeIs_str s b u) ⟨_, ho, rfl⟩ (by decide) sub_ds F.slot_str_eq F.slot_dict_eq_refl (fun _ hq => ?_) (fun _ hq => ?_) (fun _ hq => ?_) (.inr hu) h
  · exact call_meets F.slot_str_eq (typeIs_str s b u) F.entry_str_eq (F.args_str_eq_2 _ _) (seq_no a b u es n dd sl) ⟨ho, hq⟩
  · exact call_meets F.slot_dict_eq_refl ⟨_, ho, rfl⟩ F.entry_dict_eq (F.args_dict_eq_2 _ _) (deq_no a b u es n dd sl) ⟨ho, hq⟩
  · exact wpAny_of_eq (rfl : isSame (.str b u) (.ref a) = pure false) hq
theorem eq_sd {A : Around} {s : Shared} {a : Addr} {o : Obj} {es : Array DictEntry} {n : Nat} (b : Str) (u : Tok) (ho : s.heap.get? a = some o) (hc : o.cls = .type "dict") (hd : o.data = .dict es n) (hu : A.units < cLine) : EqAt A s (.str b u) (.ref a) false := fun prog w E Q h => by
  unfold eqBool
  refine wpAny_holding ?_
  refine wpAny_ite_split (fun same => absurd (eq_of_beq same) nofun) fun _ => ?_
  exact wpAny_bind (rc_sd b u ho hc hd hu prog w E _ (wpAny_truthy_bool h))
end Pl
namespace Pl
open PySem PySem.Spec PyProof.Rows L2
/-! ## H. operations on data: numbers, order, items, slices -/
def iop (C : Int → Int → Bool) (g : Int → Int → D) : D → D → Option D
  | .int i, .int j => if C i j = true then some (g i j) else none
  | _, _ => none
section
variable {X : Cx}
theorem opd_int {f : Value → Value → Sem Value} {C : Int → Int → Prop} {Cb : Int → Int → Bool} {g : Int → Int → V} {gd : Int → Int → D} (ho : OpR X f (rI C g)) (hc : ∀ i j, Cb i j = true → C i j) (hg : ∀ F i j, Rep X.K F (gd i j) (g i j)) : OpR X f (rD X.K (iop Cb gd)) := by
  intro pins s σ H x y v u Q I rx ry h
  obtain ⟨F, d, e, z, fz, r, q, ez, k⟩ := h
  cases d with
  | int i =>
    cases e with
    | int j =>
      have ez : (if Cb i j = true then some (gd i j) else none) = some z := ez
      split at ez
      · cases ez
        cases r
        cases q
        exact ho pins s σ H _ _ v u Q I rx ry ⟨i, j, rfl, rfl, hc i j (by assumption), k F H _ fz.refl (hg F i j)⟩
      · cases ez
    | _ => cases ez
  | _ => cases ez
theorem opd_int0 {f : Value → Value → Sem Value} {g : Int → Int → V} {gd : Int → Int → D} (ho : OpR X f (rI0 g)) (hg : ∀ F i j, Rep X.K F (gd i j) (g i j)) : OpR X f (rD X.K (iop (fun _ _ => true) gd)) :=
  opd_int (C := fun _ _ => True) (fun pins s σ H x y v u Q I rx ry ⟨i, j, h1, h2, _, q⟩ => ho pins s σ H x y v u Q I rx ry ⟨i, j, h1, h2, q⟩) (fun _ _ _ => trivial) hg
def subD := iop (fun _ _ => true) fun i j => .int (i - j)
def modD := iop (fun _ j => decide (0 < j)) fun i j => .int (i % j)
def fdivD := iop (fun _ j => decide (0 < j ∧ j < 1073741824)) fun i j => .int (i / j)
def powD := iop (fun i j => decide (0 ≤ j ∧ (Builtin.Int.intBits i : Int) * j ≤ 2 ^ 27)) fun i j => .int (i ^ j.toNat)
def andD := iop (fun _ _ => true) fun i j => .int (Builtin.bitAnd i j)
def orD := iop (fun _ _ => true) fun i j => .int (Builtin.bitOr i j)
def xorD := iop (fun _ _ => true) fun i j => .int (Builtin.bitXor i j)
def shlD := iop (fun i j => decide (0 ≤ j ∧ j ≤ 1000000 ∧ i.natAbs < 2 ^ 64)) fun i j => .int (i * 2 ^ j.toNat)
def shrD := iop (fun _ j => decide (0 ≤ j)) fun i j => .int (i / 2 ^ j.toNat)
theorem op_subX : OpR X (binaryOp .Sub) (rD X.K subD) := opd_int0 op_sub fun _ _ _ => rfl
theorem op_modX : OpR X (binaryOp .Mod) (rD X.K modD) := opd_int op_mod (fun _ _ h => of_decide_eq_true h) fun _ _ _ => rfl
theorem op_fdivX : OpR X (binaryOp .FloorDiv) (rD X.K fdivD) := opd_int op_fdiv (fun i j h => (of_decide_eq_true h : 0 < j ∧ j < 1073741824)) fun _ _ _ => rfl
theorem op_powX : OpR X (binaryOp .Pow) (rD X.K powD) := opd_int (C := fun i j => 0 ≤ j ∧ (Builtin.Int.intBits i : Int) * j ≤ 2 ^ 27) (g := fun i j => .int (i ^ j.toNat)) (opI fun _ _ _ _ _ _ _ hc q => pow_int hc.1 hc.2 q) (fun _ _ h => of_decide_eq_true h) fun _ _ _ => rfl
theorem op_andX : OpR X (binaryOp .BitAnd) (rD X.K andD) := opd_int0 op_and fun _ _ _ => rfl
theorem op_orX : OpR X (binaryOp .BitOr) (rD X.K orD) := opd_int0 op_or fun _ _ _ => rfl
theorem op_xorX : OpR X (binaryOp .BitXor) (rD X.K xorD) := opd_int0 op_xor fun _ _ _ => rfl
theorem op_shlX : OpR X (binaryOp .LShift) (rD X.K shlD) := opd_int op_shl (fun i j h => (of_decide_eq_true h : 0 ≤ j ∧ j ≤ 1000000 ∧ i.natAbs < 2 ^ 64)) fun _ _ _ => rfl
theorem op_shrX : OpR X (binaryOp .RShift) (rD X.K shrD) := opd_int op_shr (fun _ _ h => of_decide_eq_true h) fun _ _ _ => rfl
/-- + of numbers, texts, tuples, lists -/
def addD : D → D → Option D
  | .int i, .int j => some (.int (i + j))
  | .str i, .str j => if i.length + j.length ≤ 100000 then some (.str (i ++ j)) else none
  | .tup xs, .tup ys => if xs.length + ys.length ≤ 100000 then some (.tup (xs ++ ys)) else none
  | .lst xs, .lst ys => if xs.length + ys.length ≤ 100000 then some (.lst (xs ++ ys)) else none
  | _, _ => none
theorem op_addX : OpR X (binaryOp .Add) (rD X.K addD) := by
  intro pins s σ H x y v u Q I rx ry h
  obtain ⟨F, d, e, z, fz, r, q, ez, k⟩ := h
  cases d with
  | int i =>
    cases e with
    | int j =>
      cases ez
      cases r
      cases q
      exact op_add pins s σ H _ _ v u Q I rx ry ⟨i, j, rfl, rfl, k F H _ fz.refl rfl⟩
    | _ => cases ez
  | str i =>
    cases e with
    | str j =>
      have ez : (if i.length + j.length ≤ 100000 then some (D.str (i ++ j)) else none) = some z := ez
      split at ez
      · cases ez
        cases r
        cases q
        exact op_add_str pins s σ H _ _ v u Q I rx ry ⟨i, j, rfl, rfl, Nat.le_trans (by assumption) h100, k F H _ fz.refl rfl⟩
      · cases ez
    | _ => cases ez
  | tup ds =>
    cases e with
    | tup es =>
      have ez : (if ds.length + es.length ≤ 100000 then some (D.tup (ds ++ es)) else none) = some z := ez
      split at ez
      · cases ez
        obtain ⟨a, xs, r1, r2, r3⟩ := r
        obtain ⟨b, ys, q1, q2, q3⟩ := q
        subst r1 q1
        refine op_catA pins s σ H _ _ v u Q I rx ry ⟨a, b, xs, ys, rfl, rfl, sqT_mono fz.up r2.sq, sqT_mono fz.up q2.sq, by rw [← r3.len, ← q3.len]; exact Nat.le_trans (by assumption) h100, fun hx => ?_, fun _ hy => ?_, fun _ _ p hp => ?_⟩
        · subst hx
          have hd : ds = [] := List.eq_nil_of_length_eq_zero r3.len
          subst hd
          exact k F H _ fz.refl ⟨b, ys, rfl, q2, q3⟩
        · subst hy
          have he : es = [] := List.eq_nil_of_length_eq_zero q3.len
          subst he
          rw [List.append_nil] at k
          exact k F H _ fz.refl ⟨a, xs, rfl, r2, r3⟩
        · have g := fz.new (o := .tup (xs ++ ys)) hp fun _ z => by cases z
          exact k _ _ _ g ⟨p, _, rfl, .inl upd_same, (r3.app q3).mono g.fs⟩
      · cases ez
    | _ => cases ez
  | lst ds =>
    cases e with
    | lst es =>
      have ez : (if ds.length + es.length ≤ 100000 then some (D.lst (ds ++ es)) else none) = some z := ez
      split at ez
      · cases ez
        obtain ⟨a, xs, r1, r2, r3⟩ := r
        obtain ⟨b, ys, q1, q2, q3⟩ := q
        subst r1 q1
        refine op_cat pins s σ H _ _ v u Q I rx ry ⟨a, b, xs, ys, rfl, rfl, fz.up _ _ r2, fz.up _ _ q2, by rw [← r3.len, ← q3.len]; exact Nat.le_trans (by assumption) h100, fun p hp => ?_⟩
        have g := fz.new (o := .lst (xs ++ ys)) hp fun _ z => by cases z
        exact k _ _ _ g ⟨p, _, rfl, upd_same, (r3.app q3).mono g.fs⟩
      · cases ez
    | _ => cases ez
  | _ => cases ez
theorem RepL.rep {K : PySem.W.Frag} {F : Hp} {ds : List D} {xs : List V} (r : RepL K F ds xs) : ∀ n : Nat, RepL K F (List.replicate n ds).flatten (List.replicate n xs).flatten
  | 0 => rfl
  | n + 1 => by
    rw [List.replicate_succ, List.replicate_succ, List.flatten_cons, List.flatten_cons]
    exact r.app (RepL.rep r n)
/-- * of numbers, of a list or a tuple and a number, of a text and a number -/
def mulD : D → D → Option D
  | .int i, .int j => if i.natAbs.log2 + j.natAbs.log2 < 1000000 then some (.int (i * j)) else none
  | .lst xs, .int k => if 0 ≤ k ∧ k ≤ 100000 ∧ xs.length * k.toNat ≤ 100000 then some (.lst (List.replicate k.toNat xs).flatten) else none
  | .tup xs, .int k => if 0 < xs.length ∧ 2 ≤ k ∧ k ≤ 1000 ∧ xs.length ≤ 1000 then some (.tup (List.replicate k.toNat xs).flatten) else none
  | _, _ => none
theorem op_mulX : OpR X (binaryOp .Mult) (rD X.K mulD) := by
  intro pins s σ H x y v u Q I rx ry h
  obtain ⟨F, d, e, z, fz, r, q, ez, k⟩ := h
  cases d with
  | int i =>
    cases e with
    | int j =>
      have ez : (if i.natAbs.log2 + j.natAbs.log2 < 1000000 then some (D.int (i * j)) else none) = some z := ez
      split at ez
      · cases ez
        cases r
        cases q
        exact op_mulW pins s σ H _ _ v u Q I rx ry ⟨i, j, rfl, rfl, by assumption, k F H _ fz.refl rfl⟩
      · cases ez
    | _ => cases ez
  | lst ds =>
    cases e with
    | int j =>
      have ez : (if 0 ≤ j ∧ j ≤ 100000 ∧ ds.length * j.toNat ≤ 100000 then some (D.lst (List.replicate j.toNat ds).flatten) else none) = some z := ez
      split at ez
      · rename_i hc
        cases ez
        cases q
        obtain ⟨a, xs, r1, r2, r3⟩ := r
        subst r1
        refine op_rep pins s σ H _ _ v u Q I rx ry ⟨a, j, xs, rfl, rfl, fz.up _ _ r2, by omega, by omega, by rw [← r3.len]; exact Nat.le_trans hc.2.2 h100, fun p hp => ?_⟩
        have g := fz.new (o := .lst (List.replicate j.toNat xs).flatten) hp fun _ z => by cases z
        exact k _ _ _ g ⟨p, _, rfl, upd_same, (r3.rep _).mono g.fs⟩
      · cases ez
    | _ => cases ez
  | tup ds =>
    cases e with
    | int j =>
      have ez : (if 0 < ds.length ∧ 2 ≤ j ∧ j ≤ 1000 ∧ ds.length ≤ 1000 then some (D.tup (List.replicate j.toNat ds).flatten) else none) = some z := ez
      split at ez
      · rename_i hc
        cases ez
        cases q
        obtain ⟨a, xs, r1, r2, r3⟩ := r
        subst r1
        refine op_repT pins s σ H _ _ v u Q I rx ry ⟨a, j, xs, rfl, rfl, sqT_mono fz.up r2.sq, (fun z => absurd hc.1 (by rw [r3.len, z]; exact Nat.lt_irrefl 0)), hc.2.1, hc.2.2.1, by rw [← r3.len]; exact hc.2.2.2, fun p hp => ?_⟩
        have g := fz.new (o := .tup (List.replicate j.toNat xs).flatten) hp fun _ z => by cases z
        exact k _ _ _ g ⟨p, _, rfl, .inl upd_same, (r3.rep _).mono g.fs⟩
      · cases ez
    | _ => cases ez
  | _ => cases ez
def negD : D → Option D
  | .int i => some (.int (-i))
  | _ => none
theorem un_negX : UnR X (unaryOp .USub) (uD X.K negD) := by
  intro pins s σ H x v Q I rx h
  obtain ⟨F, d, z, fz, r, ez, k⟩ := h
  cases d with
  | int i =>
    cases ez
    cases r
    exact un_neg pins s σ H _ v Q I rx ⟨i, rfl, k F H _ fz.refl rfl⟩
  | _ => cases ez
/-! ### order -/
def strLt (a b : Str) : Bool := decide (a.cps.toList < b.cps.toList)
end
/-! ### is None, == of classes -/
section
variable {X : Cx}
def isD (d e : D) : Option D := match e with
  | .non => match d with
    | .rf _ => none
    | .non => some (.bl true)
    | _ => some (.bl false)
  | _ => none
def isntD (d e : D) : Option D := match e with
  | .non => match d with
    | .rf _ => none
    | .non => some (.bl false)
    | _ => some (.bl true)
  | _ => none
theorem rep_non {K : PySem.W.Frag} {F : Hp} {d : D} {x : V} (r : Rep K F d x) : (d = .non ∧ x = .non) ∨ (∃ w, d = .rf w) ∨ (d ≠ .non ∧ x ≠ .non) := by
  cases d with
  | non => exact .inl ⟨rfl, r⟩
  | rf w => exact .inr (.inl ⟨w, rfl⟩)
  | bl _ => cases r; exact .inr (.inr ⟨(fun z => by cases z), (fun z => by cases z)⟩)
  | int _ => cases r; exact .inr (.inr ⟨(fun z => by cases z), (fun z => by cases z)⟩)
  | str _ => cases r; exact .inr (.inr ⟨(fun z => by cases z), (fun z => by cases z)⟩)
  | tup _ => obtain ⟨a, _, r, _⟩ := r; subst r; exact .inr (.inr ⟨(fun z => by cases z), (fun z => by cases z)⟩)
  | lst _ => obtain ⟨a, _, r, _⟩ := r; subst r; exact .inr (.inr ⟨(fun z => by cases z), (fun z => by cases z)⟩)
  | dct _ _ => obtain ⟨a, _, r, _⟩ := r; subst r; exact .inr (.inr ⟨(fun z => by cases z), (fun z => by cases z)⟩)
  | scr _ => obtain ⟨a, r, _⟩ := r; subst r; exact .inr (.inr ⟨(fun z => by cases z), (fun z => by cases z)⟩)
theorem op_isX : OpR X (compareOp .Is) (rD X.K isD) := by
  intro pins s σ H x y v u Q I rx ry h
  obtain ⟨F, d, e, z, fz, r, q, ez, k⟩ := h
  cases e with
  | non =>
    cases q
    refine op_isN pins s σ H _ _ v u Q I rx ry ⟨rfl, ?_⟩
    rcases rep_non r with ⟨h1, h2⟩ | ⟨w, h1⟩ | ⟨h1, h2⟩
    · subst h1 h2
      cases ez
      exact k F H _ fz.refl rfl
    · subst h1
      cases ez
    · rw [decide_eq_false h2]
      have : isD d .non = some (.bl false) := by cases d <;> first | rfl | exact absurd rfl h1 | cases ez
      rw [this] at ez
      cases ez
      exact k F H _ fz.refl rfl
  | _ => cases ez
theorem op_isntX : OpR X (compareOp .IsNot) (rD X.K isntD) := by
  intro pins s σ H x y v u Q I rx ry h
  obtain ⟨F, d, e, z, fz, r, q, ez, k⟩ := h
  cases e with
  | non =>
    cases q
    refine op_notN pins s σ H _ _ v u Q I rx ry ⟨rfl, ?_⟩
    rcases rep_non r with ⟨h1, h2⟩ | ⟨w, h1⟩ | ⟨h1, h2⟩
    · subst h1 h2
      cases ez
      exact k F H _ fz.refl rfl
    · subst h1
      cases ez
    · rw [decide_eq_false h2]
      have : isntD d .non = some (.bl true) := by cases d <;> first | rfl | exact absurd rfl h1 | cases ez
      rw [this] at ez
      cases ez
      exact k F H _ fz.refl rfl
  | _ => cases ez
def eqTy : D → D → Option D
  | .rf (.ty a), .rf (.ty b) => some (.bl (a == b))
  | _, _ => none
def neTy : D → D → Option D
  | .rf (.ty a), .rf (.ty b) => some (.bl (!(a == b)))
  | _, _ => none
end
end Pl
namespace Pl
open PySem PySem.Spec PyProof.Rows L2
/-! ## I. order, membership, items, slices -/
mutual
def toP : D → PyData
  | .non => .none
  | .bl b => .bool b
  | .int i => .int i
  | .str x => .str x
  | .tup xs => .tuple (toPL xs)
  | .lst xs => .list (toPL xs)
  | .dct _ _ => .none
  | .rf _ => .none
  | .scr _ => .none
def toPL : List D → List PyData
  | [] => []
  | x :: xs => toP x :: toPL xs
end
section
variable {X : Cx} {pins : List (Addr × Obj)} {σ : L2.St} {H : Hp} {s : Shared}
mutual
theorem reads_D (I : Inv X pins σ H s) : ∀ (n : Nat) (d : D) (x : V) (u : Value), Rep X.K H d x → RelV x u → shape n d = true → ∃ as, Reads s.heap u (toP d) as
  | _, .non, _, _, r, ru, _ => by cases r; cases ru; exact ⟨_, .none⟩
  | _, .bl b, _, _, r, ru, _ => by cases r; cases ru; exact ⟨_, .bool b⟩
  | _, .int i, _, _, r, ru, _ => by cases r; obtain ⟨t, rfl⟩ := ru; exact ⟨_, .int i t⟩
  | _, .str z, _, _, r, ru, _ => by cases r; obtain ⟨t, rfl⟩ := ru; exact ⟨_, .str z t⟩
  | n + 1, .tup ds, _, u, ⟨a, xs, r1, r2, r3⟩, ru, h => by
    subst r1
    cases ru
    obtain ⟨its, rv, ⟨o, ho, hc, k, hd⟩, _⟩ := I.tuple r2.sq
    obtain ⟨as, q⟩ := readsL_D I n ds xs its r3 rv (by rw [shape] at h; exact h)
    exact ⟨_, .tuple ho hc hd (by simpa using q)⟩
  | n + 1, .lst ds, _, u, ⟨a, xs, r1, r2, r3⟩, ru, h => by
    subst r1
    cases ru
    obtain ⟨its, rv, ⟨o, k, ho, hc, _, hd⟩, _⟩ := I.list (.of r2)
    obtain ⟨as, q⟩ := readsL_D I n ds xs its r3 rv (by rw [shape] at h; exact h)
    exact ⟨_, .list ho hc hd (by simpa using q)⟩
  | 0, .tup _, _, _, _, _, h => by simp [shape] at h
  | 0, .lst _, _, _, _, _, h => by simp [shape] at h
  | n, .dct _ _, _, _, _, _, h => by cases n <;> simp [shape] at h
  | n, .rf _, _, _, _, _, h => by cases n <;> simp [shape] at h
  | n, .scr _, _, _, _, _, h => by cases n <;> simp [shape] at h
theorem readsL_D (I : Inv X pins σ H s) : ∀ (n : Nat) (ds : List D) (xs : List V) (us : List Value), RepL X.K H ds xs → Vals xs us → shapeL n ds = true → ∃ as, ReadsAll s.heap us (toPL ds) as
  | _, [], _, us, r, rv, _ => by
    have r : _ = [] := r
    subst r
    cases rv
    exact ⟨_, .nil⟩
  | n, d :: ds, _, us, ⟨v, vs, r1, r2, r3⟩, rv, h => by
    subst r1
    rw [shapeL, Bool.and_eq_true] at h
    cases rv with
    | cons p q =>
      obtain ⟨as, h1⟩ := reads_D I n d v _ r2 p h.1
      obtain ⟨bs, h2⟩ := readsL_D I n ds vs _ r3 q h.2
      exact ⟨_, .cons h1 h2⟩
end
mutual
theorem depth_D : ∀ (n : Nat) (d : D), shape n d = true → (toP d).depth ≤ n
  | _, .non, _ => by simp [toP, PyData.depth]
  | _, .bl b, _ => by simp [toP, PyData.depth]
  | _, .int i, _ => by simp [toP, PyData.depth]
  | _, .str z, _ => by simp [toP, PyData.depth]
  | n + 1, .tup ds, h => by
    rw [shape] at h
    have := depthL_D n ds h
    rw [toP, PyData.depth]
    omega
  | n + 1, .lst ds, h => by
    rw [shape] at h
    have := depthL_D n ds h
    rw [toP, PyData.depth]
    omega
  | 0, .tup _, h => by simp [shape] at h
  | 0, .lst _, h => by simp [shape] at h
  | n, .dct _ _, h => by cases n <;> simp [shape] at h
  | n, .rf _, h => by cases n <;> simp [shape] at h
  | n, .scr _, h => by cases n <;> simp [shape] at h
theorem depthL_D : ∀ (n : Nat) (ds : List D), shapeL n ds = true → PyData.depthAll (toPL ds) ≤ n
  | _, [], _ => by simp [toPL, PyData.depthAll]
  | n, d :: ds, h => by
    rw [shapeL, Bool.and_eq_true] at h
    have h1 := depth_D n d h.1
    have h2 := depthL_D n ds h.2
    rw [toPL, PyData.depthAll]
    omega
end
end
section
variable {X : Cx}
def ltD (d e : D) : Option D := match d, e with
  | .int i, .int j => some (.bl (decide (i < j)))
  | .str i, .str j => some (.bl (decide (i.cps.toList < j.cps.toList)))
  | .tup xs, .tup ys => if (shape 60 (.tup xs) && shape 60 (.tup ys) && PySem.W.alike (toP (.tup xs)) (toP (.tup ys))) = true then some (.bl (PySem.W.dataLt (toP (.tup xs)) (toP (.tup ys)))) else none
  | _, _ => none
theorem op_ltX (hu : X.A.units + 64 < cLine) : OpR X (compareOp .Lt) (rD X.K ltD) := by
  intro pins s σ H x y v u Q I rx ry h
  obtain ⟨F, d, e, z, fz, r, q, ez, k⟩ := h
  cases d with
  | int i =>
    cases e with
    | int j => cases ez; cases r; cases q; exact op_lt pins s σ H _ _ v u Q I rx ry ⟨i, j, rfl, rfl, k F H _ fz.refl rfl⟩
    | _ => cases ez
  | str i =>
    cases e with
    | str j => cases ez; cases r; cases q; exact op_lt_str pins s σ H _ _ v u Q I rx ry ⟨i, j, rfl, rfl, k F H _ fz.refl rfl⟩
    | _ => cases ez
  | tup ds =>
    cases e with
    | tup es =>
      have ez : (if (shape 60 (.tup ds) && shape 60 (.tup es) && PySem.W.alike (toP (.tup ds)) (toP (.tup es))) = true then some (D.bl (PySem.W.dataLt (toP (.tup ds)) (toP (.tup es)))) else none) = some z := ez
      split at ez
      · rename_i hc
        cases ez
        rw [Bool.and_eq_true, Bool.and_eq_true] at hc
        obtain ⟨as, ra⟩ := reads_D I 60 _ x v (r.mono fz.up) rx hc.1.1
        obtain ⟨bs, rb⟩ := reads_D I 60 _ y u (q.mono fz.up) ry hc.1.2
        have d1 := depth_D 60 _ hc.1.1
        exact PySem.W.rcLt_alike _ _ X.A s v u as bs ra rb hc.2 (by rw [toP]; intro z; cases z) (by omega) X.prog X.w _ _ ⟨.bl _, H, I, rfl, k F H _ fz.refl rfl⟩
      · cases ez
    | _ => cases ez
  | _ => cases ez
def leD (d e : D) : Option D := match d, e with
  | .int i, .int j => some (.bl (decide (i ≤ j)))
  | .str i, .str j => some (.bl (!decide (j.cps.toList < i.cps.toList)))
  | _, _ => none
theorem op_leX : OpR X (compareOp .LtE) (rD X.K leD) := by
  intro pins s σ H x y v u Q I rx ry h
  obtain ⟨F, d, e, z, fz, r, q, ez, k⟩ := h
  cases d with
  | int i =>
    cases e with
    | int j => cases ez; cases r; cases q; exact op_le pins s σ H _ _ v u Q I rx ry ⟨i, j, rfl, rfl, k F H _ fz.refl rfl⟩
    | _ => cases ez
  | str i =>
    cases e with
    | str j =>
      cases ez; cases r; cases q
      obtain ⟨t, rfl⟩ := rx
      obtain ⟨t', rfl⟩ := ry
      exact PySem.P.le_str ⟨.bl _, H, I, rfl, k F H _ fz.refl rfl⟩
    | _ => cases ez
  | _ => cases ez
def gtD (d e : D) : Option D := match d, e with
  | .int i, .int j => some (.bl (decide (j < i)))
  | _, _ => none
def geD (d e : D) : Option D := match d, e with
  | .int i, .int j => some (.bl (decide (j ≤ i)))
  | _, _ => none
theorem op_gtX : OpR X (compareOp .Gt) (rD X.K gtD) := by
  intro pins s σ H x y v u Q I rx ry h
  obtain ⟨F, d, e, z, fz, r, q, ez, k⟩ := h
  cases d with
  | int i =>
    cases e with
    | int j => cases ez; cases r; cases q; exact op_gt pins s σ H _ _ v u Q I rx ry ⟨i, j, rfl, rfl, k F H _ fz.refl rfl⟩
    | _ => cases ez
  | _ => cases ez
theorem op_geX : OpR X (compareOp .GtE) (rD X.K geD) := by
  intro pins s σ H x y v u Q I rx ry h
  obtain ⟨F, d, e, z, fz, r, q, ez, k⟩ := h
  cases d with
  | int i =>
    cases e with
    | int j => cases ez; cases r; cases q; exact op_ge pins s σ H _ _ v u Q I rx ry ⟨i, j, rfl, rfl, k F H _ fz.refl rfl⟩
    | _ => cases ez
  | _ => cases ez
def knTy (a : String) : Bool := a == "int" || a == "str" || a == "tuple" || a == "list" || a == "dict" || a == "bool" || a == "NoneType"
theorem tyOk {a : String} (h : knTy a = true) (s : Shared) : s.TypeIs (.type a) "type" := by
  unfold knTy at h
  simp only [Bool.or_eq_true, beq_iff_eq] at h
  rcases h with (((((h | h) | h) | h) | h) | h) | h
  · subst h; exact TypeEq.meta_int s
  · subst h; exact TypeEq.meta_str s
  · subst h; exact TypeEq.meta_tuple s
  · subst h; exact TypeEq.meta_list s
  · subst h; exact TypeEq.meta_dict s
  · subst h; exact TypeEq.meta_bool s
  · subst h; exact TypeEq.meta_NoneType s
theorem sl_ne : PySem.Slot "type" (cmpInfo .NotEq).2.1 "object.__ne__" := by
  refine PySem.Slot.of (owner := "object") (n := "__ne__") ?_ (by decide +kernel) (by decide +kernel) (by decide +kernel) (by first | exact .inl (by decide +kernel) | exact .inr (by decide +kernel)) ?_
  · rw [typeLookup_type, builtinLookup_eq_fast]
    kernel_rfl
  · rw [isSubtype_type]
    kernel_rfl
theorem sl_ne' : PySem.Slot "type" (cmpInfo .NotEq).2.2 "object.__ne__" := sl_ne
section
variable {prog : Program} {w : World} {A : Around} {E : Value → Shared → Prop} {s : Shared} {Q : Value → Shared → Prop} {a b : String}
theorem ty_beq' (a b : String) : (Value.type a == Value.type b) = (a == b) := by
  by_cases h : a = b
  · subst h
    rw [beq_self_eq_true, beq_self_eq_true]
  · rw [beq_eq_false_iff_ne.mpr h, beq_eq_false_iff_ne.mpr fun z => h (Value.type.inj z)]
/-- object.__ne__ of two classes: the other of ==, or nothing -/
theorem ne_call (ha : ∀ s : Shared, s.TypeIs (.type a) "type") (h : if (a == b) = true then Q (.bool false) s else Q .notImplemented s) : wpAny (model prog w) A (call (.builtin "object.__ne__") [.type a, .type b]) Q E s := by
  refine wpAny_call_entry sl_ne (ha s) F.entry_object_ne ?_ (F.args_object_ne_2 _ _)
  unfold Builtin.«object.__ne__»
  simp only [slotArgs]
  refine wpAny_bind (wpAny_pure (wpAny_bind (wpAny_cRoomFor_byValue (by rfl) (wpAny_bind (wpAny_callSpecialIfBound?_slot (id := "object.__eq__") (ha s) TypeEq.slot_type_eq ?_)))))
  by_cases e : a = b
  · subst e
    rw [if_pos (beq_self_eq_true _)] at h
    refine call_gives TypeEq.slot_type_eq (ha s) F.entry_object_eq (F.args_object_eq_2 _ _) (TypeEq.object_eq_same rfl (by simp)) ?_
    exact wpAny_bind (wpAny_truthy_bool (wpAny_pure ⟨_, rfl, h⟩))
  · rw [if_neg (by simpa using e)] at h
    refine call_gives TypeEq.slot_type_eq (ha s) F.entry_object_eq (F.args_object_eq_2 _ _) (TypeEq.object_eq_other rfl (by rw [ty_beq']; simpa using e)) ?_
    exact wpAny_pure ⟨_, rfl, h⟩
theorem rc_eq (ha : ∀ s : Shared, s.TypeIs (.type a) "type") (hb : ∀ s : Shared, s.TypeIs (.type b) "type") (h : Q (.bool (a == b)) s) : wpAny (model prog w) A (compareOp .Eq (.type a) (.type b)) Q E s := by
  by_cases e : a = b
  · subst e
    exact TypeEq.eq_type_same ha (by rw [beq_self_eq_true] at h; exact h)
  · have e2 : (a == b) = false := by simpa using e
    exact TypeEq.eq_type_other ha hb (by rw [ty_beq', e2]) (by rw [e2] at h; exact h)
theorem rc_ne (ha : ∀ s : Shared, s.TypeIs (.type a) "type") (hb : ∀ s : Shared, s.TypeIs (.type b) "type") (h : Q (.bool (!(a == b))) s) : wpAny (model prog w) A (compareOp .NotEq (.type a) (.type b)) Q E s := by
  show wpAny _ A (richCompare .NotEq _ _) Q E s
  by_cases e : a = b
  · subst e
    refine wpAny_richCompare_same (T := "type") (ha s) (ha s) sl_ne (ne_call ha ?_)
    rw [if_pos (beq_self_eq_true _)]
    rw [beq_self_eq_true] at h
    exact ⟨(fun z => by cases z), h⟩
  · have e2 : (a == b) = false := by simpa using e
    have e3 : (b == a) = false := by simpa using fun z : b = a => e z.symm
    have n1 := sl_ne
    have n2 := sl_ne'
    obtain ⟨sym, f, r⟩ : String × Str × Str := cmpInfo CmpOp.NotEq
    rcases hi : cmpInfo CmpOp.NotEq with ⟨sym, f, r⟩
    rw [hi] at n1 n2
    simp only [richCompare, hi, (ha s).oneThing_none]
    try with_reducible refine wpAny_holding ?_
    refine wpAny_bind (wpAny_cRoomFor_byValue (by rfl) (wpAny_bind (wpAny_typeOf (ha s) (wpAny_bind (wpAny_typeOf (hb s) ?_)))))
    simp only [bne_self_eq_false, Bool.false_eq_true, if_false, pure_bind, Bool.not_false, if_true]
    have c1 : ∀ (s : Shared) (R : Value → Shared → Prop), R .notImplemented s → wpAny (model prog w) A (call (.builtin "object.__ne__") [.type a, .type b]) R E s := fun s R q => ne_call ha (by rw [e2]; exact q)
    have c2 : ∀ (s : Shared) (R : Value → Shared → Prop), R .notImplemented s → wpAny (model prog w) A (call (.builtin "object.__ne__") [.type b, .type a]) R E s := fun s R q => ne_call hb (by rw [e3]; exact q)
    refine wpAny_bind (m := tryCompare _ _ _) (wpAny_tryCompare_declines (ha s) n1 (c1 s _ ⟨rfl, ?_⟩))
    refine wpAny_bind (m := tryCompare _ _ _) (wpAny_tryCompare_declines (hb s) n2 (c2 s _ ⟨rfl, ?_⟩))
    refine wpAny_bind (wpAny_rule (wpAny_bind (wpAny_of_eq (isSame_plain rfl) (wpAny_pure ?_))))
    rw [ty_beq', e2]
    rw [e2] at h
    exact h
end
def eqTyD : D → D → Option D
  | .rf (.ty a), .rf (.ty b) => if (knTy a && knTy b) = true then some (.bl (a == b)) else none
  | _, _ => none
def neTyD : D → D → Option D
  | .rf (.ty a), .rf (.ty b) => if (knTy a && knTy b) = true then some (.bl (!(a == b))) else none
  | _, _ => none
theorem ty_of {K : PySem.W.Frag} {F : Hp} {d : D} {x : V} {a : String} (r : Rep K F (.rf (.ty a)) x) : x = .ty a := r
theorem op_eqTyX : OpR X (compareOp .Eq) (rD X.K eqTyD) := by
  intro pins s σ H x y v u Q I rx ry h
  obtain ⟨F, d, e, z, fz, r, q, ez, k⟩ := h
  unfold eqTyD at ez
  split at ez
  · split at ez
    · rename_i a b hc
      cases ez
      have r := ty_of (d := .non) r
      have q := ty_of (d := .non) q
      subst r q
      cases rx
      cases ry
      rw [Bool.and_eq_true] at hc
      exact rc_eq (tyOk hc.1) (tyOk hc.2) ⟨.bl _, H, I, rfl, k F H _ fz.refl rfl⟩
    · cases ez
  · cases ez
theorem op_neTyX : OpR X (compareOp .NotEq) (rD X.K neTyD) := by
  intro pins s σ H x y v u Q I rx ry h
  obtain ⟨F, d, e, z, fz, r, q, ez, k⟩ := h
  unfold neTyD at ez
  split at ez
  · split at ez
    · rename_i a b hc
      cases ez
      have r := ty_of (d := .non) r
      have q := ty_of (d := .non) q
      subst r q
      cases rx
      cases ry
      rw [Bool.and_eq_true] at hc
      exact rc_ne (tyOk hc.1) (tyOk hc.2) ⟨.bl _, H, I, rfl, k F H _ fz.refl rfl⟩
    · cases ez
  · cases ez
/-! ### in, items, slices -/
def strIn (i j : Str) : Bool := !(Builtin.Str.occurrences j i 0 j.length 1).isEmpty
/-- a dict is no text -/
def strAll : List D → Bool
  | [] => true
  | .str _ :: es => strAll es
  | _ :: _ => false
def inK (d : D) (es : List D) (b : Bool) : Option D := match d with
  | .dct _ _ => if strAll es = true then some (.bl b) else none
  | _ => none
def inD (d e : D) : Option D := match e with
  | .str j => match d with
    | .str i => some (.bl (strIn i j))
    | _ => none
  | .lst es => if (shape 60 d && shapeL 60 es) = true then some (.bl (es.any fun y => eqB y d)) else inK d es false
  | .tup es => if (shape 60 d && shapeL 60 es) = true then some (.bl (es.any fun y => eqB y d)) else inK d es false
  | _ => none
def ninD (d e : D) : Option D := match e with
  | .str j => match d with
    | .str i => some (.bl (!strIn i j))
    | _ => none
  | .lst es => if (shape 60 d && shapeL 60 es) = true then some (.bl (!es.any fun y => eqB y d)) else inK d es true
  | .tup es => if (shape 60 d && shapeL 60 es) = true then some (.bl (!es.any fun y => eqB y d)) else inK d es true
  | _ => none
/-- the items' answers beside a dict -/
theorem any_K {pins : List (Addr × Obj)} {σ : L2.St} {H : Hp} {s : Shared} (I : Inv X pins σ H s) (hu : X.A.units + 64 < cLine) {d : D} {x : V} {v : Value} {es : List D} {ys : List V} {its : List Value} {b : Bool} {z : D} (r : Rep X.K H d x) (rx : RelV x v) (q : RepL X.K H es ys) (rv : Vals ys its) (h : inK d es b = some z) :
    z = .bl b ∧ (∀ y, y ∈ its → SeqAt.EqAt X.A.in1 s y v false) := by
  unfold inK at h
  cases d with
  | dct ks ds =>
    dsimp only at h
    split at h
    · rename_i sa
      cases h
      obtain ⟨a, us, r1, r2, r3, r4⟩ := r
      subst r1
      cases rx
      obtain ⟨_, _, vs, _, o, es', ep, ho, hx, hd, _⟩ := dk_of I.hok r2
      refine ⟨rfl, fun y hy => ?_⟩
      have : ∃ w t, y = .str w t := by
        clear hd ho hx
        induction rv generalizing es with
        | nil => cases hy
        | cons ru rr ih =>
          cases es with
          | nil => have q : _ :: _ = [] := q; cases q
          | cons e es =>
            obtain ⟨_, _, z, q2, q3⟩ := q
            cases z
            cases e with
            | str w =>
              rcases List.mem_cons.mp hy with hy | hy
              · have q2 : _ = V.str w := q2
                subst q2
                obtain ⟨t, e⟩ := ru
                exact ⟨w, t, hy.trans e⟩
              · exact ih q3 sa hy
            | _ => cases sa
      obtain ⟨w, t, rfl⟩ := this
      exact eq_sd w t ho hx.1 hd (by show X.A.units + 1 < cLine; omega)
    · cases h
  | _ => cases h
open Classical in
/-- the items' answers as a function of the values -/
theorem any_D {pins : List (Addr × Obj)} {σ : L2.St} {H : Hp} {s : Shared} (I : Inv X pins σ H s) (hu : X.A.units + 64 < cLine) {d : D} {x : V} {v : Value} {es : List D} {ys : List V} {its : List Value} (r : Rep X.K H d x) (rx : RelV x v) (q : RepL X.K H es ys) (rv : Vals ys its) (h : (shape 60 d && shapeL 60 es) = true) :
    ∃ f : Value → Bool, (∀ y, y ∈ its → SeqAt.EqAt X.A.in1 s y v (f y)) ∧ its.any f = es.any fun y => eqB y d := by
  rw [Bool.and_eq_true] at h
  let P : Value → D → Prop := fun u e => ∃ y, RelV y u ∧ Rep X.K H e y ∧ shape 60 e = true
  have uniq : ∀ u e e', P u e → P u e' → e = e' := fun u e e' ⟨y, a1, a2, a3⟩ ⟨y', b1, b2, b3⟩ => by
    have : y = y' := a1.inj b1
    subst this
    exact rep_inj I 60 e e' y a2 b2 a3 b3
  let f : Value → Bool := fun u => if z : ∃ e, P u e then eqB z.choose d else false
  have fe : ∀ u e, P u e → f u = eqB e d := fun u e p => by
    have z : ∃ e, P u e := ⟨e, p⟩
    show (if z : ∃ e, P u e then eqB z.choose d else false) = _
    rw [dif_pos z, uniq u _ _ z.choose_spec p]
  refine ⟨f, fun u hu' => ?_, ?_⟩
  · obtain ⟨i, hi, ei⟩ := List.mem_iff_getElem.mp hu'
    have hl := rv.length
    obtain ⟨y, ey⟩ : ∃ y, ys[i]? = some y := ⟨_, List.getElem?_eq_getElem (by omega)⟩
    obtain ⟨e', ee, re⟩ := q.of_get ey
    obtain ⟨u', eu, ru⟩ := rv.get ey
    rw [List.getElem?_eq_getElem hi, ei] at eu
    cases eu
    have se := shapeL_get h.2 ee
    rw [fe u e' ⟨y, ru, re, se⟩]
    exact eqAt_D I 60 e' d y x u v X.A.in1 re r ru rx se h.1 (by show X.A.units + 1 + 60 < cLine; omega)
  · have sh := h.2
    clear h
    induction rv generalizing es with
    | nil =>
      cases es with
      | nil => rfl
      | cons e es => obtain ⟨_, _, z, _⟩ := q; cases z
    | cons ru rr ih =>
      cases es with
      | nil => have q : _ :: _ = [] := q; cases q
      | cons e es =>
        obtain ⟨_, _, z, q2, q3⟩ := q
        cases z
        rw [shapeL, Bool.and_eq_true] at sh
        rw [List.any_cons, List.any_cons, fe _ e ⟨_, ru, q2, sh.1⟩, ih q3 sh.2]
theorem op_inX (hu : X.A.units + 64 < cLine) : OpR X (compareOp .In) (rD X.K inD) := by
  intro pins s σ H x y v u Q I rx ry h
  obtain ⟨F, d, e, z, fz, r, q, ez, k⟩ := h
  cases e with
  | str j =>
    cases d with
    | str i => cases ez; cases r; cases q; exact op_in_str pins s σ H _ _ v u Q I rx ry ⟨i, j, rfl, rfl, k F H _ fz.refl rfl⟩
    | _ => cases ez
  | lst es =>
    have ez : (if (shape 60 d && shapeL 60 es) = true then some (D.bl (es.any fun y => eqB y d)) else inK d es false) = some z := ez
    split at ez
    · rename_i hc
      cases ez
      obtain ⟨b, ys, q1, q2, q3⟩ := q
      subst q1
      cases ry
      obtain ⟨its, rv, p⟩ := lst_is I (fz.up _ _ q2)
      obtain ⟨f, f1, f2⟩ := any_D I hu (r.mono fz.up) rx (q3.mono fz.up) rv hc
      refine SeqAt.in_listAt f p (fun w hw => f1 w (by simpa using hw)) ⟨.bl _, H, I, rfl, ?_⟩
      rw [show its.toArray.any f = its.any f by simp, f2]
      exact k F H _ fz.refl rfl
    · obtain ⟨b, ys, q1, q2, q3⟩ := q
      subst q1
      cases ry
      obtain ⟨its, rv, p⟩ := lst_is I (fz.up _ _ q2)
      obtain ⟨rfl, f1⟩ := any_K I hu (r.mono fz.up) rx (q3.mono fz.up) rv ez
      refine SeqAt.in_listAt (fun _ => false) p (fun w hw => f1 w (by simpa using hw)) ⟨.bl _, H, I, rfl, ?_⟩
      have e : its.toArray.any (fun _ => false) = false := by simp
      rw [e]
      exact k F H _ fz.refl rfl
  | tup es =>
    have ez : (if (shape 60 d && shapeL 60 es) = true then some (D.bl (es.any fun y => eqB y d)) else inK d es false) = some z := ez
    split at ez
    · rename_i hc
      cases ez
      obtain ⟨b, ys, q1, q2, q3⟩ := q
      subst q1
      cases ry
      obtain ⟨its, rv, p⟩ := tup_is I (tup_mono fz.up q2)
      obtain ⟨f, f1, f2⟩ := any_D I hu (r.mono fz.up) rx (q3.mono fz.up) rv hc
      refine SeqAt.in_tupleAt f p (fun w hw => f1 w (by simpa using hw)) ⟨.bl _, H, I, rfl, ?_⟩
      rw [show its.toArray.any f = its.any f by simp, f2]
      exact k F H _ fz.refl rfl
    · obtain ⟨b, ys, q1, q2, q3⟩ := q
      subst q1
      cases ry
      obtain ⟨its, rv, p⟩ := tup_is I (tup_mono fz.up q2)
      obtain ⟨rfl, f1⟩ := any_K I hu (r.mono fz.up) rx (q3.mono fz.up) rv ez
      refine SeqAt.in_tupleAt (fun _ => false) p (fun w hw => f1 w (by simpa using hw)) ⟨.bl _, H, I, rfl, ?_⟩
      have e : its.toArray.any (fun _ => false) = false := by simp
      rw [e]
      exact k F H _ fz.refl rfl
  | _ => cases ez
theorem op_ninX (hu : X.A.units + 64 < cLine) : OpR X (compareOp .NotIn) (rD X.K ninD) := by
  intro pins s σ H x y v u Q I rx ry h
  obtain ⟨F, d, e, z, fz, r, q, ez, k⟩ := h
  cases e with
  | str j =>
    cases d with
    | str i => cases ez; cases r; cases q; exact op_notin_str pins s σ H _ _ v u Q I rx ry ⟨i, j, rfl, rfl, k F H _ fz.refl rfl⟩
    | _ => cases ez
  | lst es =>
    have ez : (if (shape 60 d && shapeL 60 es) = true then some (D.bl (!es.any fun y => eqB y d)) else inK d es true) = some z := ez
    split at ez
    · rename_i hc
      cases ez
      obtain ⟨b, ys, q1, q2, q3⟩ := q
      subst q1
      cases ry
      obtain ⟨its, rv, p⟩ := lst_is I (fz.up _ _ q2)
      obtain ⟨f, f1, f2⟩ := any_D I hu (r.mono fz.up) rx (q3.mono fz.up) rv hc
      refine SeqAt.notIn_listAt f p (fun w hw => f1 w (by simpa using hw)) ⟨.bl _, H, I, rfl, ?_⟩
      rw [show its.toArray.any f = its.any f by simp, f2]
      exact k F H _ fz.refl rfl
    · obtain ⟨b, ys, q1, q2, q3⟩ := q
      subst q1
      cases ry
      obtain ⟨its, rv, p⟩ := lst_is I (fz.up _ _ q2)
      obtain ⟨rfl, f1⟩ := any_K I hu (r.mono fz.up) rx (q3.mono fz.up) rv ez
      refine SeqAt.notIn_listAt (fun _ => false) p (fun w hw => f1 w (by simpa using hw)) ⟨.bl _, H, I, rfl, ?_⟩
      have e : its.toArray.any (fun _ => false) = false := by simp
      rw [e]
      exact k F H _ fz.refl rfl
  | tup es =>
    have ez : (if (shape 60 d && shapeL 60 es) = true then some (D.bl (!es.any fun y => eqB y d)) else inK d es true) = some z := ez
    split at ez
    · rename_i hc
      cases ez
      obtain ⟨b, ys, q1, q2, q3⟩ := q
      subst q1
      cases ry
      obtain ⟨its, rv, p⟩ := tup_is I (tup_mono fz.up q2)
      obtain ⟨f, f1, f2⟩ := any_D I hu (r.mono fz.up) rx (q3.mono fz.up) rv hc
      refine SeqAt.notIn_tupleAt f p (fun w hw => f1 w (by simpa using hw)) ⟨.bl _, H, I, rfl, ?_⟩
      rw [show its.toArray.any f = its.any f by simp, f2]
      exact k F H _ fz.refl rfl
    · obtain ⟨b, ys, q1, q2, q3⟩ := q
      subst q1
      cases ry
      obtain ⟨its, rv, p⟩ := tup_is I (tup_mono fz.up q2)
      obtain ⟨rfl, f1⟩ := any_K I hu (r.mono fz.up) rx (q3.mono fz.up) rv ez
      refine SeqAt.notIn_tupleAt (fun _ => false) p (fun w hw => f1 w (by simpa using hw)) ⟨.bl _, H, I, rfl, ?_⟩
      have e : its.toArray.any (fun _ => false) = false := by simp
      rw [e]
      exact k F H _ fz.refl rfl
  | _ => cases ez
def ixD : D → D → Option D
  | .tup xs, .int i => atI xs i
  | .lst xs, .int i => atI xs i
  | .scr ns, .int i => (atI ns i).map .int
  | .str z, .int i => if z.length ≤ 100000 then (atI z.cps.toList i).map fun c => .str ⟨#[c]⟩ else none
  | _, _ => none
theorem atI_rep {K : PySem.W.Frag} {F : Hp} {ds : List D} {xs : List V} {i : Int} {z : D} (r : RepL K F ds xs) (e : atI ds i = some z) : ∃ v, atI xs i = some v ∧ Rep K F z v := by
  unfold atI at e ⊢
  rw [← r.len]
  cases h : ixN ds.length i with
  | none => rw [h] at e; cases e
  | some j =>
    rw [h] at e
    exact r.get e
theorem ix_X : IxR X (rD X.K ixD) := by
  intro value slice pins s σ H x y v u Q I rx ry h hs
  obtain ⟨F, d, e, z, fz, r, q, ez, k⟩ := h
  cases e with
  | int i =>
    cases q
    cases d with
    | tup ds =>
      obtain ⟨a, xs, r1, r2, r3⟩ := r
      subst r1
      obtain ⟨w, e1, e2⟩ := atI_rep r3 (show atI ds i = some z from ez)
      exact ix_seq value slice pins s σ H _ _ v u Q I rx ry (.inr (.inl ⟨a, xs, i, w, rfl, rfl, sqT_mono fz.up r2.sq, e1, k F H w fz.refl e2⟩)) hs
    | lst ds =>
      obtain ⟨a, xs, r1, r2, r3⟩ := r
      subst r1
      obtain ⟨w, e1, e2⟩ := atI_rep r3 (show atI ds i = some z from ez)
      exact ix_seq value slice pins s σ H _ _ v u Q I rx ry (.inl ⟨a, xs, i, w, rfl, rfl, .of (fz.up _ _ r2), e1, k F H w fz.refl e2⟩) hs
    | scr ns =>
      obtain ⟨a, r1, r2⟩ := r
      subst r1
      have ez : (atI ns i).map D.int = some z := ez
      cases e1 : atI ns i with
      | none => rw [e1] at ez; cases ez
      | some n =>
        rw [e1] at ez
        cases ez
        refine ix_seq value slice pins s σ H _ _ v u Q I rx ry (.inl ⟨a, _, i, .int n, rfl, rfl, fz.up.seq r2, ?_, k F H _ fz.refl rfl⟩) hs
        unfold atI at e1 ⊢
        rw [List.length_map]
        cases h : ixN ns.length i with
        | none => rw [h] at e1; cases e1
        | some j =>
          rw [h] at e1
          show (ns.map V.int)[j]? = _
          rw [List.getElem?_map, show ns[j]? = some n from e1]
          rfl
    | str t =>
      cases r
      have ez : (if t.length ≤ 100000 then (atI t.cps.toList i).map fun c => D.str ⟨#[c]⟩ else none) = some z := ez
      split at ez
      · cases e1 : atI t.cps.toList i with
        | none => rw [e1] at ez; cases ez
        | some n =>
          rw [e1] at ez
          cases ez
          exact ix_seq value slice pins s σ H _ _ v u Q I rx ry (.inr (.inr ⟨t, i, n, rfl, rfl, Nat.le_trans (by assumption) h100, e1, k F H _ fz.refl rfl⟩)) hs
      · cases ez
    | _ => cases ez
  | _ => cases d <;> cases ez
def cutD (xs : List D) (lo hi : Option Int) : List D := (xs.drop (HT.sIx xs.length 0 lo)).take (HT.sIx xs.length xs.length hi - HT.sIx xs.length 0 lo)
theorem cut_rep {K : PySem.W.Frag} {F : Hp} {ds : List D} {xs : List V} {lo hi : Option Int} (r : RepL K F ds xs) : RepL K F (cutD ds lo hi) (cutV xs lo hi) := by
  unfold cutD cutV
  rw [r.len]
  exact (r.drop _).take _
def slD (d : D) (lo hi : Option Int) : Option D := match d with
  | .tup xs => some (.tup (cutD xs lo hi))
  | .lst xs => some (.lst (cutD xs lo hi))
  | .str z => if z.length ≤ 100000 then some (.str (cutS z lo hi)) else none
  | _ => none
def rSlD (K : PySem.W.Frag) : V → Option Int → Option Int → Hp → VK → Prop := fun x lo hi H Q => ∃ F d z, Fz F H ∧ Rep K F d x ∧ slD d lo hi = some z ∧ ∀ F' H' v, Grow F H F' H' → Rep K F' z v → Q v H'
theorem sl_X : SlR X (rSlD X.K) := by
  intro pins s σ H x v vl vu lo hi sl Q I rx hs pl pu h
  obtain ⟨F, d, z, fz, r, ez, k⟩ := h
  cases d with
  | tup ds =>
    cases ez
    obtain ⟨a, xs, r1, r2, r3⟩ := r
    subst r1
    refine sl_tupA pins s σ H _ v vl vu lo hi sl Q I rx hs pl pu ⟨a, xs, rfl, sqT_mono fz.up r2.sq, fun hw => ?_, fun _ p hp => ?_⟩
    · have e : cutD ds lo hi = ds := by
        unfold cutD
        rw [r3.len, hw.1, hw.2, List.drop_zero, Nat.sub_zero, List.take_of_length_le (by rw [r3.len]; exact Nat.le_refl _)]
      rw [e] at k
      exact k F H _ fz.refl ⟨a, xs, rfl, r2, r3⟩
    · have g := fz.new (o := .tup (cutV xs lo hi)) hp fun _ z => by cases z
      exact k _ _ _ g ⟨p, _, rfl, .inl upd_same, (cut_rep r3).mono g.fs⟩
  | lst ds =>
    cases ez
    obtain ⟨a, xs, r1, r2, r3⟩ := r
    subst r1
    refine sl_list pins s σ H _ v vl vu lo hi sl Q I rx hs pl pu ⟨a, xs, rfl, .of (fz.up _ _ r2), fun p hp => ?_⟩
    have g := fz.new (o := .lst (cutV xs lo hi)) hp fun _ z => by cases z
    exact k _ _ _ g ⟨p, _, rfl, upd_same, (cut_rep r3).mono g.fs⟩
  | str t =>
    have ez : (if t.length ≤ 100000 then some (D.str (cutS t lo hi)) else none) = some z := ez
    split at ez
    · cases ez
      cases r
      exact sl_str pins s σ H _ v vl vu lo hi sl Q I rx hs pl pu ⟨t, rfl, Nat.le_trans (by assumption) h100, k F H _ fz.refl rfl⟩
    · cases ez
  | _ => cases ez
end
/-! the parts of a slice -/
section
variable {c : Cn} {E : WX} {te : TE} {tl th : TO} {f : M D} {fl fh : M (Option Int)}
def Ox (c : Cn) (E : WX) (t : TO) (f : M (Option Int)) : Prop := ∀ W F H σ ρ Q, Rel c W F H σ ρ → Post c W F σ E (fun _ a b => b = a) (f ρ) Q → t σ H Q
def oNo : M (Option Int) := M.pure none
def oInt : D → Option (Option Int)
  | .int i => some (some i)
  | _ => none
def oPart (e : M D) : M (Option Int) := e.bind fun d => M.lift (oInt d)
theorem ox_no : Ox c E tNoPart oNo := fun W F H σ ρ Q R h => h F H none R (Same.refl _) rfl
theorem ox_part (he : Ex c E te f) : Ox c E (tPart te) (oPart f) := by
  intro W F H σ ρ Q R h
  refine he W F H σ ρ _ R ((h.bind (Rep c.K)).mono fun x H1 ⟨d, ρ1, F1, R1, s1, r1, h1⟩ => ?_)
  obtain ⟨k, e1, q⟩ := h1.lift
  cases d with
  | int i =>
    cases e1
    exact ⟨i, r1, q F1 H1 _ R1 (Same.refl _) rfl⟩
  | _ => cases e1
def eSl (a : M D) (lo hi : M (Option Int)) : M D := a.bind fun d => lo.bind fun l => hi.bind fun h => M.lift (slD d l h)
theorem ex_sl (ha : Ex c E te f) (hl : Ox c E tl fl) (hh : Ox c E th fh) : Ex c E (tSl (rSlD c.K) te tl th) (eSl f fl fh) := by
  intro W F H σ ρ Q R h
  refine ha W F H σ ρ _ R ((h.bind (Rep c.K)).mono fun x H1 ⟨d, ρ1, F1, R1, s1, r1, h1⟩ => ?_)
  refine hl W F1 H1 σ ρ1 _ R1 ((h1.bind (fun _ a b => b = a)).mono fun l H2 ⟨l', ρ2, F2, R2, s2, r2, h2⟩ => ?_)
  refine hh W F2 H2 σ ρ2 _ R2 ((h2.bind (fun _ a b => b = a)).mono fun u H3 ⟨u', ρ3, F3, R3, s3, r3, h3⟩ => ?_)
  subst r2 r3
  obtain ⟨z, e1, k⟩ := h3.lift
  exact ⟨F3, d, z, R3.fz, (r1.mono s2).mono s3, e1, fun F' H' v gr rv => k F' H' v (R3.grow gr) gr.fs rv⟩
end
end Pl
namespace Pl
open PySem PySem.Spec PyProof.Rows L2
/-! ## J. built-ins by data -/
section
variable {X : Cx}
def lenD : List D → Option D
  | [.str z] => if z.length ≤ 100000 then some (.int z.length) else none
  | [.tup xs] => some (.int xs.length)
  | [.lst xs] => some (.int xs.length)
  | [.scr ns] => some (.int ns.length)
  | _ => none
theorem repL1 {K : PySem.W.Frag} {F : Hp} {d : D} {vs : List V} (r : RepL K F [d] vs) : ∃ v, vs = [v] ∧ Rep K F d v := by
  obtain ⟨v, ws, e, h, t⟩ := r
  have t : ws = [] := t
  subst t
  exact ⟨v, e, h⟩
theorem repL2 {K : PySem.W.Frag} {F : Hp} {d e : D} {vs : List V} (r : RepL K F [d, e] vs) : ∃ v w, vs = [v, w] ∧ Rep K F d v ∧ Rep K F e w := by
  obtain ⟨v, ws, e1, h, t⟩ := r
  obtain ⟨w, e2, h2⟩ := repL1 t
  subst e2
  exact ⟨v, w, e1, h, h2⟩
theorem call_lenX : CallR X (.builtin "len") (cD X.K lenD) := by
  intro pins s σ H xs us Q I rx h
  obtain ⟨F, ds, z, fz, r, ez, k⟩ := h
  unfold lenD at ez
  split at ez
  · split at ez
    · cases ez
      obtain ⟨v, e, r1⟩ := repL1 r
      subst e
      cases r1
      exact call_len pins s σ H _ us Q I rx ⟨_, _, rfl, ⟨Nat.le_trans (by assumption) h100, rfl⟩, k F H _ fz.refl rfl⟩
    · cases ez
  · cases ez
    obtain ⟨v, e, a, ys, r1, r2, r3⟩ := repL1 r
    subst e r1
    exact call_len pins s σ H _ us Q I rx ⟨_, ys.length, rfl, .inr ⟨ys, sqT_mono fz.up r2.sq, rfl⟩, k F H _ fz.refl (by rw [r3.len]; rfl)⟩
  · cases ez
    obtain ⟨v, e, a, ys, r1, r2, r3⟩ := repL1 r
    subst e r1
    exact call_len pins s σ H _ us Q I rx ⟨_, ys.length, rfl, .inl ⟨ys, .of (fz.up _ _ r2), rfl⟩, k F H _ fz.refl (by rw [r3.len]; rfl)⟩
  · rename_i ns
    cases ez
    obtain ⟨v, e, a, r1, r2⟩ := repL1 r
    subst e r1
    exact call_len pins s σ H _ us Q I rx ⟨_, ns.length, rfl, .inl ⟨_, fz.up.seq r2, by rw [List.length_map]⟩, k F H _ fz.refl rfl⟩
  · cases ez
def absD : List D → Option D
  | [.int i] => some (.int (if i < 0 then -i else i))
  | _ => none
theorem call_absX : CallR X (.builtin "abs") (cD X.K absD) := by
  intro pins s σ H xs us Q I rx h
  obtain ⟨F, ds, z, fz, r, ez, k⟩ := h
  unfold absD at ez
  split at ez
  · rename_i i
    cases ez
    obtain ⟨v, e, r1⟩ := repL1 r
    subst e
    cases r1
    exact call_abs pins s σ H _ us Q I rx ⟨i, rfl, k F H _ fz.refl rfl⟩
  · cases ez
def max2D : List D → Option D
  | [.int i, .int j] => some (.int (if j > i then j else i))
  | _ => none
def min2D : List D → Option D
  | [.int i, .int j] => some (.int (if j < i then j else i))
  | _ => none
theorem call_max2X (hc : X.calm = true) : CallR X (.builtin "max") (cD X.K max2D) := by
  intro pins s σ H xs us Q I rx h
  obtain ⟨F, ds, z, fz, r, ez, k⟩ := h
  unfold max2D at ez
  split at ez
  · rename_i i j
    cases ez
    obtain ⟨v, w, e, r1, r2⟩ := repL2 r
    subst e
    cases r1
    cases r2
    exact call_max2 hc pins s σ H _ us Q I rx ⟨i, j, rfl, k F H _ fz.refl rfl⟩
  · cases ez
theorem call_min2X (hc : X.calm = true) : CallR X (.builtin "min") (cD X.K min2D) := by
  intro pins s σ H xs us Q I rx h
  obtain ⟨F, ds, z, fz, r, ez, k⟩ := h
  unfold min2D at ez
  split at ez
  · rename_i i j
    cases ez
    obtain ⟨v, w, e, r1, r2⟩ := repL2 r
    subst e
    cases r1
    cases r2
    exact call_min2 hc pins s σ H _ us Q I rx ⟨i, j, rfl, k F H _ fz.refl rfl⟩
  · cases ez
def intD : List D → Option D
  | [.int i] => some (.int i)
  | [.bl b] => some (.int (if b then 1 else 0))
  | _ => none
theorem call_intX : CallR X (.type "int") (cD X.K intD) := by
  intro pins s σ H xs us Q I rx h
  obtain ⟨F, ds, z, fz, r, ez, k⟩ := h
  unfold intD at ez
  split at ez
  · rename_i i
    cases ez
    obtain ⟨v, e, r1⟩ := repL1 r
    subst e
    cases r1
    exact call_int1 pins s σ H _ us Q I rx (.inl ⟨i, rfl, k F H _ fz.refl rfl⟩)
  · rename_i b
    cases ez
    obtain ⟨v, e, r1⟩ := repL1 r
    subst e
    cases r1
    exact call_int1 pins s σ H _ us Q I rx (.inr ⟨b, rfl, k F H _ fz.refl rfl⟩)
  · cases ez
def boolD : List D → Option D
  | [.int i] => some (.bl (i != 0))
  | [.bl b] => some (.bl b)
  | _ => none
theorem call_boolX : CallR X (.type "bool") (cD X.K boolD) := by
  intro pins s σ H xs us Q I rx h
  obtain ⟨F, ds, z, fz, r, ez, k⟩ := h
  unfold boolD at ez
  split at ez
  · rename_i i
    cases ez
    obtain ⟨v, e, r1⟩ := repL1 r
    subst e
    cases r1
    exact call_bool1 pins s σ H _ us Q I rx (.inl ⟨i, rfl, k F H _ fz.refl rfl⟩)
  · rename_i b
    cases ez
    obtain ⟨v, e, r1⟩ := repL1 r
    subst e
    cases r1
    exact call_bool1 pins s σ H _ us Q I rx (.inr ⟨b, rfl, k F H _ fz.refl rfl⟩)
  · cases ez
/-- the signs of a text -/
def chars (z : Str) : List D := z.cps.toList.map fun c => .str ⟨#[c]⟩
/-- a call that makes a new list -/
def nD (K : PySem.W.Frag) (g : List D → Option (List D)) : List V → Hp → VK → Prop := fun xs H Q => ∃ F ds zs, Fz F H ∧ RepL K F ds xs ∧ g ds = some zs ∧ ∀ p vs, H p = none → RepL K F zs vs → Q (.ref p) (upd H p (.lst vs))
def listD : List D → Option (List D)
  | [.tup xs] => some xs
  | [.lst xs] => some xs
  | [.str z] => if z.length ≤ 100000 then some (chars z) else none
  | _ => none
theorem chars_rep {K : PySem.W.Frag} {F : Hp} (z : Str) : RepL K F (chars z) (z.cps.toList.map fun c => V.str ⟨#[c]⟩) := by
  unfold chars
  induction z.cps.toList with
  | nil => rfl
  | cons c r ih => exact ⟨_, _, rfl, rfl, ih⟩
theorem vals_at : ∀ {xs : List V} {us : List Value}, xs.length = us.length → (∀ (j : Nat) (x : V) (u : Value), xs[j]? = some x → us[j]? = some u → RelV x u) → Vals xs us
  | [], [], _, _ => .nil
  | x :: xs, u :: us, hl, h => .cons (h 0 x u rfl rfl) (vals_at (by simpa using hl) fun j x u a b => h (j + 1) x u (by simpa using a) (by simpa using b))
  | [], _ :: _, hl, _ => by cases hl
  | _ :: _, [], hl, _ => by cases hl
theorem call_listX (hc : X.calm = true) : CallR X (.type "list") (nD X.K listD) := by
  intro pins s σ H xs us Q I rx h
  obtain ⟨F, ds, zs, fz, r, ez, k⟩ := h
  unfold listD at ez
  split at ez
  · cases ez
    obtain ⟨v, e, a, ys, r1, r2, r3⟩ := repL1 r
    subst e r1
    exact call_list_of pins s σ H _ us Q I rx ⟨a, ys, rfl, .inr (sqT_mono fz.up r2.sq), fun p hp => k p ys hp r3⟩
  · cases ez
    obtain ⟨v, e, a, ys, r1, r2, r3⟩ := repL1 r
    subst e r1
    exact call_list_of pins s σ H _ us Q I rx ⟨a, ys, rfl, .inl (.of (fz.up _ _ r2)), fun p hp => k p ys hp r3⟩
  · rename_i z
    split at ez
    · rename_i hz
      cases ez
      obtain ⟨v, e, r1⟩ := repL1 r
      subst e
      cases r1
      obtain ⟨u, eu, ru⟩ := vals1 rx
      subst eu
      obtain ⟨t, eu⟩ := ru
      subst eu
      have hl : z.cps.size ≤ sizeLine := Nat.le_trans hz h100
      refine call_list_str (I.ok.hd hc) z t (fun h' tk acc' c' keep new items => ?_) hl
      have rv : Vals (z.cps.toList.map fun c => V.str ⟨#[c]⟩) acc'.toList := by
        refine vals_at ?_ fun j x u hx hu => ?_
        · rw [List.length_map, Array.length_toList, Array.length_toList, items.1]
        · obtain ⟨c, t, ec, eu⟩ := items.2 j u (by rw [← Array.getElem?_toList]; exact hu)
          rw [List.getElem?_map, Array.getElem?_toList, ec] at hx
          cases hx
          exact ⟨t, eu⟩
      refine ⟨.ref s.heap.objs.size, _, I.laid (t' := tk) (o := .lst (z.cps.toList.map fun c => V.str ⟨#[c]⟩)) keep (Nat.le_refl _) ⟨by rw [List.length_map, Array.length_toList]; exact hl, acc'.toList, c', rv, by simpa using new⟩, rfl, k _ _ (I.hok.fresh (Nat.le_refl _)) (chars_rep z)⟩
    · cases ez
  · cases ez
/-- isinstance(x, T) -/
def tyN : D → Option String
  | .non => some "NoneType"
  | .bl _ => some "bool"
  | .int _ => some "int"
  | .str _ => some "str"
  | .tup _ => some "tuple"
  | .lst _ => some "list"
  | .dct _ _ => some "dict"
  | _ => none
def isiT (a b : String) : Bool := a == b || (a == "bool" && b == "int")
def isiD : List D → Option D
  | [d, .rf (.ty b)] => match tyN d with
    | some a => if knTy b = true then some (.bl (isiT a b)) else none
    | none => none
  | _ => none
theorem kit_tab : (["NoneType", "bool", "int", "str", "tuple", "list", "dict"].all fun a => ["NoneType", "bool", "int", "str", "tuple", "list", "dict"].all fun b => kitB a b == some (isiT a b)) = true := by decide +kernel
theorem tyN_mem {d : D} {a : String} (h : tyN d = some a) : a ∈ ["NoneType", "bool", "int", "str", "tuple", "list", "dict"] := by
  cases d <;> first | (cases h; simp; done) | cases h
theorem knTy_mem {b : String} (h : knTy b = true) : b ∈ ["NoneType", "bool", "int", "str", "tuple", "list", "dict"] := by
  unfold knTy at h
  simp only [Bool.or_eq_true, beq_iff_eq] at h
  simp only [List.mem_cons, List.mem_nil_iff, or_false]
  rcases h with (((((h | h) | h) | h) | h) | h) | h <;> simp [h]
theorem kit_is {a b : String} (ha : a ∈ ["NoneType", "bool", "int", "str", "tuple", "list", "dict"]) (hb : b ∈ ["NoneType", "bool", "int", "str", "tuple", "list", "dict"]) : kitB a b = some (isiT a b) := by
  have h := List.all_eq_true.mp kit_tab a ha
  have h2 := List.all_eq_true.mp h b hb
  exact eq_of_beq h2
theorem tyX_of {H : Hp} {d : D} {x : V} {a : String} (h : tyN d = some a) (r : Rep X.K H d x) : TyX X.K H x (.type a) := by
  cases d with
  | non => cases h; cases r; exact .base .non
  | bl b => cases h; cases r; exact .base (.bl b)
  | int i => cases h; cases r; exact .base (.int i)
  | str z => cases h; cases r; exact .base (.str z)
  | tup ds =>
    cases h
    obtain ⟨p, ys, r1, r2, _⟩ := r
    subst r1
    rcases r2 with r2 | ⟨o, its, n, r2, r3, _⟩
    · exact .base (.tup r2)
    · exact .kTuple r2 r3
  | lst ds =>
    cases h
    obtain ⟨p, ys, r1, r2, _⟩ := r
    subst r1
    exact .base (.lst r2)
  | dct ks ds =>
    cases h
    obtain ⟨p, us, r1, r2, _⟩ := r
    subst r1
    exact .base (.dK r2)
  | rf w => cases h
  | scr w => cases h
theorem call_isiX : CallR X (.builtin "isinstance") (cD X.K isiD) := by
  intro pins s σ H xs us Q I rx h
  obtain ⟨F, ds, z, fz, r, ez, k⟩ := h
  unfold isiD at ez
  split at ez
  · rename_i d b
    cases ea : tyN d with
    | none => rw [ea] at ez; cases ez
    | some a =>
      rw [ea] at ez
      have ez : (if knTy b = true then some (D.bl (isiT a b)) else none) = some z := ez
      split at ez
      · rename_i hk
        cases ez
        obtain ⟨v, w, e, r1, r2⟩ := repL2 r
        subst e
        have r2 : w = .ty b := r2
        subst r2
        exact call_isi pins s σ H _ us Q I rx ⟨v, .ty b, _, _, _, rfl, .ty b, tyX_of ea (r1.mono fz.up), kit_ty (kit_is (tyN_mem ea) (knTy_mem hk)), k F H _ fz.refl rfl⟩
      · cases ez
  · cases ez
def typeD : List D → Option D
  | [d] => (tyN d).map fun a => .rf (.ty a)
  | _ => none
theorem call_typeX : CallR X (.type "type") (cD X.K typeD) := by
  intro pins s σ H xs us Q I rx h
  obtain ⟨F, ds, z, fz, r, ez, k⟩ := h
  unfold typeD at ez
  split at ez
  · rename_i d
    cases ea : tyN d with
    | none => rw [ea] at ez; cases ez
    | some a =>
      rw [ea] at ez
      cases ez
      obtain ⟨v, e, r1⟩ := repL1 r
      subst e
      obtain ⟨u, eu, ru⟩ := vals1 rx
      subst eu
      have hT : s.TypeIs u a ∧ (Value.type a == Value.type "builtin_function_or_method") = false := by
        have r1 := r1.mono fz.up
        cases d with
        | non => cases ea; cases r1; cases ru; exact ⟨rfl, by decide +kernel⟩
        | bl b => cases ea; cases r1; cases ru; exact ⟨rfl, by decide +kernel⟩
        | int i => cases ea; cases r1; obtain ⟨t, rfl⟩ := ru; exact ⟨rfl, by decide +kernel⟩
        | str i => cases ea; cases r1; obtain ⟨t, rfl⟩ := ru; exact ⟨rfl, by decide +kernel⟩
        | tup es => cases ea; obtain ⟨p, ys, q1, q2, _⟩ := r1; subst q1; cases ru; obtain ⟨its, _, o, h1, h2, _⟩ := tup_is I q2; exact ⟨⟨o, h1, h2⟩, by decide +kernel⟩
        | lst es => cases ea; obtain ⟨p, ys, q1, q2, _⟩ := r1; subst q1; cases ru; obtain ⟨its, _, h⟩ := lst_is I q2; exact ⟨h.typeIs, by decide +kernel⟩
        | dct ks es => cases ea; obtain ⟨p, us, q1, q2, _⟩ := r1; subst q1; cases ru; obtain ⟨_, _, vs, _, q⟩ := (show ObjOk X.prog X.w H s.heap p (.dK us) from I.hok p _ q2); exact ⟨q.typeIs, by decide +kernel⟩
        | rf w => cases ea
        | scr w => cases ea
      exact call_type_of hT.1 hT.2 ⟨.ty a, H, I, rfl, k F H _ fz.refl rfl⟩
  · cases ez
end
end Pl
namespace Pl
open PySem PySem.Spec PyProof.Rows L2
variable {α β γ : Type} {c : Cn} {E : WX} {np : Nat}
/-! ## lists of the frame's own, read and written; what a for goes over -/
theorem isOwn_at {ρ : Env} {i : Nat} (h : isOwn ρ i = true) : ∃ s, ρ[i]? = some s ∧ s.own = true := by
  unfold isOwn at h
  cases e : ρ[i]? with
  | none => rw [e] at h; cases h
  | some s => rw [e] at h; exact ⟨s, rfl, h⟩
def atD (ds : List D) : D → Option D
  | .int k => atI ds k
  | .bl b => atI ds (if b = true then 1 else 0)
  | _ => none
def atO (ds : List D) : D → Option D
  | .int k => atI ds k
  | _ => none
/-- x[e], x a list of the frame's own -/
def eIxO (i : Nat) (b : M D) : M D := fun ρ => if isOwn ρ i = true then (b.bind fun e ρ => match ρ[i]? with
  | some (.o ds) => M.lift (atO ds e) ρ
  | _ => .bad) ρ else .bad
theorem ex_ixO {i : Nat} {tb : TE} {fb : M D} (hb : Ex c E tb fb) : Ex c E (tOp (rIx c.K) (tVar i) tb) (eIxO i fb) := by
  intro W F H σ ρ Q R h
  unfold eIxO at h
  split at h
  · rename_i ho
    obtain ⟨s, e, so⟩ := isOwn_at ho
    obtain ⟨p, a, _, _⟩ := (R.here i s e).own so
    refine ⟨.ref p, a, hb W F H σ ρ _ R ((h.bind (Rep c.K)).mono fun y H2 ⟨d, ρ2, F2, R2, s2, r2, h2⟩ => ?_)⟩
    revert h2
    cases e2 : ρ2[i]? with
    | none => exact fun h2 => h2.elim
    | some s' =>
      cases s' with
      | o ds =>
        intro h2
        obtain ⟨z, ez, k⟩ := Post.lift h2
        obtain ⟨p', a', ⟨vs, hp, rv, _⟩, _⟩ := R2.here i _ e2
        rw [a] at a'
        cases a'
        cases d with
        | int j =>
          obtain ⟨v, ev, rz⟩ := atI_rep rv ez
          obtain rfl : y = .int j := r2
          exact .inl ⟨p, vs, j, v, rfl, rfl, .of hp, ev, k F2 H2 v R2 (Same.refl _) rz⟩
        | _ => cases ez
      | _ => exact fun h2 => h2.elim
  · exact h.elim
/-- x.append(e) -/
def sApp (i : Nat) (f : M D) : S := fun ρ => if isOwn ρ i = true then (f.bind fun d ρ => match ρ[i]? with
  | some (.o ds) => if ds.length < 100000 then .ok .nx (ρ.set i (.o (ds ++ [d]))) else .bad
  | _ => .bad) ρ else .bad
/-- x is a list of the frame's own here -/
def isLs (ρ : Env) (i : Nat) : Bool := match ρ[i]? with
  | some (.o _) => true
  | _ => false
theorem isLs_at {ρ : Env} {i : Nat} (h : isLs ρ i = true) : ∃ ds, ρ[i]? = some (.o ds) := by
  unfold isLs at h
  cases e : ρ[i]? with
  | none => rw [e] at h; cases h
  | some s =>
    cases s with
    | o ds => exact ⟨ds, rfl⟩
    | _ => rw [e] at h; cases h
def sAppL (i : Nat) (f : M D) : S := fun ρ => if isLs ρ i = true then (f.bind fun d ρ => match ρ[i]? with
  | some (.o ds) => if ds.length < 100000 then .ok .nx (ρ.set i (.o (ds ++ [d]))) else .bad
  | _ => .bad) ρ else .bad
theorem h100' {n : Nat} (h : n < 100000) : n < sizeLine := Nat.lt_of_lt_of_le h h100
theorem sx_app {i : Nat} {te : TE} {f : M D} (he : Ex c E te f) : Sx c E np (tDrop (tBM c.K "list" rAppend (tVar i) (tCons te tNil))) (sAppL i f) := by
  intro W F H σ ρ D hn R h
  unfold sAppL at h
  split at h
  · rename_i ho
    obtain ⟨ds0, e⟩ := isLs_at ho
    obtain ⟨p, a, ⟨vs0, hp0, _, _⟩, _⟩ := R.here i _ e
    refine ⟨.ref p, a, .inl ⟨rfl, vs0, .of hp0⟩, he W F H σ ρ _ R ((h.bind (Rep c.K)).mono fun y H2 ⟨d, ρ2, F2, R2, s2, r2, h2⟩ => ?_)⟩
    revert h2
    cases e2 : ρ2[i]? with
    | none => exact fun h2 => h2.elim
    | some s' =>
      cases s' with
      | o ds =>
        intro h2
        have h2 : SPost c W F2 E D (if ds.length < 100000 then .ok .nx (ρ2.set i (.o (ds ++ [d]))) else .bad) := h2
        split at h2
        · rename_i hl
          obtain ⟨p', a', ⟨vs, hp, rv, fp⟩, _⟩ := R2.here i _ e2
          rw [a] at a'
          cases a'
          refine ⟨p, vs, y, rfl, rfl, hp, by rw [← rv.len]; exact h100' hl, ?_⟩
          exact h2 F2 _ σ (R2.put e2 rfl a ⟨vs ++ [y], upd_same, rv.app (.cons r2 .nil), fp⟩) (Same.refl _)
        · exact h2.elim
      | _ => exact fun h2 => h2.elim
  · exact h.elim
/-- x[e] = v -/
def sSetO (i : Nat) (fk f : M D) : S := f.bind fun d ρ => if isOwn ρ i = true then (fk.bind fun k ρ => match ρ[i]?, k with
  | some (.o ds), .int k => match ixN ds.length k with
    | some j => .ok .nx (ρ.set i (.o (ds.set j d)))
    | none => .bad
  | _, _ => .bad) ρ else .bad
theorem sx_setO {i : Nat} {te tk : TE} {f fk : M D} (he : Ex c E te f) (hk : Ex c E tk fk) : Sx c E np (tAsg te (gSub (tVar i) tk rSetL)) (sSetO i fk f) := by
  intro W F H σ ρ D hn R h
  refine he W F H σ ρ _ R ((h.bind (Rep c.K)).mono fun v H1 ⟨d, ρ1, F1, R1, s1, r1, h1⟩ => ?_)
  have h1 : SPost c W F1 E D (if isOwn ρ1 i = true then (fk.bind fun k ρ => match ρ[i]?, k with
    | some (.o ds), .int k => match ixN ds.length k with
      | some j => .ok .nx (ρ.set i (.o (ds.set j d)))
      | none => .bad
    | _, _ => .bad) ρ1 else .bad) := h1
  split at h1
  · rename_i ho
    obtain ⟨s, e, so⟩ := isOwn_at ho
    obtain ⟨p, a, _, _⟩ := (R1.here i s e).own so
    refine ⟨.ref p, a, hk W F1 H1 σ ρ1 _ R1 ((SPost.bind (Rep c.K) h1).mono fun y H2 ⟨k, ρ2, F2, R2, s2, r2, h2⟩ => ?_)⟩
    revert h2
    cases e2 : ρ2[i]? with
    | none => exact fun h2 => h2.elim
    | some s' =>
      cases s' with
      | o ds =>
        cases k with
        | int k =>
          intro h2
          have h2 : SPost c W F2 E D (match ixN ds.length k with
            | some j => .ok .nx (ρ2.set i (.o (ds.set j d)))
            | none => .bad) := h2
          cases ej : ixN ds.length k with
          | none => rw [ej] at h2; exact h2.elim
          | some j =>
            rw [ej] at h2
            obtain ⟨p', a', ⟨vs, hp, rv, fp⟩, _⟩ := R2.here i _ e2
            rw [a] at a'
            cases a'
            obtain rfl : y = .int k := r2
            refine ⟨p, vs, k, j, rfl, rfl, hp, by rw [← rv.len]; exact ej, ?_⟩
            exact h2 F2 _ σ (R2.put e2 rfl a ⟨vs.set j v, upd_same, rv.set j (r1.mono s2), fp⟩) (Same.refl _)
        | _ => exact fun h2 => h2.elim
      | _ => cases k <;> exact fun h2 => h2.elim
  · exact h1.elim
/-- from here on x does not change any more -/
def sFz (i : Nat) (g : S) : S := fun ρ => match (ρ[i]?).bind frz with
  | some d => g (ρ.set i (.d d))
  | none => .bad
theorem sx_fz {i : Nat} {t : TS} {g : S} (hi : np ≤ i) (h : Sx c E np t g) : Sx c E np t (sFz i g) := by
  intro W F H σ ρ D hn R q
  unfold sFz at q
  cases e : ρ[i]? with
  | none => rw [e] at q; exact q.elim
  | some s =>
    rw [e] at q
    have q : SPost c W F E D (match frz s with | some d => g (ρ.set i (.d d)) | none => .bad) := q
    cases ed : frz s with
    | none => rw [ed] at q; exact q.elim
    | some d =>
      rw [ed] at q
      obtain ⟨F', s', R'⟩ := R.freeze (by rw [hn]; exact hi) e ed
      exact h W F' H σ _ D hn R' (q.up s')
/-- a, b = x, y -/
def sPar (i j : Nat) (f : M (List D)) : S := f.bind fun ds ρ => match ds with
  | [d, e] => .ok .nx ((ρ.set i (.d d)).set j (.d e))
  | _ => .bad
theorem sx_par {i j : Nat} {ta : TA} {f : M (List D)} (ha : Ax c E ta f) : Sx c E np (tPar i j ta) (sPar i j f) := by
  intro W F H σ ρ D hn R h
  refine ha W F H σ ρ _ R ((h.bind (RepL c.K)).mono fun vs H1 ⟨ds, ρ1, F1, R1, s1, r1, h1⟩ => ?_)
  revert h1
  match ds with
  | [d, e] =>
    intro h1
    obtain ⟨v, w, rfl, rv, rw'⟩ := repL2 r1
    exact ⟨v, w, rfl, h1 F1 H1 _ ((R1.store rv i).store rw' j) (Same.refl _)⟩
  | [] => exact fun h1 => h1.elim
  | [_] => exact fun h1 => h1.elim
  | _ :: _ :: _ :: _ => exact fun h1 => h1.elim
theorem gx_lst {n : Nat} {gs : TGs} {is : List Nat} {gds : List D → Env → Option Env} (h : Gxs c gs is gds) : Gx c (gLst c.K n gs) is (lstD n gds) := by
  intro W F H σ ρ d v ρ' Q R r e k
  cases d with
  | lst ds =>
    obtain ⟨a, xs, e1, e2, e3⟩ := r
    have e : (if ds.length = n then gds ds ρ else none) = some ρ' := e
    split at e
    · rename_i hl
      exact ⟨a, xs, e1, .of (R.sub _ _ e2), by rw [← e3.len]; exact hl, h W F H σ ρ ds xs ρ' Q R e3 e k⟩
    · cases e
  | _ => cases e
/-! ### new lists of built-ins -/
def eN (g : List D → Option (List D)) (a : M (List D)) : M (List D) := a.bind fun xs => M.lift (g xs)
theorem ef_n {g : List D → Option (List D)} {tA : TA} {fA : M (List D)} (ha : Ax c E tA fA) : Ef c E (tCB (nD c.K g) tA) (eN g fA) := by
  intro W F H σ ρ Q R h
  refine ha W F H σ ρ _ R ((h.bind (RepL c.K)).mono fun vs H1 ⟨ds, ρ1, F1, R1, s1, r1, h1⟩ => ?_)
  cases e : g ds with
  | none => rw [e] at h1; exact h1.elim
  | some zs =>
    rw [e] at h1
    refine ⟨F1, ds, zs, R1.fz, r1, e, fun p vs hp r => ?_⟩
    obtain ⟨R2, fr⟩ := R1.lay hp r
    exact h1 F1 _ p R2 (Same.refl _) fr
/-! ### what a for goes over -/
def asLst : D → Option (List D)
  | .lst ds => some ds
  | _ => none
def asTup : D → Option (List D)
  | .tup ds => some ds
  | _ => none
def asStr : D → Option (List D)
  | .str z => some (z.cps.toList.map fun q => .str ⟨#[q]⟩)
  | _ => none
def itBy (g : D → Option (List D)) (f : M D) : M (List D) := f.bind fun d => M.lift (g d)
theorem walk_D {K : PySem.W.Frag} {J : It} {F : Hp} {ds : List D} {n : Nat} {G : Hp → Prop} {Y : Nat → Hp → V → Hp → Prop} (w : L2.Walk J n G Y) (hn : ds.length = n) (hG : ∀ H, Same F H → G H)
    (hY : ∀ i H x H', Same F H → i < n → Y i H x H' → ∃ d, ds[i]? = some d ∧ ((H' = H ∧ Rep K F d x) ∨ ∃ (T : Addr) (vs : List V) (es : List D), H T = none ∧ H' = upd H T (.tup vs) ∧ x = .ref T ∧ d = .tup es ∧ RepL K F es vs)) (hst : ∀ i H, J.stop n H → n ≤ i → J.stop i H) : WalkD K J F ds :=
  ⟨fun i H s h => hst i H (w.stops H (hG H s)) (by omega), fun i H s h => w.goes i H (by omega) (hG H s), fun i H x H' s h y => hY i H x H' s (by omega) (w.yields i H x H' (by omega) (hG H s) y)⟩
section
variable {tl : TE} {f : M D} {tA : TA} {fA : M (List D)}
theorem ix_list (hl : Ex c E tl f) : Ix c E (iList c.K tl) (itBy asLst f) := by
  intro W F H σ ρ Q R h
  refine hl W F H σ ρ _ R ((h.bind (Rep c.K)).mono fun v H1 ⟨d, ρ1, F1, R1, s1, r1, h1⟩ => ?_)
  obtain ⟨ds, e, k⟩ := Post.lift h1
  cases d with
  | lst es =>
    cases e
    obtain ⟨a, xs, rfl, h2, h3⟩ := r1
    refine ⟨a, rfl, ⟨xs, .of (R1.sub _ _ h2)⟩, k F1 H1 _ R1 (Same.refl _) ?_⟩
    refine walk_D (L2.walk_list (K := c.K) (a := a) (xs := xs)) h3.len (fun H s => .of (s _ _ h2)) (fun i H x H' s hi ⟨e1, e2⟩ => ?_) fun i H ⟨ys, q, hle⟩ hi => ⟨ys, q, Nat.le_trans hle hi⟩
    obtain ⟨d, e3, r⟩ := h3.of_get e2
    exact ⟨d, e3, .inl ⟨e1, r⟩⟩
  | _ => cases e
theorem ix_tup' (hl : Ex c E tl f) : Ix c E (iTup c.K tl) (itBy asTup f) := by
  intro W F H σ ρ Q R h
  refine hl W F H σ ρ _ R ((h.bind (Rep c.K)).mono fun v H1 ⟨d, ρ1, F1, R1, s1, r1, h1⟩ => ?_)
  obtain ⟨ds, e, k⟩ := Post.lift h1
  cases d with
  | tup es =>
    cases e
    obtain ⟨a, xs, rfl, h2, h3⟩ := r1
    refine ⟨a, rfl, ⟨xs, sqT_mono R1.sub h2.sq⟩, k F1 H1 _ R1 (Same.refl _) ?_⟩
    refine walk_D (L2.walk_tup (K := c.K) (a := a) (xs := xs)) h3.len (fun H s => sqT_mono s h2.sq) (fun i H x H' s hi ⟨e1, e2⟩ => ?_) fun i H ⟨ys, q, hle⟩ hi => ⟨ys, q, Nat.le_trans hle hi⟩
    obtain ⟨d, e3, r⟩ := h3.of_get e2
    exact ⟨d, e3, .inl ⟨e1, r⟩⟩
  | _ => cases e
theorem ix_str' (hl : Ex c E tl f) : Ix c E (iStr tl) (itBy asStr f) := by
  intro W F H σ ρ Q R h
  refine hl W F H σ ρ _ R ((h.bind (Rep c.K)).mono fun v H1 ⟨d, ρ1, F1, R1, s1, r1, h1⟩ => ?_)
  obtain ⟨ds, e, k⟩ := Post.lift h1
  cases d with
  | str z =>
    cases e
    obtain rfl : v = .str z := r1
    refine ⟨z, rfl, k F1 H1 _ R1 (Same.refl _) ?_⟩
    refine walk_D (L2.walk_str (z := z)) (by rw [List.length_map, Array.length_toList]) (fun _ _ => trivial) (fun i H x H' s hi ⟨e1, q, e2, e3⟩ => ?_) fun i H hle hi => Nat.le_trans (show _ ≤ _ from hle) hi
    refine ⟨.str ⟨#[q]⟩, ?_, .inl ⟨e1, e3⟩⟩
    rw [List.getElem?_map, Array.getElem?_toList, e2]
    rfl
  | _ => cases e
def rng1D : List D → Option (List D)
  | [.int j] => if -(2 ^ 62) ≤ j ∧ j < 2 ^ 62 then some ((List.range j.toNat).map fun k => .int (k : Nat)) else none
  | _ => none
def rng2D : List D → Option (List D)
  | [.int i, .int j] => if -(2 ^ 62) ≤ i ∧ i < 2 ^ 62 ∧ -(2 ^ 62) ≤ j ∧ j < 2 ^ 62 then some ((List.range (j - i).toNat).map fun k => .int (i + (k : Nat))) else none
  | _ => none
def itBs (g : List D → Option (List D)) (f : M (List D)) : M (List D) := f.bind fun ds => M.lift (g ds)
theorem walk_rng {K : PySem.W.Frag} {F : Hp} {i : Int} {n : Nat} : WalkD K (Itr i n) F ((List.range n).map fun k => .int (i + (k : Nat))) := by
  refine walk_D (L2.walk_range (lo := i) (n := n)) (by rw [List.length_map, List.length_range]) (fun _ _ => trivial) (fun j H x H' s hj ⟨e1, e2⟩ => ?_) fun _ _ hle hi => Nat.le_trans (show _ ≤ _ from hle) hi
  refine ⟨.int (i + (j : Nat)), ?_, .inl ⟨e1, e2⟩⟩
  rw [List.getElem?_map, List.getElem?_range hj]
  rfl
theorem ix_rng1 (ha : Ax c E tA fA) : Ix c E (iRng1 tA) (itBs rng1D fA) := by
  intro W F H σ ρ Q R h
  refine ha W F H σ ρ _ R ((h.bind (RepL c.K)).mono fun vs H1 ⟨ds, ρ1, F1, R1, s1, r1, h1⟩ => ?_)
  obtain ⟨zs, e, k⟩ := Post.lift h1
  unfold rng1D at e
  split at e
  · rename_i j
    split at e
    · rename_i hj
      obtain ⟨v, rfl, rv⟩ := repL1 r1
      obtain rfl : v = .int j := rv
      cases e
      refine ⟨j, rfl, hj.1, hj.2, k F1 H1 _ R1 (Same.refl _) ?_⟩
      have w := walk_rng (K := c.K) (F := F1) (i := 0) (n := j.toNat)
      simp only [Int.zero_add] at w
      exact w
    · cases e
  · cases e
theorem ix_rng2 (ha : Ax c E tA fA) : Ix c E (iRng2 tA) (itBs rng2D fA) := by
  intro W F H σ ρ Q R h
  refine ha W F H σ ρ _ R ((h.bind (RepL c.K)).mono fun vs H1 ⟨ds, ρ1, F1, R1, s1, r1, h1⟩ => ?_)
  obtain ⟨zs, e, k⟩ := Post.lift h1
  unfold rng2D at e
  split at e
  · rename_i i j
    split at e
    · rename_i hj
      obtain ⟨v, w, rfl, rv, rw'⟩ := repL2 r1
      obtain rfl : v = .int i := rv
      obtain rfl : w = .int j := rw'
      cases e
      exact ⟨i, j, rfl, hj, k F1 H1 _ R1 (Same.refl _) walk_rng⟩
    · cases e
  · cases e
def numbered (ds : List D) : List D := (List.range ds.length).map fun k => .tup [.int (k : Nat), ds.getD k .non]
def enumD : List D → Option (List D)
  | [.lst ds] => some (numbered ds)
  | _ => none
theorem getD_of {ds : List D} {i : Nat} {d : D} (e : ds[i]? = some d) : ds.getD i .non = d := by
  rw [List.getD_eq_getElem?_getD, e]
  rfl
theorem ix_enum (ha : Ax c E tA fA) : Ix c E (iEnum c.K tA) (itBs enumD fA) := by
  intro W F H σ ρ Q R h
  refine ha W F H σ ρ _ R ((h.bind (RepL c.K)).mono fun vs H1 ⟨ds, ρ1, F1, R1, s1, r1, h1⟩ => ?_)
  obtain ⟨zs, e, k⟩ := Post.lift h1
  unfold enumD at e
  split at e
  · rename_i es
    obtain ⟨v, rfl, a, xs, rfl, h2, h3⟩ := repL1 r1
    cases e
    refine ⟨a, xs, rfl, .of (R1.sub _ _ h2), k F1 H1 _ R1 (Same.refl _) ?_⟩
    refine walk_D (L2.walk_enum (K := c.K) (a := a) (xs := xs)) (by unfold numbered; rw [List.length_map, List.length_range, h3.len]) (fun H s => .of (s _ _ h2)) (fun i H x H' s hi ⟨T, y, z, e1, e2, e3, e4, e5⟩ => ?_) fun i H ⟨ys, q, hle⟩ hi => ⟨ys, q, Nat.le_trans hle hi⟩
    cases e4
    obtain ⟨d, e6, r⟩ := h3.of_get e5
    refine ⟨.tup [.int (i : Nat), d], ?_, .inr ⟨T, _, _, e2, e3, e1, rfl, .cons rfl (.cons r .nil)⟩⟩
    unfold numbered
    rw [List.getElem?_map, List.getElem?_range (by rw [h3.len]; exact hi)]
    show some (D.tup [.int (i : Nat), es.getD i .non]) = _
    rw [getD_of e6]
  · cases e
def paired (ds es : List D) : List D := (List.range (min ds.length es.length)).map fun k => .tup [ds.getD k .non, es.getD k .non]
def zipD : List D → Option (List D)
  | [.lst ds, .lst es] => some (paired ds es)
  | _ => none
theorem ix_zip (ha : Ax c E tA fA) : Ix c E (iZip c.K tA) (itBs zipD fA) := by
  intro W F H σ ρ Q R h
  refine ha W F H σ ρ _ R ((h.bind (RepL c.K)).mono fun vs H1 ⟨ds, ρ1, F1, R1, s1, r1, h1⟩ => ?_)
  obtain ⟨zs, e, k⟩ := Post.lift h1
  unfold zipD at e
  split at e
  · rename_i ds es
    obtain ⟨v, w, rfl, ⟨a, xs, rfl, h2, h3⟩, ⟨b, ys, rfl, h4, h5⟩⟩ := repL2 r1
    cases e
    refine ⟨a, b, xs, ys, rfl, .of (R1.sub _ _ h2), .of (R1.sub _ _ h4), k F1 H1 _ R1 (Same.refl _) ?_⟩
    refine walk_D (L2.walk_zip (K := c.K) (a := a) (b := b) (xs := xs) (ys := ys) rfl) (by unfold paired; rw [List.length_map, List.length_range, h3.len, h5.len]) (fun H s => ⟨.of (s _ _ h2), .of (s _ _ h4)⟩) (fun i H x H' s hi ⟨T, y, z, e1, e2, e3, e4, e5⟩ => ?_) fun i H ⟨x1, x2, q1, q2, hle⟩ hi => ⟨x1, x2, q1, q2, by omega⟩
    obtain ⟨d, e6, r⟩ := h3.of_get e4
    obtain ⟨d', e7, r'⟩ := h5.of_get e5
    refine ⟨.tup [d, d'], ?_, .inr ⟨T, _, _, e2, e3, e1, rfl, .cons r (.cons r' .nil)⟩⟩
    unfold paired
    rw [List.getElem?_map, List.getElem?_range (by rw [h3.len, h5.len]; exact hi)]
    show some (D.tup [ds.getD i .non, es.getD i .non]) = _
    rw [getD_of e6, getD_of e7]
  · cases e
def revD : List D → Option (List D)
  | [.lst ds] => some ds.reverse
  | _ => none
theorem ix_rev (ha : Ax c E tA fA) : Ix c E (iRev c.K tA) (itBs revD fA) := by
  intro W F H σ ρ Q R h
  refine ha W F H σ ρ _ R ((h.bind (RepL c.K)).mono fun vs H1 ⟨ds, ρ1, F1, R1, s1, r1, h1⟩ => ?_)
  obtain ⟨zs, e, k⟩ := Post.lift h1
  unfold revD at e
  split at e
  · rename_i es
    obtain ⟨v, rfl, a, xs, rfl, h2, h3⟩ := repL1 r1
    cases e
    refine ⟨a, xs, rfl, .of (R1.sub _ _ h2), k F1 H1 _ R1 (Same.refl _) ?_⟩
    refine walk_D (L2.walk_rev (K := c.K) (a := a) (xs := xs)) (by rw [List.length_reverse, h3.len]) (fun H s => .of (s _ _ h2)) (fun i H x H' s hi ⟨e1, e2⟩ => ?_) fun i H q hi => Nat.le_trans (show _ ≤ _ from q) hi
    obtain ⟨d, e6, r⟩ := h3.of_get e2
    refine ⟨d, ?_, .inl ⟨e1, r⟩⟩
    rw [List.getElem?_reverse (by rw [h3.len]; exact hi), h3.len]
    exact e6
  · cases e
end
end Pl
namespace Pl
open PySem PySem.Spec PyProof.Rows L2
variable {α β γ : Type} {c : Cn} {E : WX} {np : Nat}
/-! ## the module's constants; index; max with a default -/
theorem ex_tab {r : R2} {a : Addr} {tb : TE} {fb : M D} {look : D → Option D} (hb : Ex c E tb fb) (hr : ∀ (F H : Hp) (d e : D) (y : V) (Q : VK), Rep c.K F d y → look d = some e → (∀ v, (∀ F', Rep c.K F' e v) → Q v H) → r (.ref a) y H Q) : Ex c E (tOp r (tC (.ref a)) tb) (eUn look fb) := by
  intro W F H σ ρ Q R h
  refine hb W F H σ ρ _ R ((h.bind (Rep c.K)).mono fun y H2 ⟨d, ρ2, F2, R2, s2, r2, h2⟩ => ?_)
  obtain ⟨z, e, k⟩ := Post.lift h2
  exact hr F2 H2 d z y Q r2 e fun v rv => k F2 H2 v R2 (Same.refl _) (rv F2)
/-- a written dict with whole numbers as keys -/
def rKI (K : PySem.W.Frag) : R2 := fun x y H Q => ∃ (p : Addr) (i : Int) (es : Array DictEntry) (n : Nat) (u : Value) (v : V), x = .ref p ∧ y = .int i ∧ K.lookup p = some ⟨.type "dict", none, .dict es n, #[]⟩ ∧ (∀ e ∈ es, ∃ k t, e.key = Value.int k t ∧ e.hash = hashInt k) ∧ findBy Value.isInt es i = some u ∧ RelV v u ∧ Q v H
theorem ix_kint {X : Cx} : IxR X (rKI X.K) := by
  intro value slice pins s σ H x y v u Q I rx ry h hs
  obtain ⟨p, i, es, n, w, z, rfl, rfl, hl, hk, hf, rz, q⟩ := h
  obtain rfl : v = Value.ref p := rx
  obtain ⟨t, rfl⟩ := ry
  have m : s.heap.MapOf (intKind X.prog X.w) p (fun k => findBy Value.isInt es k) := by
    refine ⟨_, es, n, I.kIn _ _ hl, ⟨rfl, rfl, rfl⟩, rfl, fun e he => ?_, fun _ => rfl⟩
    obtain ⟨k, t, h1, h2⟩ := hk e he
    exact ⟨k, by rw [h1]; exact intKind_is X.prog X.w k t, h2⟩
  exact tail_any m.typeIs slot_dict_getitem.lookup (wpAny_getItem_of (intKind_is X.prog X.w i t) m hf ⟨z, H, I.tok _, rz, q⟩) hs
/-- the tables of the module -/
structure TabI (K : PySem.W.Frag) (a : Addr) (tab : List (Int × D)) : Prop where
  ex : ∃ es n, K.lookup a = some ⟨.type "dict", none, .dict es n, #[]⟩ ∧ (∀ e ∈ es, ∃ k t, e.key = Value.int k t ∧ e.hash = hashInt k) ∧ ∀ i d, tab.lookup i = some d → ∃ u v, findBy Value.isInt es i = some u ∧ RelV v u ∧ ∀ F, Rep K F d v
structure TabS (K : PySem.W.Frag) (w : World) (a : Addr) (tab : List (Str × D)) : Prop where
  ex : ∃ es n, KDict K w a es n
  at_ : ∀ z d, tab.lookup z = some d → ∃ u v, PySem.W.nsIn K a z = some (some u) ∧ RelV v u ∧ ∀ F, Rep K F d v
  no : ∀ z, tab.lookup z = none → PySem.W.nsIn K a z = some none
def lookI (tab : List (Int × D)) : D → Option D
  | .int i => tab.lookup i
  | _ => none
def lookS (tab : List (Str × D)) : D → Option D
  | .str z => tab.lookup z
  | _ => none
def inS (tab : List (Str × D)) : D → Option D
  | .str z => some (.bl (tab.lookup z).isSome)
  | _ => none
theorem ex_tabI {a : Addr} {tab : List (Int × D)} {tb : TE} {fb : M D} (T : TabI c.K a tab) (hb : Ex c E tb fb) : Ex c E (tOp (rKI c.K) (tC (.ref a)) tb) (eUn (lookI tab) fb) := ex_tab hb fun F H d e y Q r hl k => by
  cases d with
  | int i =>
    obtain ⟨es, n, h1, h2, h3⟩ := T.ex
    obtain ⟨u, v, h4, h5, h6⟩ := h3 i e hl
    obtain rfl : y = .int i := r
    exact ⟨a, i, es, n, u, v, rfl, rfl, h1, h2, h4, h5, k v h6⟩
  | _ => cases hl
theorem ex_tabS {w : World} {a : Addr} {tab : List (Str × D)} {tb : TE} {fb : M D} (T : TabS c.K w a tab) (hb : Ex c E tb fb) : Ex c E (tOp (rIxD c.K w) (tC (.ref a)) tb) (eUn (lookS tab) fb) := ex_tab hb fun F H d e y Q r hl k => by
  cases d with
  | str z =>
    obtain ⟨es, n, D⟩ := T.ex
    obtain ⟨u, v, h4, h5, h6⟩ := T.at_ z e hl
    obtain rfl : y = .str z := r
    exact ⟨a, z, v, rfl, rfl, ⟨es, n, u, D.at_, D.lit, h4, h5⟩, k v h6⟩
  | _ => cases hl
/-- x in d, d a written dict with texts as keys -/
def rInK (K : PySem.W.Frag) (w : World) : R2 := fun x y H Q => ∃ (d : Addr) (es : Array DictEntry) (n : Nat) (z : Str) (r : Option Value), x = .str z ∧ y = .ref d ∧ KDict K w d es n ∧ PySem.W.nsIn K d z = some r ∧ Q (.bl r.isSome) H
theorem op_inK {X : Cx} : OpR X (compareOp .In) (rInK X.K X.w) := by
  intro pins s σ H x y v u Q I rx ry h
  obtain ⟨d, es, n, z, r, e1, e2, D, e3, q⟩ := h
  exact op_in_kd D pins s σ H x y v u Q I rx ry ⟨z, r, e1, e2, e3, q⟩
theorem ex_inS {w : World} {a : Addr} {tab : List (Str × D)} {ta : TE} {fa : M D} (T : TabS c.K w a tab) (ha : Ex c E ta fa) : Ex c E (tOp (rInK c.K w) ta (tC (.ref a))) (eUn (inS tab) fa) := by
  intro W F H σ ρ Q R h
  refine ha W F H σ ρ _ R ((h.bind (Rep c.K)).mono fun y H2 ⟨d, ρ2, F2, R2, s2, r2, h2⟩ => ?_)
  obtain ⟨z, e, k⟩ := Post.lift h2
  cases d with
  | str x =>
    obtain ⟨es, n, D⟩ := T.ex
    obtain rfl : y = .str x := r2
    cases e
    have fin : ∀ b : Bool, (tab.lookup x).isSome = b → Q (.bl b) H2 := fun b e => by
      refine k F2 H2 (.bl b) R2 (Same.refl _) ?_
      rw [e]
      rfl
    cases hl : tab.lookup x with
    | none => exact ⟨a, es, n, x, none, rfl, rfl, D, T.no x hl, fin _ (by rw [hl] <;> rfl)⟩
    | some d =>
      obtain ⟨u, v, h4, h5, h6⟩ := T.at_ x d hl
      exact ⟨a, es, n, x, some u, rfl, rfl, D, h4, fin _ (by rw [hl] <;> rfl)⟩
  | _ => cases e
/-! ### index -/
def strsOf : List D → Option (List Str)
  | [] => some []
  | .str z :: r => (strsOf r).map (z :: ·)
  | _ :: _ => none
theorem strs_rep {K : PySem.W.Frag} {F : Hp} : ∀ {ds : List D} {ys : List Str} {vs : List V}, strsOf ds = some ys → RepL K F ds vs → vs = ys.map V.str
  | [], ys, vs, e, r => by
    cases e
    exact r
  | d :: ds, ys, vs, e, r => by
    cases d with
    | str z =>
      have e : (strsOf ds).map (z :: ·) = some ys := e
      cases e2 : strsOf ds with
      | none => rw [e2] at e; cases e
      | some zs =>
        rw [e2] at e
        cases e
        obtain ⟨v, us, rfl, rv, ru⟩ := r
        rw [strs_rep e2 ru, show v = .str z from rv]
        rfl
    | _ => cases e
/-- the first place -/
def placeOf (z : Str) : List Str → Option Nat
  | [] => none
  | y :: r => if y = z then some 0 else (placeOf z r).map (· + 1)
theorem place_at {z : Str} : ∀ {ys : List Str} {j : Nat}, placeOf z ys = some j → ys[j]? = some z ∧ ∀ m, m < j → ys[m]? ≠ some z
  | [], _, e => by cases e
  | y :: r, j, e => by
    unfold placeOf at e
    split at e
    · rename_i h
      cases e
      exact ⟨by rw [h]; rfl, fun m h => absurd h (Nat.not_lt_zero _)⟩
    · rename_i h
      cases e2 : placeOf z r with
      | none => rw [e2] at e; cases e
      | some i =>
        rw [e2] at e
        cases e
        obtain ⟨h1, h2⟩ := place_at e2
        refine ⟨h1, fun m hm => ?_⟩
        cases m with
        | zero => exact fun q => h (Option.some.inj q)
        | succ m => exact h2 m (Nat.lt_of_succ_lt_succ hm)
def indexD (ds : List D) : List D → Option D
  | [.str z] => (strsOf ds).bind fun ys => (placeOf z ys).map fun j => .int (j : Nat)
  | _ => none
/-- d.index(x), d a list -/
def eIdx (o : M D) (as : M (List D)) : M D := o.bind fun d => match d with
  | .lst ds => as.bind fun xs => M.lift (indexD ds xs)
  | _ => fun _ => .bad
theorem index_inv {ds xs : List D} {z : D} (e : indexD ds xs = some z) : ∃ w ys j, xs = [.str w] ∧ strsOf ds = some ys ∧ placeOf w ys = some j ∧ z = .int (j : Nat) := by
  unfold indexD at e
  split at e
  · rename_i w
    cases e1 : strsOf ds with
    | none => rw [e1] at e; cases e
    | some ys =>
      rw [e1] at e
      have e : (placeOf w ys).map (fun j => D.int (j : Nat)) = some z := e
      cases e2 : placeOf w ys with
      | none => rw [e2] at e; cases e
      | some j => rw [e2] at e; cases e; exact ⟨w, ys, j, rfl, rfl, e2, rfl⟩
  · cases e
theorem ex_idx {to : TE} {fo : M D} {ta : TA} {fa : M (List D)} (ho : Ex c E to fo) (ha : Ax c E ta fa) : Ex c E (tBM c.K "list" (rIndex c.K) to ta) (eIdx fo fa) := by
  intro W F H σ ρ Q R h
  refine ho W F H σ ρ _ R ((h.bind (Rep c.K)).mono fun x H1 ⟨d, ρ1, F1, R1, s1, r1, h1⟩ => ?_)
  cases d with
  | lst ds =>
    have h1 : Post c W F1 σ E (Rep c.K) ((fa.bind fun xs => M.lift (indexD ds xs)) ρ1) Q := h1
    obtain ⟨a, xs, rfl, e2, e3⟩ := r1
    refine ⟨.inl ⟨rfl, xs, .of (R1.sub _ _ e2)⟩, ha W F1 H1 σ ρ1 _ R1 ((h1.bind (RepL c.K)).mono fun vs H2 ⟨es, ρ2, F2, R2, s2, r2, h2⟩ => ?_)⟩
    obtain ⟨z, e, k⟩ := Post.lift h2
    obtain ⟨w, ys, j, rfl, q1, q2, rfl⟩ := index_inv e
    obtain ⟨v, rfl, rv⟩ := repL1 r2
    obtain rfl : v = .str w := rv
    obtain ⟨p1, p2⟩ := place_at q2
    have ex := strs_rep q1 e3
    refine ⟨a, xs, .str w, j, .str w, rfl, rfl, .of (R2.sub _ _ (s2 _ _ e2)), rfl, by rw [ex]; exact flat_strs ys, by rw [ex, List.getElem?_map, p1]; rfl, by show (w == w) = true; exact beq_self_eq_true w, fun m z hm e => ?_, k F2 H2 _ R2 (Same.refl _) rfl⟩
    rw [ex, List.getElem?_map] at e
    cases e5 : ys[m]? with
    | none => rw [e5] at e; cases e
    | some y =>
      rw [e5] at e
      cases e
      show (y == w) = false
      exact beq_eq_false_iff_ne.mpr fun z => p2 m hm (by rw [e5, z])
  | _ => exact h1.elim
/-- T.index(x), T a tuple of texts of the module -/
def rTupIdx (K : PySem.W.Frag) : V → List V → Hp → VK → Prop := fun x xs H Q => ∃ p, ∃ ys : List Str, ∃ z j, x = .ref p ∧ xs = [.str z] ∧ SqT K H p (ys.map V.str) ∧ ys[j]? = some z ∧ (∀ m, m < j → ys[m]? ≠ some z) ∧ Q (.int (j : Nat)) H
theorem mt_tupIdx {X : Cx} : MtR X "tuple.index" (rTupIdx X.K) := mt_tup_index
structure ConT (K : PySem.W.Frag) (a : Addr) (ds : List D) : Prop where
  cls : ∃ o, K.lookup a = some o ∧ o.cls = .type "tuple" ∧ o.dict = none
  rep : ∀ F, Rep K F (.tup ds) (.ref a)
theorem ex_tupIdx {a : Addr} {ds : List D} {ta : TA} {fa : M (List D)} (T : ConT c.K a ds) (ha : Ax c E ta fa) : Ex c E (tBM c.K "tuple" (rTupIdx c.K) (tC (.ref a)) ta) (eCall (indexD ds) fa) := by
  intro W F H σ ρ Q R h
  refine ⟨.inr (.inl ⟨rfl, T.cls⟩), ha W F H σ ρ _ R ((h.bind (RepL c.K)).mono fun vs H2 ⟨es, ρ2, F2, R2, s2, r2, h2⟩ => ?_)⟩
  obtain ⟨z, e, k⟩ := Post.lift h2
  obtain ⟨w, ys, j, rfl, q1, q2, rfl⟩ := index_inv e
  obtain ⟨v, rfl, rv⟩ := repL1 r2
  obtain rfl : v = .str w := rv
  obtain ⟨p1, p2⟩ := place_at q2
  obtain ⟨a', xs, ea, h1, h3⟩ := T.rep F2
  cases ea
  rw [strs_rep q1 h3] at h1
  exact ⟨a, ys, w, j, rfl, rfl, sqT_mono R2.sub h1.sq, p1, p2, k F2 H2 _ R2 (Same.refl _) rfl⟩
/-! ### max(list of whole numbers, default=d) -/
def allInt : List D → Bool
  | [] => true
  | .int _ :: r => allInt r
  | _ :: _ => false
def intP : PyData → Option D
  | .int i => some (.int i)
  | _ => none
def maxDefD : List D → List D → Option D
  | [.lst ds], [.int i] => if (allInt ds && decide (ds.length ≤ 100000)) = true then match toPL ds with
    | [] => some (.int i)
    | y :: ys => intP (PySem.W.maxD y ys)
    else none
  | _, _ => none
def kD (K : PySem.W.Frag) (g : List D → List D → Option D) : List V → List V → Hp → VK → Prop := fun xs ys H Q => ∃ F ds es z, Fz F H ∧ RepL K F ds xs ∧ RepL K F es ys ∧ g ds es = some z ∧ ∀ F' H' v, Grow F H F' H' → Rep K F' z v → Q v H'
def eCallK (g : List D → List D → Option D) (a b : M (List D)) : M D := a.bind fun xs => b.bind fun ys => M.lift (g xs ys)
theorem ex_kD {g : List D → List D → Option D} {ta tb : TA} {fa fb : M (List D)} (ha : Ax c E ta fa) (hb : Ax c E tb fb) : Ex c E (tCKw (kD c.K g) ta tb) (eCallK g fa fb) := by
  intro W F H σ ρ Q R h
  refine ha W F H σ ρ _ R ((h.bind (RepL c.K)).mono fun xs H1 ⟨ds, ρ1, F1, R1, s1, r1, h1⟩ => ?_)
  refine hb W F1 H1 σ ρ1 _ R1 ((h1.bind (RepL c.K)).mono fun ys H2 ⟨es, ρ2, F2, R2, s2, r2, h2⟩ => ?_)
  obtain ⟨z, e, k⟩ := Post.lift h2
  exact ⟨F2, ds, es, z, R2.fz, r1.mono s2, r2, e, fun F' H' v gr rv => k F' H' v (R2.grow gr) gr.fs rv⟩
theorem allInt_mem : ∀ {ds : List D}, allInt ds = true → ∀ x ∈ toPL ds, ∃ i, x = .int i
  | [], _, x, h => by
    rw [toPL] at h
    cases h
  | d :: ds, e, x, h => by
    cases d with
    | int i =>
      rw [toPL] at h
      rcases List.mem_cons.mp h with z | z
      · exact ⟨i, by rw [z, toP]⟩
      · exact allInt_mem (show allInt ds = true from e) x z
    | _ => cases e
theorem allInt_shape : ∀ {ds : List D}, allInt ds = true → shapeL 1 ds = true
  | [], _ => by rw [shapeL]
  | d :: ds, e => by
    cases d with
    | int i =>
      rw [shapeL, allInt_shape (show allInt ds = true from e)]
      rfl
    | _ => cases e
theorem call_maxDef {X : Cx} (hc : X.calm = true) (hu : X.A.units + 64 < cLine) : CallRK X (.builtin "max") [Str.ofString "default"] (kD X.K maxDefD) := by
  intro pins s σ H xs zs us ws Q I rv rw' h
  obtain ⟨F, ds, es, z, fz, r, q, ez, k⟩ := h
  unfold maxDefD at ez
  split at ez
  · rename_i ds i
    split at ez
    · rename_i hd
      rw [Bool.and_eq_true] at hd
      obtain ⟨x, rfl, a, ys, rfl, h2, h3⟩ := repL1 r
      obtain ⟨y, rfl, ry⟩ := repL1 q
      obtain rfl : y = .int i := ry
      obtain ⟨u, rfl, ru⟩ := rv.one
      obtain ⟨w, rfl, t, rfl⟩ := rw'.one
      obtain rfl : u = .ref a := ru
      obtain ⟨its, n, rv2, ho, hz⟩ := I.lst (fz.1 _ _ h2)
      obtain ⟨as, ra⟩ := readsL_D I 1 ds ys its (h3.mono fz.1) rv2 (allInt_shape hd.1)
      have dep := depthL_D 1 ds (allInt_shape hd.1)
      have al : PySem.W.AlikeAll (toPL ds) := by
        refine ⟨fun x hx y hy => ?_, fun x hx => ?_⟩
        · obtain ⟨i, rfl⟩ := allInt_mem hd.1 x hx
          obtain ⟨j, rfl⟩ := allInt_mem hd.1 y hy
          rfl
        · obtain ⟨i, rfl⟩ := allInt_mem hd.1 x hx
          intro z
          cases z
      show wpAny (model X.prog X.w) X.A (call (.builtin "max") [.ref a] [(Str.ofString "default", .int i t)]) _ _ s
      refine PySem.W.max_list_default (vs := its.toArray) (xs := toPL ds) (as := as) (I.ok.hd hc) ⟨_, ho, rfl, n, rfl⟩ (by simpa using ra) al (by omega) (fun e h' tk kp => ?_) fun y ys' j v h' tk bs e hv rd kp => ?_
      · rw [e] at ez
        cases ez
        exact ⟨.int i, H, I.kept kp, ⟨t, rfl⟩, k F H _ fz.refl rfl⟩
      · rw [e] at ez
        have ez : intP (PySem.W.maxD y ys') = some z := ez
        cases em : PySem.W.maxD y ys' with
        | int m =>
          rw [em] at ez rd
          cases ez
          obtain ⟨t', ev⟩ : ∃ t', v = .int m t' := by
            cases rd
            exact ⟨_, rfl⟩
          subst ev
          exact ⟨.int m, H, I.kept kp, ⟨t', rfl⟩, k F H _ fz.refl rfl⟩
        | _ => rw [em] at ez; cases ez
    · cases ez
  · cases ez
end Pl
namespace Pl
open PySem PySem.Spec PyProof.Rows L2
variable {b : Bool}
variable {α β γ : Type} {c : Cn} {E : WX} {np : Nat}
/-! ## calls by name; raise -/
section
variable {X : Cx} {k : Nat} {ps : List Str} {sp : Sp} {W : WX} {x : Str} {p pos : Pos} {e : Expr} {es : List Expr} {t : TA}
theorem pe_callHG (h : HasG b X.prog X.w X.K X.mg X.base x k ps sp) (hr : Room k X.A) (hgu : Gd b X.A) (hg : Gl X x) (tk : Takes X W) (ha : PA X (e :: es) t)
    (h1 : (x == ("__debug__" : Str)) = false := by decide) (h2 : starEach (e :: es) X.env = (false, eval e X.env) :: starEach es X.env := by rfl) (h3 : (backTo pos (starEach es X.env)).any (·.1) = false := by rfl) : PE X (.Call (.Name x p) (e :: es) [] pos) (tCallS sp (WE W) t) := by
  obtain ⟨f, fd, G, hm, hk, bi⟩ := h.ex
  exact pe_callG G hr hgu hg hm hk bi tk ha h1 h2 h3
theorem pe_callHG0 (h : HasG b X.prog X.w X.K X.mg X.base x k ps sp) (hr : Room k X.A) (hgu : Gd b X.A) (hg : Gl X x) (tk : Takes X W) (h1 : (x == ("__debug__" : Str)) = false := by decide) : PE X (.Call (.Name x p) [] [] pos) (tCallS sp (WE W) tNil) := by
  obtain ⟨f, fd, G, hm, hk, bi⟩ := h.ex
  exact pe_callG0 G hr hgu hg hm hk bi tk h1
theorem takes0w {X : Cx} : Takes X E0w := fun _ _ x => by
  obtain ⟨_, _, _, _, _, _, _, _, _, _, _, _, _, _, _, _, z⟩ := x
  exact z.elim
end
/-- a class of errors of the module without __init__ -/
structure XOwn (K : PySem.W.Frag) (mg : Str → Option Value) (x : Str) (C : Addr) : Prop where
  g : mg x = some (.ref C)
  k : PySem.W.keepIn K (.ref C) = true
  b : ∃ (B newId initId : String) (bm : List Value), ExcBaseFacts B newId initId bm ∧ PySem.W.excIn K C bm newId = true
  s : PySem.W.subIn K (.ref C) (.type "BaseException") = some true
  t : PySem.W.typeIn K (.ref C) = some (.type "type")
section
variable {X : Cx} {W : WX} {x m : Str} {j : Nat} {C : Addr} {p p2 pos pos' : Pos}
theorem ps_raiseX (hc : X.calm = true) (tk : Takes X W) (h : XOwn X.K X.mg x C) (hg : Gl X x) (hd : (x == ("__debug__" : Str)) = false := by decide) : PS X (.Raise (some (.Call (.Name x p) [.Constant (.str m) j p2] [] pos)) none pos') (fun _ σ H => W (.ref C) none σ H) := by
  obtain ⟨B, newId, initId, bm, F, q⟩ := h.b
  exact L2.ps_raise hc tk (pmk_own F q h.g h.k (raises_own h.s h.t) hg hd)
end
def sRaise (x : Str) : S := fun ρ => .ex ⟨x, none⟩ ρ
theorem sx_raise {x : Str} {C : Addr} (g : c.mg x = some (.ref C)) : Sx c E np (fun _ σ H => E (.ref C) none σ H) (sRaise x) := fun W F H σ ρ D _ R h => h F H σ (.ref C) none R (Same.refl _) ⟨.inl g, rfl⟩
/-- {}, {k: v, ..} of constants -/
def eDct (kds : List (Key × D)) : M D := fun ρ => .ok (.dct (kds.map (·.1)) (kds.map (·.2))) ρ
theorem ex_d0 : Ex c E tDNewK (eDct []) := fun W F H σ ρ Q R h p hp => by
  have g := R.fz.new (o := .dK []) hp fun _ z => by cases z
  exact h _ _ _ (R.grow g) g.fs ⟨p, [], rfl, upd_same, rfl, rfl⟩
theorem pairs_con : ∀ {kvs : List (Key × V)} {σ : L2.St} {H : Hp} {Q : List (V × V) → Hp → Prop}, Q (kvs.map fun kv => (kV kv.1, kv.2)) H → tPairs (kvs.map fun kv => (tC (kV kv.1), tC kv.2)) σ H Q
  | [], _, _, _, h => h
  | p :: r, _, _, _, h => pairs_con (kvs := r) h
theorem ex_dC {kvs : List (Key × V)} {kds : List (Key × D)} (hl : kvs.length ≤ 15) (hk : (mergeK [] kvs).map (·.1) = kds.map (·.1)) (hr : ∀ F, RepL c.K F (kds.map (·.2)) ((mergeK [] kvs).map (·.2))) : Ex c E (tDisp (kvs.map fun kv => (tC (kV kv.1), tC kv.2))) (eDct kds) := fun W F H σ ρ Q R h p hp => by
  refine pairs_con ⟨upd_same, kvs, rfl, hl, ?_⟩
  rw [upd_upd]
  have g := R.fz.new (o := .dK (mergeK [] kvs)) hp fun _ z => by cases z
  exact h _ _ _ (R.grow g) g.fs ⟨p, _, rfl, upd_same, hk, hr _⟩
/-- a def with *rest alone -/
def runStar (n : Nat) (g : S) : FnM := fun ps => if ps.all (fun s => !s.own) = true then match dataOf ps with
  | some ds => if ds.length ≤ 100000 then runBody 1 n g [.d (.tup ds)] else .bad
  | none => .bad
  else .bad
where dataOf : List Slot → Option (List D)
  | [] => some []
  | .d x :: r => (dataOf r).map (x :: ·)
  | _ :: _ => none
end Pl
namespace Pl
open PySem PySem.Spec PyProof.Rows L2
variable {b : Bool}
variable {α β γ : Type} {c : Cn} {E : WX} {np : Nat} {F H F' H' F2 H2 : Hp}
/-! ## defs with *rest -/
theorem data_rep {ps : List Slot} {ds : List D} {vs : List V} (e : runStar.dataOf ps = some ds) (P : ParOk c F H ps vs) : RepL c.K F ds vs := by
  have gen : ∀ (ps : List Slot) (ds : List D) (vs : List V), runStar.dataOf ps = some ds → ps.length = vs.length → (∀ (j : Nat) (d : D), ps[j]? = some (.d d) → ∃ v, vs[j]? = some v ∧ Rep c.K F d v) → RepL c.K F ds vs := by
    intro ps
    induction ps with
    | nil =>
      intro ds vs e hl _
      cases vs with
      | nil => cases e; exact RepL.nil
      | cons v vs => cases hl
    | cons s ps ih =>
      intro ds vs e hl hd
      cases s with
      | d x =>
        have e : (runStar.dataOf ps).map (x :: ·) = some ds := e
        cases e2 : runStar.dataOf ps with
        | none => rw [e2] at e; cases e
        | some es =>
          rw [e2] at e
          cases e
          cases vs with
          | nil => cases hl
          | cons v vs =>
            obtain ⟨v', e3, r⟩ := hd 0 x rfl
            cases e3
            exact .cons r (ih es vs e2 (by simpa using hl) fun j d ej => hd (j + 1) d (by simpa using ej))
      | _ => cases e
  exact gen ps ds vs e P.len P.dat
theorem After.before {ps qs : List Slot} {vs us : List V} {outs outs' : List Slot} (g : Grow F H F2 H2) (hp : ∀ (j : Nat) (s : Slot), ps[j]? = some s → s.own = false) (hq : ∀ (j : Nat) (s : Slot), qs[j]? = some s → s.own = false) (A : After c F2 H2 ps vs outs F' H') : After c F H qs us outs' F' H' where
  fs := g.fs.trans A.fs
  sub := A.sub
  nt := A.nt
  tab := A.tab
  nw := fun a h1 h2 => A.nw a (g.nw a h1 h2) fun z => h2 (bl_free (fun b o h _ => g.hs b o h) z)
  hs := fun a o h1 h2 _ => A.hs a o (g.hs a o h1) h2 fun j s e o => by rw [hp j s e] at o; cases o
  ht := fun a h => bl_free (fun b o h _ => g.hs b o h) (A.ht a h)
  ow := fun j s p e o _ => by rw [hq j s e] at o; cases o
theorem Out.before {ps qs : List Slot} {vs us : List V} {Q : VK} {E : XK} {r : Rs An} (g : Grow F H F2 H2) (hp : ∀ (j : Nat) (s : Slot), ps[j]? = some s → s.own = false) (hq : ∀ (j : Nat) (s : Slot), qs[j]? = some s → s.own = false) (h : Out c F H qs us Q E r) : Out c F2 H2 ps vs Q E r := by
  cases r with
  | ok a outs =>
    cases a with
    | v d => exact fun F' H' v A r => h F' H' v (A.before g hp hq) r
    | n ds => exact fun F' H' p A ol hn => h F' H' p (A.before g hp hq) ol (bl_free (fun b o h _ => g.hs b o h) hn)
  | ex e outs => exact fun F' H' cls od A x => h F' H' cls od (A.before g hp hq) x
  | bad => exact h
theorem out_end {N : List Str} {n : Nat} {g : S} {t : TS} {ps : List Slot} {vs : List V} {Q : VK} {E : XK} (hx : Sx c (fun cls od _ H => E cls od H) ps.length t g) (hn : N.length = ps.length + n) (fz : Fz F H) (tab : LamX.Tabs c.T H) (par : ParOk c F H ps vs)
    (hm : Out c F H ps vs Q E (runBody ps.length n g ps)) : t { nx := fun _ H' => Q .non H', rt := Q } (L2.start N vs) H := by
  refine hx (fm0 F H ps vs) F H (L2.start N vs) _ _ rfl (rel0 (k := n) hn fz tab par) ?_
  unfold runBody at hm
  rw [if_pos rfl] at hm
  have sel : ∀ {r : Rs An} {b : Bool}, Out c F H ps vs Q E (if b = true then r else .bad) → b = true ∧ Out c F H ps vs Q E r := fun {r b} h => by
    cases b with
    | true => exact ⟨rfl, h⟩
    | false => exact h.elim
  revert hm
  cases g (ps ++ List.replicate n .u) with
  | ok k ρ =>
    cases k with
    | nx => exact fun hm F' H' σ' R' s' => (sel hm).2 F' H' .non (after0 R' (sel hm).1) rfl
    | rt d => exact fun hm F' H' σ' v R' s' r => (sel hm).2 F' H' v (after0 R' (sel hm).1) r
    | rn ds => exact fun hm F' H' σ' p R' s' fr => (sel hm).2 F' H' p (after0 R' (sel hm).1) fr.own fr.h0
    | bk => exact fun hm => hm.elim
    | ct => exact fun hm => hm.elim
  | ex e ρ => exact fun hm F' H' σ' cls od R' s' x => (sel hm).2 F' H' cls od (after0 R' (sel hm).1) x
  | bad => exact fun hm => hm.elim
structure FnS (b : Bool) (P : Program) (w : World) (K : PySem.W.Frag) (mg : Str → Option Value) (base : Heap) (k : Nat) (f : Addr) (sp : Sp) : Prop where
  goes : ∀ (A : Around) (outer : List PySem.Env) (s : Shared) (H : Hp) (us : List Value) (vs : List V) (Q : VK) (E : XK), Room k A → Gd b A → Env0 P w K mg base A outer s H → Vals vs us → sp vs H Q E →
    codeAny (model P w) A (.call (.ref f) ⟨us, []⟩) (CR (L2.CX P w) outer P w H s Q E) s
structure HasS (b : Bool) (P : Program) (w : World) (K : PySem.W.Frag) (mg : Str → Option Value) (base : Heap) (x : Str) (k : Nat) (sp : Sp) : Prop where
  ex : ∃ f : Addr, FnS b P w K mg base k f sp ∧ mg x = some (.ref f) ∧ PySem.W.keepIn K (.ref f) = true
section
variable {P : Program} {w : World} {K : PySem.W.Frag} {mg : Str → Option Value} {base : Heap} {T : List (Addr × Str)}
theorem fn_rest {x qual pv : Str} {st : Stmt} {f : Addr} {fd : FuncData} {N : List Str} {k n : Nat} {g : S} (Fu : Fun K x qual st f fd) (Sc : FnScope N [pv] (defScope st)) (hn : N.length = 1 + n) (bi : ∀ rest : List Value, bindArgs fd ⟨rest, []⟩ = (newTuple rest >>= fun t => pure [(pv, t)]))
    (hbody : ∀ (cdv : Value) (A : Around) (outer : List PySem.Env) (s : Shared) (H : Hp) (E : XK), Room k (A.deeper (envOfC qual (defScope st) s.heap.objs.size f cdv)) → Gd b A →
      ∃ t, PSs (cxOf (L2.CX P w) P w K mg base N qual (defScope st) f cdv A outer s H E) (defBody st) t ∧ Sx ⟨K, mg, T, none⟩ (fun cls od _ H => E cls od H) 1 t g) : FnS b P w K mg base (k + 1) f (spM ⟨K, mg, T, none⟩ (runStar n g)) := by
  obtain ⟨oc, od, kV, doc, pm, an, cdv, ct, osl, efd, look, rec⟩ := Fu.ex
  subst efd
  refine ⟨fun A outer s H us vs Q E hr hgu e0 rv hsp => ?_⟩
  obtain ⟨F, qs, fz, tab, par, hm⟩ := hsp
  unfold runStar at hm
  split at hm
  rotate_left
  · exact hm.elim
  rename_i hq
  have noq : ∀ (j : Nat) (s : Slot), qs[j]? = some s → s.own = false := fun j s e => by
    have := List.all_eq_true.mp hq s (List.mem_of_getElem? e)
    simpa using this
  cases ed : runStar.dataOf qs with
  | none => rw [ed] at hm; exact hm.elim
  | some ds =>
    rw [ed] at hm
    have hm : Out ⟨K, mg, T, none⟩ F H qs vs Q E (if ds.length ≤ 100000 then runBody 1 n g [.d (.tup ds)] else .bad) := hm
    split at hm
    rotate_left
    · exact hm.elim
    rename_i hl
    have rp : RepL K F ds vs := data_rep ed par
    have lv : us.length ≤ sizeLine := by rw [← rv.length, ← rp.len]; exact Nat.le_trans hl h100
    have free : H s.heap.objs.size = none := e0.hok.fresh (Nat.le_refl _)
    refine StX.run_bnd (N := N) (ps := [pv]) look rec Sc hr e0 (G := fun xs H2 => ∃ p, H p = none ∧ xs = [V.ref p] ∧ H2 = upd H p (.tup vs)) (fun A' Ex Q' go => ?_) fun s2 H2 xs ⟨p, hp, ex, eH⟩ hr' => ?_
    · rw [bi us]
      refine wpAny_bind (wpAny_newTuple (wpAny_pure ?_) lv)
      have new : ObjOk P w (upd H s.heap.objs.size (.tup vs)) (s.heap.push ({ cls := .type "tuple", data := .seq us.toArray } : Obj)) s.heap.objs.size (.tup vs) := ⟨by rw [rv.length]; exact lv, us, rv, ⟨_, Heap.get?_push_size _ rfl, rfl, _, rfl⟩⟩
      have un := StX.un_laid (fs := frs outer) (s := s) (o := ({ cls := .type "tuple", data := .seq us.toArray } : Obj)) (u := .tup vs) free
      exact go _ _ [V.ref s.heap.objs.size] [Value.ref s.heap.objs.size] (StX.env0_laid e0 new) un rfl (fun e s' => StX.cxUp outer s H _ _ E e s' un (fun b o q => Heap.get?_push_of_some _ q) rfl) (.cons rfl .nil) rfl ⟨_, free, rfl, rfl⟩
    · subst ex eH
      have gr := fz.new (o := .tup vs) hp fun _ z => by cases z
      obtain ⟨t, ht, hx⟩ := hbody cdv A outer s2 (upd H p (.tup vs)) E hr' hgu
      have nop : ∀ (j : Nat) (s : Slot), [Slot.d (.tup ds)][j]? = some s → s.own = false := fun j s e => by
        cases j with
        | zero => cases e; rfl
        | succ j => simp at e
      have par2 : ParOk ⟨K, mg, T, none⟩ (upd F p (.tup vs)) (upd H p (.tup vs)) [.d (.tup ds)] [.ref p] := by
        refine ⟨rfl, fun j d e => ?_, fun j s e o => ?_, fun j k s t q e1 _ o1 => ?_, fun j x e => ?_, fun j _ e => by
          cases j with
          | zero => cases e; rfl
          | succ j => simp at e⟩
        rotate_right
        · cases j with
          | zero => cases e
          | succ j => simp at e
        · cases j with
          | zero => cases e; exact ⟨_, rfl, p, vs, rfl, .inl upd_same, rp.mono gr.fs⟩
          | succ j => simp at e
        · rw [nop j s e] at o; cases o
        · rw [nop j s e1] at o1; cases o1
      have hm2 := hm.before (ps := [.d (.tup ds)]) (vs := [.ref p]) gr nop noq
      exact ⟨t, ht, out_end hx (by rw [hn] <;> rfl) ⟨gr.sub, gr.nt⟩ (tab.ext gr.hs) par2 hm2⟩
end
section
variable {X : Cx} {k : Nat} {sp : Sp} {W : WX} {x : Str} {p pos : Pos} {e : Expr} {es : List Expr} {t : TA}
theorem run_S {f : Addr} {pins : List (Addr × Obj)} {σ : L2.St} {H : Hp} {s : Shared} {Q : VK} {us : List Value} {vs : List V} (G : FnS b X.prog X.w X.K X.mg X.base k f sp) (hr : Room k X.A) (hg : Gd b X.A) (tk : Takes X W)
    (J : Inv X pins σ H s) (r : Vals vs us) (h : sp vs H Q (WE W σ)) : wpAny (model X.prog X.w) X.A (call (.ref f) us) (EP X pins σ Q) X.xe s := by
  refine wpAny_call (codeAny_mono (G.goes X.A X.stack s H us vs Q (WE W σ) hr hg J.env0 r h) ?_)
  rintro (x | x) s' hx
  · exact passAt tk σ pins H s x s' J hx
  · cases x with
    | ret u => exact J.after hx
    | next => exact hx.elim
    | brk => exact hx.elim
    | cont => exact hx.elim
theorem pe_callHS (h : HasS b X.prog X.w X.K X.mg X.base x k sp) (hr : Room k X.A) (hgu : Gd b X.A) (hg : Gl X x) (tk : Takes X W) (ha : PA X (e :: es) t)
    (h1 : (x == ("__debug__" : Str)) = false := by decide) (h2 : starEach (e :: es) X.env = (false, eval e X.env) :: starEach es X.env := by rfl) (h3 : (backTo pos (starEach es X.env)).any (·.1) = false := by rfl) : PE X (.Call (.Name x p) (e :: es) [] pos) (tCallS sp (WE W) t) := by
  obtain ⟨f, G, hm, hk⟩ := h.ex
  exact ⟨fun pins s σ H Q J q => wpAny_Call_Name_kw (ld_glob J hg hm (PySem.W.callWith_K (h₀ := X.base) J.ok.mod.kin hk (thn (ha.run pos pins s σ H _ J q) fun us s1 ⟨vs, H1, J1, r, q1⟩ => ⟨J1.kIn, run_S G hr hgu tk J1 r q1⟩) h2 h3) h1)⟩
theorem pe_callHS0 (h : HasS b X.prog X.w X.K X.mg X.base x k sp) (hr : Room k X.A) (hgu : Gd b X.A) (hg : Gl X x) (tk : Takes X W) (h1 : (x == ("__debug__" : Str)) = false := by decide) : PE X (.Call (.Name x p) [] [] pos) (tCallS sp (WE W) tNil) := by
  obtain ⟨f, G, hm, hk⟩ := h.ex
  exact ⟨fun pins s σ H Q J q => wpAny_Call_Name_kw (ld_glob J hg hm (PySem.W.callWith_K0 J.kIn hk (run_S (us := []) G hr hgu tk J .nil q)) h1)⟩
end
end Pl
namespace Pl
open PySem PySem.Spec PyProof.Rows L2
/-! ## try with several clauses, each with or without a name -/
def enterE (i : Option Nat) (a : Addr) (σ : L2.St) : L2.St := match i with
  | none => σ
  | some j => σ.set j (some (.ref a))
def leaveE (i : Option Nat) (σ : L2.St) : L2.St := match i with
  | none => σ
  | some j => σ.set j none
def endsE (i : Option Nat) (D : Ends) : Ends where
  nx := fun σ H => D.nx (leaveE i σ) H
  rt := D.rt
  bk := fun σ H => D.bk (leaveE i σ) H
  ct := fun σ H => D.ct (leaveE i σ) H
abbrev Hdl := Value × Option Nat × (Addr → Value → Option Addr → TS)
def wHs (K : PySem.W.Frag) (Wo : WX) (D : Ends) : List Hdl → WX
  | [] => Wo
  | h :: r => fun cls d σ H => ∃ b, PySem.W.exmOne K cls h.1 = some b ∧ (b = true → ∀ a, H a = none → h.2.2 a cls d (endsE h.2.1 D) (enterE h.2.1 a σ) H) ∧ (b = false → wHs K Wo D r cls d σ H)
def BindE (X : Cx) : Option Str → Option Nat → Prop
  | none, none => True
  | some n, some i => X.N[i]? = some n ∧ X.env.kindOf n = some .local
  | _, _ => False
inductive Hs (X : Cx) : List ExceptHandler → List Hdl → Prop
  | nil : Hs X [] []
  | cons {x : Str} {k : Value} {on : Option Str} {i : Option Nat} {ts : Addr → Value → Option Addr → TS} {st : Stmt} {rest : List Stmt} {p1 p2 : Pos} {hs : List ExceptHandler} {l : List Hdl} (nm : Names X x k) (bd : BindE X on i)
      (su : ∀ (ad : Addr) (ob : Obj) (cls : Value) (d : Option Addr) (ps : List (Addr × Obj)), Zc cls d ob → (∃ q, ob.data = .fields q) → PSs (X.suite ad ((ad, ob) :: ps)) (st :: rest) (ts ad cls d)) (r : Hs X hs l) :
      Hs X (.ExceptHandler (some (.Name x p1)) on (st :: rest) p2 :: hs) ((k, i, ts) :: l)
section
variable {X : Cx} {pins : List (Addr × Obj)} {σ : L2.St} {H : Hp} {D : Ends} {Wo : WX} {cls : Value} {d : Option Addr} {ad : Addr} {gr : Heap} {s0 s1 : Shared}
/-- an exception that has come to the clauses -/
structure Come (X : Cx) (pins : List (Addr × Obj)) (σ : L2.St) (H : Hp) (cls : Value) (d : Option Addr) (ad : Addr) (gr : Heap) (s0 : Shared) (s1 : Shared) : Prop where
  inv : Inv X pins σ H s0
  below : ∀ b o, s0.heap.get? b = some o → b ∉ frs X.stack → gr.get? b = some o
  up : s0.heap.UpToSlots s1.heap
  fly : HandSPX.FlyingZ gr (X.env :: X.outer) ad (Zc cls d) s1.heap
  new : H ad = none
  os : s1.os = s0.os
  bare : AllBare s1.gens
theorem Come.at_ (z : Come X pins σ H cls d ad gr s0 s1) : Inv X pins σ H s1 := z.inv.landed z.below z.fly.1 z.up z.os z.bare
theorem Come.off (hf : X.env.frame = some X.env.locals) (z : Come X pins σ H cls d ad gr s0 s1) : ad ≠ X.env.locals ∧ ad ∉ X.fs := by
  obtain ⟨ob, q, e1, _, e3⟩ := z.fly.there
  have out : ad ∉ frs (X.env :: X.outer) := fun m => by
    obtain ⟨_, u, e4, no⟩ := z.fly.2.2.1.mem m
    rw [e1] at e4
    cases e4
    exact no _ e3
  constructor
  · intro w
    exact out (List.mem_filterMap.mpr ⟨X.env, List.mem_cons_self, by rw [hf, w]⟩)
  · intro m
    obtain ⟨y, hy, e⟩ := List.mem_filterMap.mp m
    exact out (List.mem_filterMap.mpr ⟨y, List.mem_cons_of_mem _ hy, e⟩)
/-- the clauses, looked at one after another -/
theorem run_clauses (hs : X.stack = X.env :: X.outer) (hf : X.env.frame = some X.env.locals) (hN : X.N.Nodup) (tk : Takes X Wo) {hds : List ExceptHandler} {l : List Hdl} (hk : Hs X hds l) (z : Come X pins σ H cls d ad gr s0 s1) :
    wHs X.K Wo D l cls d σ H → wpAny (model X.prog X.w) X.A (handleBy (.ref ad) X.env hds) (SP X pins D) X.xe s1 := by
  have ok := z.inv.ok
  obtain ⟨nL, nF⟩ := z.off hf
  induction hk with
  | nil =>
    intro w
    refine wpAny_handleBy_nil ?_
    obtain ⟨_, _, _, ob, q, T, _, _, e1, _, e2, e3, _⟩ := id z.fly
    unfold PySem.passOn
    refine wpAny_bind (wpAny_field e1 e2 e3 ?_)
    rw [if_neg (by simp)]
    have away : wpAny (model X.prog X.w) X.A (setFlight (.ref ad) X.env.frame) (fun _ s2 => wpAny (model X.prog X.w) X.A (throw (.ref ad) : Sem Flow) (SP X pins D) X.xe s2) X.xe s1 := by
      rw [hf]
      refine HandSPX.setFlight_upZ z.fly fun h2 held up2 => wpAny_throw (tk _ _ ?_)
      exact ⟨ad, gr, s0, pins, σ, H, cls, d, rfl, z.inv, z.below, z.up.trans up2, .inr (.inr (by rw [hs]; exact held)), z.new, z.os, z.bare, w⟩
    first
      | exact wpAny_bind (wpAny_pure (wpAny_bind away))
      | exact wpAny_bind away
  | @cons x k on i ts st rest p1 p2 hds2 l2 nm bd su r ih =>
    intro w
    obtain ⟨b, wb, yes, no⟩ := w
    obtain ⟨ob, q, e1, ez, e2⟩ := z.fly.there
    have J := z.at_
    have JS := J.suite e1 e2 z.new nL nF
    have goal : wpAny (model X.prog X.w) (X.A.mark (some (.ref ad))) (eval (.Name x p1) X.env) (fun v s2 => v = k ∧ s2 = s1) (fun _ _ => False) s1 := by
      obtain ⟨gx, gd, gm | ⟨gm, gv, gn⟩⟩ := nm
      · exact ld_glob (X := X.suite ad ((ad, ob) :: (X.pn ++ pins))) JS gx gm ⟨rfl, rfl⟩ gd
      · exact ld_blt (X := X.suite ad ((ad, ob) :: (X.pn ++ pins))) JS gx gm gv ⟨rfl, rfl⟩ gn gd
    have kind : PySem.W.Looks (model X.prog X.w) s1.heap (typeOf (.ref ad)) cls := fun A Q E s kp hq => wpAny_typeOf_ref (kp _ _ e1) (by rw [ez.1]; exact hq)
    have hit := PySem.W.exm_one (M := model X.prog X.w) J.kIn kind wb
    have ask : ∀ {Q : Value → Shared → Prop} {E : Value → Shared → Prop}, Q k s1 → wpAny (model X.prog X.w) (X.A.mark (some (.ref ad))) (eval (.Name x p1) X.env) Q E s1 := fun {Q E} hq =>
      wpAny_mono goal (fun v s2 hv => by rw [hv.1, hv.2]; exact hq) (fun _ _ f => f.elim)
    refine wpAny_handleBy_cons (codeAny_handlers_test ?_) (by intro f; cases f)
    refine ask (hit.here ?_)
    cases b with
    | false => exact ih (no rfl)
    | true =>
      have tsq := yes rfl ad z.new
      cases on with
      | none =>
        cases i with
        | some i => exact bd.elim
        | none =>
          refine codeAny_handlers_suite ?_
          refine HandSPX.lands_againZ z.fly fun h2 fly2 up2 => ?_
          have z2 : Come X pins σ H cls d ad gr s0 { s1 with heap := h2 } := ⟨z.inv, z.below, z.up.trans up2, fly2, z.new, z.os, z.bare⟩
          obtain ⟨ob2, q2, f1, fz, f2⟩ := fly2.there
          refine wpAny_mono ((su ad ob2 cls d (X.pn ++ pins) fz ⟨_, f2⟩).run [] _ _ H _ (z2.at_.suite f1 f2 z.new nL nF) tsq) (fun fl s3 hsp => ?_) (fun _ _ f => False.elim f)
          cases fl with
          | next => obtain ⟨σ3, H3, J3, q3⟩ := hsp; exact ⟨σ3, H3, J3.unsuite ok, q3⟩
          | brk => obtain ⟨σ3, H3, J3, q3⟩ := hsp; exact ⟨σ3, H3, J3.unsuite ok, q3⟩
          | cont => obtain ⟨σ3, H3, J3, q3⟩ := hsp; exact ⟨σ3, H3, J3.unsuite ok, q3⟩
          | ret u => obtain ⟨v3, σ3, H3, J3, r3, q3⟩ := hsp; exact ⟨v3, σ3, H3, J3.unsuite ok, r3, q3⟩
      | some n =>
        cases i with
        | none => exact bd.elim
        | some i =>
          obtain ⟨bi, bl⟩ := bd
          refine codeAny_handlers_suite_as ?_
          refine HandSPX.lands_againZ z.fly fun h2 fly2 up2 => ?_
          have z2 : Come X pins σ H cls d ad gr s0 { s1 with heap := h2 } := ⟨z.inv, z.below, z.up.trans up2, fly2, z.new, z.os, z.bare⟩
          obtain ⟨ob2, q2, f1, fz, f2⟩ := fly2.there
          refine store_ok (X := X.suite ad ((ad, ob2) :: (X.pn ++ pins))) (v := .ref ad) (z2.at_.suite f1 f2 z.new nL nF) hN bi (.inl bl) rfl (fun s3 J3 => ?_) (.inr bl)
          refine wpAny_mono ((su ad ob2 cls d (X.pn ++ pins) fz ⟨_, f2⟩).run [] s3 _ H _ J3 tsq) (fun fl s4 hsp => ?_) (fun _ _ f => False.elim f)
          have clear : ∀ {σ4 : L2.St} {H4 : Hp} {Q : Shared → Prop}, Inv (X.suite ad ((ad, ob2) :: (X.pn ++ pins))) [] σ4 H4 s4 → (∀ s5, Inv X pins (σ4.set i none) H4 s5 → Q s5) →
              wpAny (model X.prog X.w) X.A (do bindName X.env n .none; unbindBehindTheSuite X.env n p2) (fun _ s5 => Q s5) X.xe s4 := fun {σ4 H4 Q} J4 hq => gone_ok (J4.unsuite ok) hN bi bl hq
          cases fl with
          | next => obtain ⟨σ4, H4, J4, q4⟩ := hsp; exact clear J4 fun s5 J5 => ⟨_, _, J5, q4⟩
          | brk => obtain ⟨σ4, H4, J4, q4⟩ := hsp; exact clear J4 fun s5 J5 => ⟨_, _, J5, q4⟩
          | cont => obtain ⟨σ4, H4, J4, q4⟩ := hsp; exact clear J4 fun s5 J5 => ⟨_, _, J5, q4⟩
          | ret u => obtain ⟨v4, σ4, H4, J4, r4, q4⟩ := hsp; exact clear J4 fun s5 J5 => ⟨_, _, _, J5, r4, q4⟩
/-- THE RULE: try: body / except ..: .. / except .. as n: .. -/
theorem ps_tries {body : List Stmt} {h1 : ExceptHandler} {hds : List ExceptHandler} {l : List Hdl} {pos : Pos} {tb : WX → TS} (hs : X.stack = X.env :: X.outer) (hf : X.env.frame = some X.env.locals) (hN : X.N.Nodup) (tk : Takes X Wo)
    (hb : ∀ (W : WX) (ps : List (Addr × Obj)) (xe : Value → Shared → Prop), Takes (X.tr ps xe) W → PassesOwn (model X.prog X.w) X.A X.env xe → PSs (X.tr ps xe) body (tb W))
    (hk : Hs X (h1 :: hds) l) : PS X (.Try body (h1 :: hds) [] [] pos) (fun D σ H => tb (wHs X.K Wo D l) D σ H) := by
  refine ⟨fun pins s σ H D J h => ?_⟩
  have ok := J.ok
  have fr : X.A.frames = some (X.env :: X.outer) := by rw [ok.frames, hs]
  let caught : Value → Shared → Prop := fun u s2 => wpAny (model X.prog X.w) X.A (noteFrame u X.env) (fun _ s3 => wpAny (model X.prog X.w) X.A (setFlight u none) (fun _ s4 => wpAny (model X.prog X.w) X.A (handleBy u X.env (h1 :: hds)) (SP X pins D) X.xe s4) X.xe s3) X.xe s2
  have takes : Takes (X.tr (X.pn ++ pins) caught) (wHs X.K Wo D l) := by
    intro u s2 air
    obtain ⟨ad, gr, s0, _, σ2, H2, cls, d, rfl, J2, below, up, sky, new, os, bare, w⟩ := air
    have sky2 : Sky gr (X.env :: X.outer) ad (Zc cls d) X.env.locals s2.heap := by
      rw [← hs]
      exact sky
    show wpAny (model X.prog X.w) X.A (noteFrame (.ref ad) X.env) _ _ _
    refine Sky.land Zc.steady fr hf sky2 fun h3 fly up3 => ?_
    exact run_clauses hs hf hN tk hk ⟨J2.ofTry ok, below, up.trans up3, fly, new, os, bare⟩ w
  refine wpAny_Try_except (wpAny_mono ((hb (wHs X.K Wo D l) (X.pn ++ pins) caught takes PassesOwn.looking).run [] s σ H D (J.toTry _) h) (fun fl s2 hsp => ?_) fun u s2 hu => hu)
  cases fl with
  | next => obtain ⟨σ2, H2, J2, q2⟩ := hsp; exact wpAny_execs_nil ⟨σ2, H2, J2.ofTry ok, q2⟩
  | brk => obtain ⟨σ2, H2, J2, q2⟩ := hsp; exact ⟨σ2, H2, J2.ofTry ok, q2⟩
  | cont => obtain ⟨σ2, H2, J2, q2⟩ := hsp; exact ⟨σ2, H2, J2.ofTry ok, q2⟩
  | ret u => obtain ⟨v2, σ2, H2, J2, r2, q2⟩ := hsp; exact ⟨v2, σ2, H2, J2.ofTry ok, r2, q2⟩
end
end Pl
namespace Pl
open PySem PySem.Spec PyProof.Rows L2
variable {α β γ : Type} {c : Cn} {E : WX} {np : Nat} {W : Fm} {F H F' H' : Hp} {σ : L2.St} {ρ : Env}
/-! ## except suites over data -/
def NameV (mg : Str → Option Value) (y : Str) (cv : Value) : Prop := mg y = some cv ∨ (mg y = none ∧ bootBuiltins y = some cv)
theorem NameV.one {mg : Str → Option Value} {y : Str} {a b : Value} (h : NameV mg y a) (k : NameV mg y b) : a = b := by
  rcases h with h | ⟨h, h'⟩ <;> rcases k with k | ⟨k, k'⟩
  · exact Option.some.inj (h.symm.trans k)
  · rw [h] at k; cases k
  · rw [h] at k; cases k
  · exact Option.some.inj (h'.symm.trans k')
/-- what the module's classes of errors are to one another: is x a kind of y -/
structure ErrTab (K : PySem.W.Frag) (mg : Str → Option Value) (tab : Str → Str → Option Bool) : Prop where
  own : ∀ x y b, tab x y = some b → ∃ (D : Addr) (cv : Value), mg x = some (.ref D) ∧ NameV mg y cv ∧ ExcC K D ∧ PySem.W.exmOne K (.ref D) cv = some b ∧ PySem.W.kitOne K (.ref D) cv = some b
/-- isinstance(e, y) -/
def tIsE (K : PySem.W.Frag) (ad : Addr) (cls : Value) (d : Option Addr) (j : Nat) (cv : Value) : TE := fun σ H Q => ∃ (Dx : Addr) (b : Bool), cls = .ref Dx ∧ d = none ∧ ExcC K Dx ∧ σ[j]? = some (some (.ref ad)) ∧ PySem.W.kitOne K (.ref Dx) cv = some b ∧ Q (.bl b) H
def eIsE (tab : Str → Str → Option Bool) (j : Nat) (y : Str) : M D := fun ρ => match ρ[j]? with
  | some (.e x) => match x.val, tab x.cls y with
    | none, some b => .ok (.bl b) ρ
    | _, _ => .bad
  | _ => .bad
/-- the same, an error at hand -/
def Cn.wi (c : Cn) (x : Option (Addr × Value × Option Addr)) : Cn := ⟨c.K, c.mg, c.T, x⟩
theorem ex_isE {ad : Addr} {cls : Value} {d : Option Addr} {tab : Str → Str → Option Bool} {j : Nat} {y : Str} {cv : Value} (T : ErrTab c.K c.mg tab) (nm : NameV c.mg y cv) : Ex (c.wi (some (ad, cls, d))) E (tIsE c.K ad cls d j cv) (eIsE tab j y) := by
  intro W F H σ ρ Q R h
  unfold eIsE at h
  cases er : ρ[j]? with
  | none => rw [er] at h; exact h.elim
  | some s =>
    rw [er] at h
    cases s with
    | e x =>
      have h : Post (c.wi (some (ad, cls, d))) W F σ E (Rep c.K) (match x.val, tab x.cls y with
        | none, some b => .ok (.bl b) ρ
        | _, _ => .bad) Q := h
      obtain ⟨a, cls', od, e1, e2, x1, x2⟩ := R.here j _ er
      cases e2
      cases ev : x.val with
      | some _ => rw [ev] at h; exact h.elim
      | none =>
        cases et : tab x.cls y with
        | none => rw [ev, et] at h; exact h.elim
        | some b =>
          rw [ev, et] at h
          obtain ⟨Dx, cv', h1, h2, h3, h4, h5⟩ := T.own _ _ _ et
          rw [ev] at x2
          have ec : cls = .ref Dx := NameV.one (mg := c.mg) (y := x.cls) x1 (.inl h1)
          rw [h2.one nm] at h5
          exact ⟨Dx, b, ec, x2, h3, e1, h5, h F H _ R (Same.refl _) rfl⟩
    | _ => exact h.elim
/-- a suite: what is done, whatever the error's object is -/
def SuG (c : Cn) (np : Nat) (ts : Addr → Value → Option Addr → TS) (g : S) : Prop := ∀ (ad : Addr) (cls : Value) (d : Option Addr), Sx (c.wi (some (ad, cls, d))) E0w np (ts ad cls d) g
/-- a name comes to something that is not one's own -/
theorem Rel.plain {x : Option V} {t : Slot} (R : Rel c W F H σ ρ) (i : Nat) (ho : t.own = false) (hk : SlotOk c W F H (some x) t) : Rel c W F H (σ.set i x) (ρ.set i t) where
  sub := R.sub
  nt := R.nt
  tab := R.tab
  len := by rw [List.length_set, List.length_set, R.len]
  here := fun j s e => by
    rcases set_at e with ⟨e1, e2, e3⟩ | ⟨e1, e2⟩
    · subst e1 e3
      rw [List.getElem?_set_self (by rw [R.len]; exact e2)]
      exact hk
    · rw [List.getElem?_set_ne e1]
      exact R.here j s e2
  dis := fun j k s t p e1 e2 o1 o2 a1 a2 => by
    rcases set_at e1 with ⟨_, _, z⟩ | ⟨n1, e1⟩
    · subst z; rw [ho] at o1; cases o1
    · rcases set_at e2 with ⟨_, _, z⟩ | ⟨n2, e2⟩
      · subst z; rw [ho] at o2; cases o2
      · rw [List.getElem?_set_ne n1] at a1
        rw [List.getElem?_set_ne n2] at a2
        exact R.dis j k s t p e1 e2 o1 o2 a1 a2
  wb := R.wb
  pa := fun j p h => ⟨(R.pa j p h).1, fun s e o => by
    rcases set_at e with ⟨_, _, z⟩ | ⟨n1, e1⟩
    · subst z; rw [ho] at o; cases o
    · rw [List.getElem?_set_ne n1]
      exact (R.pa j p h).2 s e1 o⟩
  lo := fun j s p h e o a => by
    rcases set_at e with ⟨_, _, z⟩ | ⟨n1, e1⟩
    · subst z; rw [ho] at o; cases o
    · rw [List.getElem?_set_ne n1] at a
      exact R.lo j s p h e1 o a
  st := R.st
  kp := R.kp
  f0 := R.f0
  nf := R.nf
theorem Rel.blank {x : Option V} (R : Rel c W F H σ ρ) (i : Nat) : Rel c W F H (σ.set i x) (ρ.set i .u) := R.plain i rfl trivial
def isE : Slot → Bool
  | .e _ => true
  | _ => false
/-- no name holds an error -/
def noE (ρ : Env) : Bool := ρ.all fun s => !isE s
theorem noE_at {i : Nat} {x : Exn} (h : noE ρ = true) : ρ[i]? ≠ some (.e x) := fun e => by
  have := List.all_eq_true.mp h _ (List.mem_of_getElem? e)
  cases this
theorem Rel.wi {x : Option (Addr × Value × Option Addr)} (R : Rel c W F H σ ρ) (h : noE ρ = true) : Rel (c.wi x) W F H σ ρ where
  sub := R.sub
  nt := R.nt
  tab := R.tab
  len := R.len
  here := fun i s e => by
    have k := R.here i s e
    cases s with
    | e x => exact absurd e (noE_at h)
    | oo _ =>
      obtain ⟨p, rs, e1, e2, e3, e4⟩ := k
      exact ⟨p, rs, e1, e2, e3, ⟨e4.out, e4.fp, e4.len, e4.nd, e4.inn⟩⟩
    | _ => exact k
  dis := R.dis
  wb := R.wb
  pa := R.pa
  lo := R.lo
  st := R.st
  kp := R.kp
  f0 := R.f0
  nf := R.nf
def wipeR (j : Nat) : Rs Ct → Rs Ct
  | .ok k ρ => if noE (ρ.set j .u) = true then .ok k (ρ.set j .u) else .bad
  | _ => .bad
def noEx : Rs Ct → Rs Ct
  | .ok k ρ => if noE ρ = true then .ok k ρ else .bad
  | _ => .bad
/-- behind a suite -/
theorem unsuite {D : Ends} {x : Option (Addr × Value × Option Addr)} {k : Ct} {i : Option Nat} {ρ2 : Env} (hn : noE ρ2 = true) (e2 : ρ2 = match i with | none => ρ | some j => ρ.set j .u) (q : SPost c W F E D (.ok k ρ2)) : SPost (c.wi x) W F E0w (endsE i D) (.ok k ρ) := by
  have back : ∀ {F' H' : Hp} {σ' : L2.St}, Rel (c.wi x) W F' H' σ' ρ → Rel c W F' H' (leaveE i σ') ρ2 := fun {F' H' σ'} R => by
    subst e2
    cases i with
    | none => exact Rel.wi (c := c.wi x) (x := c.ec) R hn
    | some j => exact Rel.wi (c := c.wi x) (x := c.ec) (R.blank j) hn
  have here : ∀ {F' H' : Hp} {σ' : L2.St}, Rel (c.wi x) W F' H' σ' ρ → ∃ σ2, Rel c W F' H' σ2 ρ2 := fun R => ⟨_, back R⟩
  cases k with
  | nx => exact fun F' H' σ' R s => q F' H' _ (back R) s
  | bk => exact fun F' H' σ' R s => q F' H' _ (back R) s
  | ct => exact fun F' H' σ' R s => q F' H' _ (back R) s
  | rt d => exact fun F' H' σ' v R s r => q F' H' _ v (back R) s r
  | rn ds =>
    refine fun F' H' σ' p R s fr => q F' H' _ p (back R) s ⟨fr.own, fr.h0, fun a t ea o => ?_⟩
    subst e2
    cases i with
    | none => exact fr.no a t ea o
    | some j =>
      rcases set_at ea with ⟨_, _, z⟩ | ⟨n1, e1⟩
      · subst z; cases o
      · show (σ'.set j none)[a]? ≠ _
        rw [List.getElem?_set_ne n1]
        exact fr.no a t e1 o
abbrev HdM := Str × Option Nat × S
def catchM (tab : Str → Str → Option Bool) : List HdM → Exn → S
  | [], _ => fun _ => .bad
  | h :: r, e => fun ρ => match tab e.cls h.1 with
    | some true => if noE ρ = true then match h.2.1 with
      | none => noEx (h.2.2 ρ)
      | some j => if j < ρ.length then wipeR j (h.2.2 (ρ.set j (.e e))) else .bad
      else .bad
    | some false => catchM tab r e ρ
    | none => .bad
inductive HsD (c : Cn) (np : Nat) : List Hdl → List HdM → Prop
  | nil : HsD c np [] []
  | cons {x : Str} {k : Value} {i : Option Nat} {ts : Addr → Value → Option Addr → TS} {g : S} {l : List Hdl} {m : List HdM} (nm : NameV c.mg x k) (su : SuG c np ts g) (r : HsD c np l m) : HsD c np ((k, i, ts) :: l) ((x, i, g) :: m)
theorem catch_ok {tab : Str → Str → Option Bool} (T : ErrTab c.K c.mg tab) {cls : Value} {d : Option Addr} {e : Exn} {D : Ends} (hn : W.np = np) (R : Rel c W F H σ ρ) (x : XRep c F H e cls d) : ∀ {l : List Hdl} {m : List HdM}, HsD c np l m →
    SPost c W F E D (catchM tab m e ρ) → wHs c.K (fun _ _ _ _ => False) D l cls d σ H := by
  intro l m h
  induction h with
  | nil => exact fun q => q.elim
  | @cons y k i ts g l m nm su r ih =>
    intro q
    unfold catchM at q
    cases et : tab e.cls y with
    | none => rw [show tab e.cls (y, i, g).1 = none from et] at q; exact q.elim
    | some b =>
      rw [show tab e.cls (y, i, g).1 = some b from et] at q
      obtain ⟨Dx, cv', h1, h2, h3, h4, h5⟩ := T.own _ _ _ et
      have ec : cls = .ref Dx := NameV.one (mg := c.mg) (y := e.cls) x.1 (.inl h1)
      refine ⟨b, by rw [ec]; rw [h2.one nm] at h4; exact h4, fun hb ad hA => ?_, fun hb => ?_⟩
      · subst hb
        have q : SPost c W F E D (if noE ρ = true then match (generalizing := false) i with
          | none => noEx (g ρ)
          | some j => if j < ρ.length then wipeR j (g (ρ.set j (.e e))) else .bad
          else .bad) := q
        split at q
        rotate_left
        · exact q.elim
        rename_i hne
        have R1 : Rel (c.wi (some (ad, cls, d))) W F H σ ρ := R.wi hne
        cases i with
        | none =>
          refine su ad cls d W F H σ ρ _ hn R1 ?_
          have q : SPost c W F E D (noEx (g ρ)) := q
          revert q
          cases g ρ with
          | ok kk ρ1 =>
            intro q
            have q : SPost c W F E D (if noE ρ1 = true then .ok kk ρ1 else .bad) := q
            split at q
            · exact unsuite (i := none) (ρ2 := ρ1) (by assumption) rfl q
            · exact q.elim
          | ex e1 ρ1 => exact fun q => q.elim
          | bad => exact fun q => q.elim
        | some j =>
          have q : SPost c W F E D (if j < ρ.length then wipeR j (g (ρ.set j (.e e))) else .bad) := q
          split at q
          · rename_i hj
            refine su ad cls d W F H (σ.set j (some (.ref ad))) (ρ.set j (.e e)) (endsE (some j) D) hn (R1.plain j rfl ⟨ad, cls, d, rfl, rfl, x⟩) ?_
            revert q
            cases g (ρ.set j (.e e)) with
            | ok kk ρ1 =>
              intro q
              have q : SPost c W F E D (if noE (ρ1.set j .u) = true then .ok kk (ρ1.set j .u) else .bad) := q
              split at q
              · exact unsuite (i := some j) (ρ2 := ρ1.set j .u) (by assumption) rfl q
              · exact q.elim
            | ex e1 ρ1 => exact fun q => q.elim
            | bad => exact fun q => q.elim
          · exact q.elim
      · subst hb
        exact ih q
/-- try: body / except .. -/
def sTry (tab : Str → Str → Option Bool) (body : S) (m : List HdM) : S := fun ρ => match body ρ with
  | .ex e ρ1 => catchM tab m e ρ1
  | r => r
theorem sx_try {tab : Str → Str → Option Bool} (T : ErrTab c.K c.mg tab) {tb : WX → TS} {gb : S} {l : List Hdl} {m : List HdM} (hb : ∀ W, Sx c W np (tb W) gb) (hk : HsD c np l m) : Sx c E np (fun D σ H => tb (wHs c.K (fun _ _ _ _ => False) D l) D σ H) (sTry tab gb m) := by
  intro W F H σ ρ D hn R q
  refine hb _ W F H σ ρ D hn R ?_
  unfold sTry at q
  revert q
  cases gb ρ with
  | ok k ρ1 => cases k <;> exact fun q => q
  | ex e ρ1 => exact fun q F' H' σ' cls od R' s x => catch_ok T hn R' x hk (q.up s)
  | bad => exact fun q => q
/-! ## a lambda handed to a def that calls it in a try -/
/-- the lambda's body sees the names of its maker; lists of the maker's own are out of its reach -/
def ro (ρ : Env) : Env := ρ.map fun s => if s.shy = true then .u else s
def lamAn : Rs D → Rs An
  | .ok d _ => .ok (.v d) []
  | .ex e _ => .ex e []
  | .bad => .bad
/-- what the def is told of the lambda -/
def LamTell (c : Cn) (F H : Hp) (tl : XK → Hp → VK → Prop) (r : Rs An) : Prop := ∀ F1 H1, After c F H [] [] [] F1 H1 → ∀ (E : XK) (Q : VK), Out c F1 H1 [] [] Q E r → tl E H1 Q
/-- no list of the caller's goes in: what is told does not look at the rest -/
def LamGo (c : Cn) (gm : Rs An → Rs An) : (XK → Hp → VK → Prop) → Hp → VK → Prop := fun tl H Q => ∃ F r, Fz F H ∧ LamX.Tabs c.T H ∧ LamTell c F H tl r ∧ Out c F H [] [] Q (fun _ _ _ => False) (gm r)
theorem ro_get {j : Nat} {s : Slot} (h : (ro ρ)[j]? = some s) : s.shy = false ∧ ∃ t, ρ[j]? = some t ∧ (s = t ∨ s = .u) := by
  unfold ro at h
  rw [List.getElem?_map] at h
  cases e : ρ[j]? with
  | none => rw [e] at h; cases h
  | some t =>
    rw [e] at h
    have h : (if t.shy = true then Slot.u else t) = s := Option.some.inj h
    split at h
    · exact ⟨by rw [← h]; rfl, t, rfl, .inr h.symm⟩
    · rename_i o
      refine ⟨?_, t, rfl, .inl h.symm⟩
      rw [← h]
      simpa using o
def fmL (F H : Hp) (pn : Option (Addr × List Addr) := none) : Fm where
  np := 0
  P := fun _ _ => False
  B := fun a => bl H a = none
  F0 := F
  H0 := bl H
  pn := pn
theorem relL {H1 F1 H2 : Hp} (R : Rel c W F H σ ρ) (A : After c F H1 [] [] [] F1 H2) : Rel c (fmL F1 H2 W.pn) F1 H2 σ (ro ρ) where
  sub := A.sub
  nt := A.nt
  tab := A.tab
  len := by unfold ro; rw [List.length_map, R.len]
  here := fun j s e => by
    obtain ⟨o, t, et, z | z⟩ := ro_get e
    · subst z
      have h := R.here j _ et
      cases s with
      | u => exact trivial
      | e x =>
        obtain ⟨a, cls, od, e1, e2, x⟩ := h
        exact ⟨a, cls, od, e1, e2, x.mono A.fs⟩
      | al _ => exact h
      | d x =>
        obtain ⟨v, e1, r⟩ := h
        exact ⟨v, e1, r.mono A.fs⟩
      | _ => cases o
    · rw [z]; exact trivial
  dis := fun j k s t p e1 _ o1 => by rw [shy_own (ro_get e1).1] at o1; cases o1
  wb := fun a h => h
  pa := fun j p h => h.elim
  lo := fun j s p _ e o => by rw [shy_own (ro_get e).1] at o; cases o
  st := fun a h => h
  kp := fun a o h1 h2 h3 => (bl_at h2).1
  f0 := Same.refl _
  nf := fun a h1 h2 => h1
theorem afterL {F1 H2 : Hp} {pn : Option (Addr × List Addr)} {outs : List Slot} {ρ1 : Env} (R : Rel c (fmL F1 H2 pn) F' H' σ ρ1) : After c F1 H2 [] [] outs F' H' where
  fs := R.f0
  sub := R.sub
  nt := R.nt
  tab := R.tab
  nw := R.nf
  hs := fun a o e n _ => R.kp a o (fun b => by
    have b : bl H2 a = none := b
    rw [bl_of e n] at b; cases b) (bl_of e n) n
  ht := R.st
  ow := fun j s p e => by simp at e
theorem Rel.ext {H1 : Hp} (R : Rel c W F H σ ρ) (eN : LamX.ExtN H H1) (T1 : LamX.Tabs c.T H1) : Rel c W F H1 σ ρ where
  sub := fun a o e => eN a o (R.sub a o e) fun ps z => R.nt a ps (by rw [e, z])
  nt := R.nt
  tab := T1
  len := R.len
  here := fun i s e => (R.here i s e).mono (Same.refl _) (fun p _ h => h.mono (Same.refl _) h.at.1 fun o e n => eN p o e n) fun p rs xss _ h => h.mono (Same.refl _) (fun x m => (h.at x m).1) fun x vs m e => eN x _ e fun _ z => by cases z
  dis := R.dis
  wb := R.wb
  pa := R.pa
  lo := R.lo
  st := fun a e => R.st a (bl_free (fun b o h n => eN b o h n) e)
  kp := fun a o h1 h2 h3 => eN a o (R.kp a o h1 h2 h3) h3
  f0 := R.f0
  nf := R.nf
/-- x(lambda: body) -/
def eLam (gm : Rs An → Rs An) (m : M D) : M D := fun ρ => match gm (lamAn (m (ro ρ))) with
  | .ok (.v d) _ => .ok d ρ
  | _ => .bad
theorem ex_lam {gm : Rs An → Rs An} {m : M D} {t : XK → TE} (hE : ∀ E' : XK, Ex c (fun cls od _ H => E' cls od H) (t E') m) : Ex c E (LamX.tLam c.T (LamGo c gm) t) (eLam gm m) := by
  intro W F H σ ρ Q R h
  refine ⟨R.tab, fun H1 eN T1 => ?_⟩
  have R1 := R.ext eN T1
  refine ⟨F, lamAn (m (ro ρ)), R1.fz, T1, fun F1 H2 A E' Q' o => ?_, ?_⟩
  · refine hE E' (fmL F1 H2 W.pn) F1 H2 σ (ro ρ) Q' (relL R A) ?_
    revert o
    cases m (ro ρ) with
    | ok d ρ1 => exact fun o F' H' v R' s r => o F' H' v (afterL R') r
    | ex e ρ1 => exact fun o F' H' cls od R' s x => o F' H' cls od (afterL R') x
    | bad => exact fun o => o
  · unfold eLam at h
    revert h
    cases gm (lamAn (m (ro ρ))) with
    | ok a outs =>
      cases a with
      | v d =>
        intro h F' H' v A r
        refine h F' H' v ?_ A.fs r
        have A' : After c F H1 [] [] [] F' H' := ⟨A.fs, A.sub, A.nt, A.tab, A.nw, A.hs, A.ht, fun j s p e => by simp at e⟩
        exact R1.after (as := []) rfl rfl rfl A'
      | n ds => exact fun h => h.elim
    | ex e outs => exact fun h => h.elim
    | bad => exact fun h => h
end Pl
namespace Pl
open PySem PySem.Spec PyProof.Rows L2
variable {α β γ : Type} {c : Cn} {E : WX} {np : Nat} {W : Fm} {F H F' H' : Hp} {σ : L2.St} {ρ : Env}
/-! ## the def that gets the lambda -/
def endAn : Rs Ct → Rs An
  | .ok .nx _ => .ok (.v .non) []
  | .ok (.rt d) _ => .ok (.v d) []
  | _ => .bad
theorem SPost.seq {g gu : S} {D : Ends} {t2 : TS} (h2 : Sx c E np t2 gu) (hn : W.np = np) (h : SPost c W F E D (sSeq g gu ρ)) : SPost c W F E { D with nx := t2 D } (g ρ) := by
  unfold sSeq M.bind at h
  revert h
  cases g ρ with
  | ok k ρ' =>
    cases k with
    | nx => exact fun h F' H' σ' R' s => h2 W F' H' σ' ρ' D hn R' (h.up s)
    | rt d => exact fun h => h
    | rn ds => exact fun h => h
    | bk => exact fun h => h
    | ct => exact fun h => h
  | ex e ρ' => exact fun h => h
  | bad => exact fun h => h
theorem After.refl (fz : Fz F H) (tab : LamX.Tabs c.T H) : After c F H [] [] [] F H := ⟨Same.refl _, fz.1, fz.2, tab, fun a e _ => e, fun a o e _ _ => e, fun a e => e, fun j s p e => by simp at e⟩
/-- nothing is known of the names -/
theorem relU {outs : List Slot} (A : After c F H [] [] outs F' H') (σ : L2.St) : Rel c (fmL F H) F' H' σ (List.replicate σ.length .u) where
  sub := A.sub
  nt := A.nt
  tab := A.tab
  len := by rw [List.length_replicate]
  here := fun j s e => by
    rw [List.getElem?_replicate] at e
    split at e
    · cases e; exact trivial
    · cases e
  dis := fun j k s t p e1 _ o1 => by
    rw [List.getElem?_replicate] at e1
    split at e1
    · cases e1; cases o1
    · cases e1
  wb := fun a h => h
  pa := fun j p h => h.elim
  lo := fun j s p _ e o => by
    rw [List.getElem?_replicate] at e
    split at e
    · cases e; cases o
    · cases e
  st := A.ht
  kp := fun a o h1 h2 h3 => A.hs a o (bl_at h2).1 h3 fun j s e => by simp at e
  f0 := A.fs
  nf := A.nw
theorem end_post {D : Ends} {Q : VK} {E' : XK} {r : Rs Ct} (h : Out c F H [] [] Q E' (endAn r)) : SPost c (fmL F H) F E { nx := fun _ H' => Q .non H', rt := Q } r := by
  cases r with
  | ok k ρ =>
    cases k with
    | nx => exact fun F' H' σ' R' s => h F' H' .non (afterL R') rfl
    | rt d => exact fun F' H' σ' v R' s r => h F' H' v (afterL R') r
    | _ => exact h.elim
  | ex e ρ => exact h.elim
  | bad => exact h.elim
theorem Takes.long {X : Cx} {W : WX} (tk : Takes X W) : Takes X (fun cls d σ H => σ.length = X.N.length → W cls d σ H) := by
  intro u s' air
  obtain ⟨a, B, sI, pins, σ, H, cls, d, e, J, nb, up, sky, na, os, ag, w⟩ := air
  exact tk u s' ⟨a, B, sI, pins, σ, H, cls, d, e, J, nb, up, sky, na, os, ag, w J.len⟩
/-- def x(a): try: a() / except ..: .. ; the rest -/
def gmDo (tab : Str → Str → Option Bool) (m : List HdM) (mr : S) (n : Nat) : Rs An → Rs An
  | .ok (.v _) _ => endAn (mr (List.replicate n .u))
  | .ex e _ => endAn (sSeq (catchM tab m e) mr (List.replicate n .u))
  | _ => .bad
/-- def x(a): try: return a() / except ..: .. ; the rest -/
def gmRet (tab : Str → Str → Option Bool) (m : List HdM) (mr : S) (n : Nat) : Rs An → Rs An
  | .ok (.v d) _ => .ok (.v d) []
  | .ex e _ => endAn (sSeq (catchM tab m e) mr (List.replicate n .u))
  | _ => .bad
section
variable {X : Cx} {T : List (Addr × Str)} {tab : Str → Str → Option Bool} {Ng : List Str} {x a q : Str} {sg : Scope} {g : Addr} {cdg : Value} {h1 : ExceptHandler} {hds : List ExceptHandler} {l : List Hdl} {m : List HdM} {rest : List Stmt} {tr : TS} {mr : S} {p1 p2 p3 p4 : Pos}
theorem caught {D : Ends} {Q : VK} {E' : XK} {cls : Value} {od : Option Addr} {e : Exn} {n : Nat} (Te : ErrTab c.K c.mg tab) (hd : HsD c 0 l m) (hx : Sx c E0w 0 tr mr) (A : After c F H [] [] [] F' H') (xr : XRep c F' H' e cls od)
    (o : Out c F H [] [] Q E' (endAn (sSeq (catchM tab m e) mr (List.replicate n .u)))) (σ : L2.St) (hl : σ.length = n) : wHs c.K (fun _ _ _ _ => False) { nx := tr { nx := fun _ H' => Q .non H', rt := Q }, rt := Q } l cls od σ H' := by
  subst hl
  have p : SPost c (fmL F H) F E0w { nx := fun _ H' => Q .non H', rt := Q } (sSeq (catchM tab m e) mr (List.replicate σ.length .u)) := end_post (D := { nx := fun _ H' => Q .non H', rt := Q }) o
  exact catch_ok Te (np := 0) rfl (relU A σ) xr hd (SPost.seq hx rfl (p.up A.fs))
theorem gives_do (Te : ErrTab X.K X.mg tab) (hk : ∀ s H, Hs (cxOf C8.CX0 X.prog X.w X.K X.mg X.base Ng x sg g cdg X.A X.stack s H C8.E0).nox (h1 :: hds) l) (hd : HsD ⟨X.K, X.mg, T, none⟩ 0 l m)
    (hr : ∀ s H, PSs (cxOf C8.CX0 X.prog X.w X.K X.mg X.base Ng x sg g cdg X.A X.stack s H C8.E0).nox rest tr) (hx : Sx ⟨X.K, X.mg, T, none⟩ E0w 0 tr mr) (hN : Ng.Nodup) (h0 : ∀ f : Addr, (L2.start Ng [V.ref f])[0]? = some (some (V.ref f))) (hL : ∀ f : Addr, (L2.start Ng [V.ref f]).length = Ng.length) :
    LamX.GivesTo X Ng x sg g cdg (.Try [.Expr (.Call (.Name a p1) [] [] p2) p3] (h1 :: hds) [] [] p4 :: rest) a q (LamGo ⟨X.K, X.mg, T, none⟩ (gmDo tab m mr Ng.length)) := by
  intro f c' s H Q tl act hc go
  obtain ⟨F, r, fz, tb, tell, out⟩ := go
  refine ⟨_, pss_cons (ps_tries (tb := fun W D σ H => ∃ Ech : XK, (∀ cls d σ' H', Ech cls d H' → σ'.length = Ng.length → W cls d σ' H') ∧ σ[0]? = some (some (.ref f)) ∧ H c' = some (LamX.CodeO c' q) ∧ tl Ech H fun _ H' => D.nx σ H') rfl rfl hN L2.takes0 (fun W ps xe tk _ => ?_) (hk s H)) (hr s H), ?_⟩
  · refine ⟨fun pins s' σ H' D J h => ?_⟩
    obtain ⟨Ech, hW, e1, e2, e3⟩ := h
    have hp := act (fun cls d σ H => σ.length = Ng.length → W cls d σ H) ps xe Ech p1 p2 (Pl.Takes.long tk) fun cls d σ' H' w l => hW cls d σ' H' w l
    exact (pss_one (ps_expr (pos := p3) hp)).run pins s' σ H' D J ⟨e1, e2, e3⟩
  · refine ⟨fun cls d H' => ∀ σ' : L2.St, σ'.length = Ng.length → wHs X.K (fun _ _ _ _ => False) _ l cls d σ' H', fun cls d σ' H' w l => w σ' l, h0 f, hc, tell F H (After.refl fz tb) _ _ ?_⟩
    revert out
    cases r with
    | ok v outs =>
      cases v with
      | v d =>
        intro out F' H' v A _
        have A' : After ⟨X.K, X.mg, T, none⟩ F H [] [] [] F' H' := ⟨A.fs, A.sub, A.nt, A.tab, A.nw, A.hs, A.ht, fun j s p e => by simp at e⟩
        have o : Out ⟨X.K, X.mg, T, none⟩ F H [] [] Q (fun _ _ _ => False) (endAn (mr (List.replicate Ng.length .u))) := out
        rw [← hL f] at o
        exact hx (fmL F H) F' H' _ _ _ rfl (relU A' (L2.start Ng [V.ref f])) ((end_post (D := { nx := fun _ H' => Q .non H', rt := Q }) o).up A.fs)
      | n ds => exact fun out => out.elim
    | ex e outs =>
      intro out F' H' cls od A xr σ' hl
      have A' : After ⟨X.K, X.mg, T, none⟩ F H [] [] [] F' H' := ⟨A.fs, A.sub, A.nt, A.tab, A.nw, A.hs, A.ht, fun j s p e => by simp at e⟩
      exact caught (D := { nx := fun _ H' => Q .non H', rt := Q }) Te hd hx A' xr out σ' hl
    | bad => exact fun out => out.elim
theorem gives_ret (Te : ErrTab X.K X.mg tab) (hk : ∀ s H, Hs (cxOf C8.CX0 X.prog X.w X.K X.mg X.base Ng x sg g cdg X.A X.stack s H C8.E0).nox (h1 :: hds) l) (hd : HsD ⟨X.K, X.mg, T, none⟩ 0 l m)
    (hr : ∀ s H, PSs (cxOf C8.CX0 X.prog X.w X.K X.mg X.base Ng x sg g cdg X.A X.stack s H C8.E0).nox rest tr) (hx : Sx ⟨X.K, X.mg, T, none⟩ E0w 0 tr mr) (hN : Ng.Nodup) (h0 : ∀ f : Addr, (L2.start Ng [V.ref f])[0]? = some (some (V.ref f))) :
    LamX.GivesTo X Ng x sg g cdg (.Try [.Return (some (.Call (.Name a p1) [] [] p2)) p3] (h1 :: hds) [] [] p4 :: rest) a q (LamGo ⟨X.K, X.mg, T, none⟩ (gmRet tab m mr Ng.length)) := by
  intro f c' s H Q tl act hc go
  obtain ⟨F, r, fz, tb, tell, out⟩ := go
  refine ⟨_, pss_cons (ps_tries (tb := fun W D σ H => ∃ Ech : XK, (∀ cls d σ' H', Ech cls d H' → σ'.length = Ng.length → W cls d σ' H') ∧ σ[0]? = some (some (.ref f)) ∧ H c' = some (LamX.CodeO c' q) ∧ tl Ech H D.rt) rfl rfl hN L2.takes0 (fun W ps xe tk _ => ?_) (hk s H)) (hr s H), ?_⟩
  · refine ⟨fun pins s' σ H' D J h => ?_⟩
    obtain ⟨Ech, hW, e1, e2, e3⟩ := h
    have hp := act (fun cls d σ H => σ.length = Ng.length → W cls d σ H) ps xe Ech p1 p2 (Pl.Takes.long tk) fun cls d σ' H' w l => hW cls d σ' H' w l
    exact (pss_one (ps_ret (pos := p3) hp)).run pins s' σ H' D J ⟨e1, e2, e3⟩
  · refine ⟨fun cls d H' => ∀ σ' : L2.St, σ'.length = Ng.length → wHs X.K (fun _ _ _ _ => False) _ l cls d σ' H', fun cls d σ' H' w l => w σ' l, h0 f, hc, tell F H (After.refl fz tb) _ _ ?_⟩
    revert out
    cases r with
    | ok v outs =>
      cases v with
      | v d => exact fun out F' H' v A r => out F' H' v ⟨A.fs, A.sub, A.nt, A.tab, A.nw, A.hs, A.ht, fun j s p e => by simp at e⟩ r
      | n ds => exact fun out => out.elim
    | ex e outs =>
      intro out F' H' cls od A xr σ' hl
      have A' : After ⟨X.K, X.mg, T, none⟩ F H [] [] [] F' H' := ⟨A.fs, A.sub, A.nt, A.tab, A.nw, A.hs, A.ht, fun j s p e => by simp at e⟩
      exact caught (D := { nx := fun _ H' => Q .non H', rt := Q }) Te hd hx A' xr out σ' hl
    | bad => exact fun out => out.elim
end
end Pl
namespace Pl
open PySem PySem.Spec PyProof.Rows L2
variable {b : Bool} {α β γ : Type} {c : Cn} {E : WX} {np : Nat}
/-! ## a def that makes lambdas: its code object is known -/
structure FunC (K : PySem.W.Frag) (x qual : Str) (st : Stmt) (f : Addr) (fd : FuncData) (cd : Value) : Prop where
  ex : ∃ (oc : Value) (od : Option Addr) (kV doc pm : Value) (an : Option Addr) (ct : Value) (osl : Array (Option Value)),
    fd = PySem.W.fnOf x qual (defArgs st) (defBody st) (defScope st) .none kV doc pm an cd ct ∧ K.lookup f = some ⟨oc, od, .func fd, osl⟩ ∧ PySem.W.codeIn K cd qual = true
section
variable {P : Program} {w : World} {K : PySem.W.Frag} {mg : Str → Option Value} {base : Heap} {T : List (Addr × Str)}
theorem fn_bodyC {x qual : Str} {st : Stmt} {f : Addr} {fd : FuncData} {cd : Value} {N ps : List Str} {k n : Nat} {g : S} (Fu : FunC K x qual st f fd cd) (Sc : FnScope N ps (defScope st)) (hn : N.length = ps.length + n)
    (hbody : ∀ (A : Around) (outer : List PySem.Env) (s : Shared) (H : Hp) (E : XK), Room k (A.deeper (envOfC qual (defScope st) s.heap.objs.size f cd)) → Gd b A →
      ∃ t, PSs (cxOf (L2.CX P w) P w K mg base N qual (defScope st) f cd A outer s H E) (defBody st) t ∧ Sx ⟨K, mg, T, none⟩ (fun cls od _ H => E cls od H) ps.length t g) : FnG b P w K mg base (k + 1) f fd ps (spM ⟨K, mg, T, none⟩ (runBody ps.length n g)) := by
  obtain ⟨oc, od, kV, doc, pm, an, ct, osl, efd, look, rec⟩ := Fu.ex
  subst efd
  have len : ∀ vs H Q E, spM ⟨K, mg, T, none⟩ (runBody ps.length n g) vs H Q E → vs.length = ps.length := fun vs H Q E h => by
    obtain ⟨F, qs, _, _, par, hm⟩ := h
    unfold runBody at hm
    by_cases hl : qs.length = ps.length
    · rw [← par.len, hl]
    · rw [if_neg hl] at hm
      exact hm.elim
  refine ⟨len, fun A outer s H args us vs Q E hr hgu e0 hb r hsp => ?_⟩
  have stays : ∀ a o, base.get? a = some o → s.heap.get? a = some o := fun a o z => (e0.bs a o z).1
  have inK : K.In s.heap := e0.mod.kin.keeps stays
  have roomy : s.heap.NoLimit := e0.mod.nolimit.keeps stays
  have hv := len _ _ _ _ hsp
  refine codeAny_call_function hr.depth (inK _ _ look) rfl Sc.co Sc.gen rfl (PySem.W.codeRec_of inK rec) (hb _ _ _ _ (wpAny_newFunctionEnv_cells Sc.kind (fun y hy => ?_) fun env he s1 z => ?_))
  · rcases Sc.par y.1 (List.of_mem_zip hy).1 with l | l
    · exact .inl l
    · exact .inr ⟨l, PySem.W.cellsFrom_some _ _ _ (.inl l)⟩
  · subst he
    refine ⟨roomy.keeps z.toInCall.keep, codeAny_func ?_⟩
    obtain ⟨t, ht, hx⟩ := hbody A outer s H E (hr.deeper _) hgu
    have J := inv_start (CX := L2.CX P w) (E := E) Sc hr.hd e0 hv r z
    obtain ⟨F, qs, fz, tab, par, hm⟩ := hsp
    have hq : qs.length = ps.length := by rw [par.len, hv]
    rw [← hq] at hx hm hn
    refine wpAny_mono (ht.run [] s1 _ H _ J (out_end hx hn fz tab par hm)) (fun fl s' hs => ?_) fun _ _ hs => hs
    cases fl with
    | ret u =>
      obtain ⟨v, σ', H', J', rv, q⟩ := hs
      exact ⟨v, H', J'.os, J'.bare, J'.base, J'.hok, rv, q⟩
    | next =>
      obtain ⟨σ', H', J', q⟩ := hs
      exact ⟨V.non, H', J'.os, J'.bare, J'.base, J'.hok, rfl, q⟩
    | brk => exact (show False from hs.choose_spec.choose_spec.2).elim
    | cont => exact (show False from hs.choose_spec.choose_spec.2).elim
end
section
variable {X : Cx} {T : List (Addr × Str)}
/-- x(lambda: body) -/
theorem pe_lamG {x a : Str} {stg : Stmt} {g c P : Addr} {fdg : FuncData} {k : Nat} {Ng : List Str} {gm : Rs An → Rs An} {params : Arguments} {body : Expr} {scope : Scope} {t : XK → TE} {p lpos pos : Pos} (Fg : Fun X.K x x stg g fdg) (bi : Binds X.K fdg [a] []) (hm : X.mg x = some (.ref g)) (Sg : FnScope Ng [a] (defScope stg))
    (hG : ∀ cdg : Value, LamX.GivesTo X Ng x (defScope stg) g cdg (defBody stg) a (X.env.qual ++ "<lambda>") (LamGo ⟨X.K, X.mg, T, none⟩ gm))
    (TB : LamX.TabB X.base X.mg c P) (hcode : X.env.code = .ref c) (hmT : (P, X.env.qual ++ "<lambda>") ∈ T) (hu : ∀ p ∈ T, p.1 = P → p.2 = X.env.qual ++ "<lambda>") (hr : Room (k + 2) X.A)
    (hbody : ∀ (A : Around) (outer : List PySem.Env) (s : Shared) (H : Hp) (E : XK) (f c' : Addr), Room k (A.deeper (LamX.lamEnv X scope s.heap.objs.size f c')) → PE (LamX.lamCx X A outer s H E scope f c') body (t E))
    (hg : Gl X x) (hNg : Ng[0]? = some a) (hva : Vis (defScope stg) a) (L : LamX.LamS X.env.scope scope) (hdef : defaultsOf params X.env = ([], []))
    (hbind : ∀ (q : Str) (cl : List (Str × Addr)) (pm cv ctv : Value), bindArgs (PySem.W.kla_fn "<lambda>" q params body scope cl pm cv ctv) ⟨[], []⟩ = pure [])
    (hdb : (x == ("__debug__" : Str)) = false := by decide) (hd : (a == ("__debug__" : Str)) = false := by decide) (hcd : (a == ("__classdict__" : Str)) = false := by decide) : PE X (.Call (.Name x p) [.Lambda params body scope lpos] [] pos) (LamX.tLam T (LamGo ⟨X.K, X.mg, T, none⟩ gm) t) := by
  obtain ⟨oc, od, kV, doc, pm, an, cdv, ct, osl, efd, look, rec⟩ := Fg.ex
  subst efd
  exact LamX.pe_lamcall (hg := hg) (hm := hm) (hk := Fg.kp) (lk := look) (hcg := rec) (hb := bi) (Sg := Sg) (hNg := hNg) (hva := hva) (hG := hG cdv) (TB := TB) (hcode := hcode) (hmT := hmT) (hu := hu) (hr := hr) (L := L) (hdef := hdef) (hbind := hbind) (hbody := hbody) (hdb := hdb) (hd := hd) (hcd := hcd)
/-- isinstance(e, y) in a suite -/
theorem pe_isE {ad : Addr} {ob : Obj} {ps : List (Addr × Obj)} {cls : Value} {d : Option Addr} {j : Nat} {n : Str} {pn p pos : Pos} {e2 : Expr} {vv : V} {cv : Value} (hz : Zc cls d ob) (hf : ∃ q, ob.data = .fields q) (h1 : PE (X.suite ad ((ad, ob) :: ps)) (.Name n pn) (tVar j)) (h2 : PE (X.suite ad ((ad, ob) :: ps)) e2 (tC vv)) (hcv : ∀ u, RelV vv u → u = cv)
    (hg : Gl X "isinstance") (hm : X.mg "isinstance" = none) (hst : starEach [.Name n pn, e2] X.env = (false, eval (.Name n pn) X.env) :: starEach [e2] X.env := by rfl) (hpl : (backTo pos (starEach [e2] X.env)).any (·.1) = false := by rfl) (hs2 : starEach [e2] X.env = (false, eval e2 X.env) :: starEach [] X.env := by rfl) :
    PE (X.suite ad ((ad, ob) :: ps)) (.Call (.Name "isinstance" p) [.Name n pn, e2] [] pos) (tIsE X.K ad cls d j cv) := by
  refine ⟨fun pins s σ H Q J h => ?_⟩
  obtain ⟨Dx, k, ec, ed, C, hs, hk, hq⟩ := h
  subst ec ed
  exact (pe_callB (call_isE C hz hf) hg hm (by decide +kernel) (pa_cons h1 (pa_cons h2 pa_nil (hs := hs2))) (he := hst) (hpl := hpl)).run pins s σ H Q J ⟨.ref ad, hs, vv, cv, k, rfl, hcv, hk, hq⟩
end
end Pl
namespace Pl
open PySem PySem.Spec PyProof.Rows L2 He
variable {K : PySem.W.Frag} {w : World} {mg : Str → Option Value}
/-! ## what the top has written, by looking at it -/
theorem FnG.ok {P : Program} {base : Heap} {k : Nat} {f : Addr} {fd : FuncData} {ps : List Str} {sp : Sp} (F : FnG false P w K mg base k f fd ps sp) : FnOk P w K mg base (L2.CX P w) k f fd ps sp :=
  ⟨F.many, fun A outer s H args us vs Q E hr e0 hb r hsp => F.goes A outer s H args us vs Q E hr (fun h => by cases h) e0 hb r hsp⟩
theorem fun_of {x q : Str} {st : Stmt} {f : Addr} {fd : FuncData} (F : FunD K x q (defArgs st) (defBody st) (defScope st) [] [] f fd) : Fun K x q st f fd := by
  obtain ⟨oc, od, dV, kV, doc, pm, an, cdv, ct, osl, e, l, c, d, _⟩ := F.ex
  rcases d with ⟨_, d⟩ | ⟨d, _⟩
  · subst d
    exact ⟨⟨oc, od, kV, doc, pm, an, cdv, ct, osl, e, l, c⟩, F.kp⟩
  · exact absurd rfl d
theorem funC_of {x q : Str} {st : Stmt} {p : Str × Option Str} {fd : FuncData} (F : FunD K x q (defArgs st) (defBody st) (defScope st) [] [] (fAd K p) fd) : FunC K x q st (fAd K p) fd (.ref (codeOf K p)) := by
  obtain ⟨oc, od, dV, kV, doc, pm, an, cdv, ct, osl, e, l, c, d, _⟩ := F.ex
  rcases d with ⟨_, d⟩ | ⟨d, _⟩
  · subst d
    obtain ⟨cc, ec⟩ := codeIn_ref c
    subst ec
    have z := codeOf_eq (K := K) (p := p) l (c := cc) (by rw [e] <;> rfl)
    rw [z]
    exact ⟨oc, od, kV, doc, pm, an, ct, osl, e, l, c⟩
  · exact absurd rfl d
/-- a tuple of texts -/
def conTB (K : PySem.W.Frag) (a : Addr) (zs : List Str) : Bool := match K.lookup a with
  | some ⟨.type c, none, .seq its _, _⟩ => decide (c = "tuple") && (decide (its.size ≤ sizeLine) && relAll (zs.map V.str) its.toList)
  | _ => false
theorem repL_strs {F : Hp} : ∀ zs : List Str, RepL K F (zs.map D.str) (zs.map V.str)
  | [] => rfl
  | z :: r => .cons rfl (repL_strs r)
theorem conT_of {a : Addr} {zs : List Str} (h : conTB K a zs = true) : ConT K a (zs.map D.str) := by
  unfold conTB at h
  cases q : K.lookup a with
  | none => rw [q] at h; cases h
  | some o =>
    obtain ⟨oc, od, dt, osl⟩ := o
    rw [q] at h
    cases oc with
    | type c =>
      cases od with
      | some d => cases dt <;> cases h
      | none =>
        cases dt with
        | seq its n =>
          obtain ⟨h1, h2⟩ := ba (show (decide (c = "tuple") && (decide (its.size ≤ sizeLine) && relAll (zs.map V.str) its.toList)) = true from h)
          obtain ⟨h3, h4⟩ := ba h2
          have ec : (Value.type c) = .type "tuple" := congrArg Value.type (of_decide_eq_true h1)
          exact ⟨⟨_, q, ec, rfl⟩, fun F => ⟨a, zs.map V.str, rfl, .inr ⟨_, its, n, q, ec, rfl, of_decide_eq_true h3, relAll_ok h4⟩, repL_strs zs⟩⟩
        | _ => cases h
    | _ => cases od <;> cases dt <;> cases h
/-- a dict of texts to whole numbers -/
def entryIs (e : DictEntry) (z : Str) : Bool := match e.key with
  | .str y _ => decide (y = z)
  | _ => false
def keysAre : List DictEntry → List Str → Bool
  | [], [] => true
  | e :: r, z :: zs => entryIs e z && keysAre r zs
  | _, _ => false
def tabSB (K : PySem.W.Frag) (a : Addr) (tab : List (Str × Int)) : Bool := (match K.lookup a with
  | some ⟨_, _, .dict es _, _⟩ => keysAre es.toList (tab.map (·.1))
  | _ => false) && valsB K a (tab.map fun q => (q.1, Dv.int q.2))
def tabSI (tab : List (Str × Int)) : List (Str × D) := tab.map fun q => (q.1, D.int q.2)
theorem keys_none : ∀ {es : List DictEntry} {zs : List Str} {z : Str}, keysAre es zs = true → z ∉ zs → es.find? (fun e => e.key.isStr z) = none ∧ es.any (fun e => e.refKey) = false
  | [], [], _, _, _ => ⟨rfl, rfl⟩
  | [], _ :: _, _, h, _ => by cases h
  | _ :: _, [], _, h, _ => by cases h
  | e :: r, y :: ys, z, h, hn => by
    obtain ⟨h1, h2⟩ := ba (show (entryIs e y && keysAre r ys) = true from h)
    obtain ⟨i1, i2⟩ := keys_none h2 (z := z) fun m => hn (List.mem_cons_of_mem _ m)
    obtain ⟨t, et⟩ : ∃ t, e.key = .str y t := by
      unfold entryIs at h1
      cases q : e.key with
      | str x t => rw [q] at h1; rw [of_decide_eq_true h1]; exact ⟨t, rfl⟩
      | _ => rw [q] at h1; cases h1
    have ne : e.key.isStr z = false := by
      rw [et]
      show (y == z) = false
      exact beq_eq_false_iff_ne.mpr fun q => hn (by rw [q]; exact List.mem_cons_self)
    have rk : e.refKey = false := by
      unfold DictEntry.refKey
      rw [et]
    exact ⟨by rw [List.find?_cons, ne]; exact i1, by rw [List.any_cons, rk, i2]; rfl⟩
theorem lookup_of : ∀ {tab : List (Str × Int)} {z : Str} {d : D}, (tabSI tab).lookup z = some d → ∃ i, (z, i) ∈ tab ∧ d = .int i
  | [], _, _, h => by cases h
  | q :: r, z, d, h => by
    have h : (match z == q.1 with | true => some (D.int q.2) | false => (tabSI r).lookup z) = some d := h
    cases e : z == q.1 with
    | true =>
      rw [e] at h
      cases h
      exact ⟨q.2, by rw [eq_of_beq e]; exact List.mem_cons_self, rfl⟩
    | false =>
      rw [e] at h
      obtain ⟨i, m, ed⟩ := lookup_of (tab := r) h
      exact ⟨i, List.mem_cons_of_mem _ m, ed⟩
theorem lookup_no : ∀ {tab : List (Str × Int)} {z : Str}, (tabSI tab).lookup z = none → z ∉ tab.map (·.1)
  | [], _, _ => by simp
  | q :: r, z, h => by
    have h : (match z == q.1 with | true => some (D.int q.2) | false => (tabSI r).lookup z) = none := h
    cases e : z == q.1 with
    | true => rw [e] at h; cases h
    | false =>
      rw [e] at h
      have := lookup_no (tab := r) h
      intro m
      rw [List.map_cons] at m
      rcases List.mem_cons.mp m with m | m
      · rw [m] at e; simp at e
      · exact this m
theorem tabS_of {a : Addr} {tab : List (Str × Int)} (hd : ∃ es n, KDict K w a es n) (h : tabSB K a tab = true) : Pl.TabS K w a (tabSI tab) := by
  obtain ⟨h1, h2⟩ := ba h
  refine ⟨hd, fun z d e => ?_, fun z e => ?_⟩
  · obtain ⟨i, m, rfl⟩ := lookup_of e
    obtain ⟨u, e1, e2⟩ := valsB_ok h2 (q := (z, Dv.int i)) (List.mem_map.mpr ⟨(z, i), m, rfl⟩)
    exact ⟨u, .int i, e1, e2, fun F => rfl⟩
  · obtain ⟨es, n, D⟩ := hd
    rw [D.at_] at h1
    obtain ⟨k1, k2⟩ := keys_none h1 (lookup_no e)
    unfold PySem.W.nsIn
    rw [D.at_]
    dsimp only
    rw [k1]
    dsimp only
    rw [if_neg]
    · rw [k2]; exact Bool.false_ne_true
/-- a dict of whole numbers to texts -/
def tabIB (K : PySem.W.Frag) (a : Addr) (tab : List (Int × Str)) : Bool := match K.lookup a with
  | some ⟨.type c, none, .dict es _, sl⟩ => decide (c = "dict") && (sl.isEmpty && (es.toList.all (fun e => match e.key with
    | .int k _ => decide (e.hash = hashInt k)
    | _ => false) && tab.all fun q => match findBy Value.isInt es q.1 with
      | some (.str y _) => decide (y = q.2)
      | _ => false))
  | _ => false
def tabIS (tab : List (Int × Str)) : List (Int × D) := tab.map fun q => (q.1, D.str q.2)
theorem lookupI_of : ∀ {tab : List (Int × Str)} {z : Int} {d : D}, (tabIS tab).lookup z = some d → ∃ i, (z, i) ∈ tab ∧ d = .str i
  | [], _, _, h => by cases h
  | q :: r, z, d, h => by
    have h : (match z == q.1 with | true => some (D.str q.2) | false => (tabIS r).lookup z) = some d := h
    cases e : z == q.1 with
    | true =>
      rw [e] at h
      cases h
      exact ⟨q.2, by rw [eq_of_beq e]; exact List.mem_cons_self, rfl⟩
    | false =>
      rw [e] at h
      obtain ⟨i, m, ed⟩ := lookupI_of (tab := r) h
      exact ⟨i, List.mem_cons_of_mem _ m, ed⟩
theorem tabI_of {a : Addr} {tab : List (Int × Str)} (h : tabIB K a tab = true) : TabI K a (tabIS tab) := by
  unfold tabIB at h
  cases q : K.lookup a with
  | none => rw [q] at h; cases h
  | some o =>
    obtain ⟨oc, od, dt, osl⟩ := o
    rw [q] at h
    cases oc with
    | type c =>
      cases od with
      | some d => cases dt <;> cases h
      | none =>
        cases dt with
        | dict es n =>
          obtain ⟨h1, h⟩ := ba h
          obtain ⟨h2, h⟩ := ba h
          obtain ⟨h3, h4⟩ := ba h
          have e1 : c = "dict" := of_decide_eq_true h1
          have e2 : osl = #[] := by
            cases osl with
            | mk l => cases l with
              | nil => rfl
              | cons a b => cases h2
          subst e1 e2
          refine ⟨⟨es, n, q, fun e he => ?_, fun i d hd => ?_⟩⟩
          · have := List.all_eq_true.mp h3 e (Array.mem_toList_iff.mpr he)
            cases ek : e.key with
            | int k t => rw [ek] at this; exact ⟨k, t, rfl, of_decide_eq_true this⟩
            | _ => rw [ek] at this; cases this
          · obtain ⟨z, m, rfl⟩ := lookupI_of hd
            have := List.all_eq_true.mp h4 (i, z) m
            cases ef : findBy Value.isInt es i with
            | none => rw [show findBy Value.isInt es (i, z).1 = none from ef] at this; cases this
            | some u =>
              rw [show findBy Value.isInt es (i, z).1 = some u from ef] at this
              cases u with
              | str y t =>
                have ey : y = z := of_decide_eq_true this
                subst ey
                exact ⟨_, .str y, rfl, ⟨t, rfl⟩, fun F => rfl⟩
              | _ => cases this
        | _ => cases h
    | _ => cases od <;> cases dt <;> cases h
/-- a class of errors as isinstance looks at it -/
def excCB (K : PySem.W.Frag) (D : Addr) : Bool := decide (PySem.W.findIn K (.ref D) "__getattribute__" = some (some (.builtin "BaseException.__getattribute__"))) && (decide (PySem.W.findIn K (.ref D) "__getattr__" = some none) && (decide (PySem.W.subIn K (.ref D) (.type "BaseException") = some true) && (PySem.W.hasDictIn K D &&
  (decide (PySem.W.findIn K (.ref D) "__class__" = some (some (.builtin "object.__class__"))) && (decide (PySem.W.specialIn K (.builtin "object.__class__") "__get__" = some (some (.builtin "getset_descriptor.__get__"))) && (decide (PySem.W.takesIn K (.builtin "object.__class__") = some true) && decide (PySem.W.mroIn K D (.type "object") = some true)))))))
theorem excC_of {D : Addr} (h : excCB K D = true) : ExcC K D := by
  obtain ⟨h1, h⟩ := ba h
  obtain ⟨h2, h⟩ := ba h
  obtain ⟨h3, h⟩ := ba h
  obtain ⟨h4, h⟩ := ba h
  obtain ⟨h5, h⟩ := ba h
  obtain ⟨h6, h⟩ := ba h
  obtain ⟨h7, h8⟩ := ba h
  exact ⟨of_decide_eq_true h1, of_decide_eq_true h2, of_decide_eq_true h3, h4, of_decide_eq_true h5, of_decide_eq_true h6, of_decide_eq_true h7, of_decide_eq_true h8⟩
/-- a class without __init__ over bases that end in ValueError -/
def xOwnB (K : PySem.W.Frag) (C : Addr) : Bool := PySem.W.keepIn K (.ref C) && (PySem.W.excIn K C veBase "ValueError.__new__" && (decide (PySem.W.subIn K (.ref C) (.type "BaseException") = some true) && decide (PySem.W.typeIn K (.ref C) = some (.type "type"))))
theorem xOwn_of {x : Str} {C : Addr} (g : mg x = some (.ref C)) (h : xOwnB K C = true) : XOwn K mg x C := by
  obtain ⟨h1, h⟩ := ba h
  obtain ⟨h2, h⟩ := ba h
  obtain ⟨h3, h4⟩ := ba h
  exact ⟨g, h1, ⟨_, _, _, _, PySem.F.excBase_ValueError, h2⟩, of_decide_eq_true h3, of_decide_eq_true h4⟩
def errB (K : PySem.W.Frag) (D : Addr) (c : Value) (b : Bool) : Bool := decide (PySem.W.exmOne K (.ref D) c = some b) && decide (PySem.W.kitOne K (.ref D) c = some b)
/-! ## the law's own call -/
theorem sqL_bl {H : Hp} {a : Addr} {xs : List V} (h : SqL K H a xs) : SqL K (bl H) a xs := by
  rcases h with (h | ⟨o, h⟩) | h
  · exact .inl (.inl (bl_of h fun _ z => by cases z))
  · exact .inl (.inr ⟨o, bl_of h fun _ z => by cases z⟩)
  · exact .inr h
theorem fz_bl (H : Hp) : Fz (bl H) H := ⟨fun a o e => (bl_at e).1, fun a ps e => (bl_at e).2 ps rfl⟩
theorem law_sp {T : List (Addr × Str)} {m : FnM} {H : Hp} {a : Addr} {ns : List Int} {outs : List Slot} (tab : LamX.Tabs T H) (hs : SqL K H a (ns.map V.int)) (h : m [.d (.scr ns)] = .ok (.v (.bl true)) outs) : spM ⟨K, mg, T, none⟩ m [.ref a] H (fun v _ => v = .bl true) fun _ _ _ => False := by
  refine ⟨bl H, [.d (.scr ns)], fz_bl H, tab, ⟨rfl, fun j d e => ?_, fun j s e o => ?_, fun j k s t p e1 _ o1 => ?_, fun j x e => ?_, fun j _ e => by
    cases j with
    | zero => cases e; rfl
    | succ j => simp at e⟩, ?_⟩
  rotate_left 3
  · cases j with
    | zero => cases e
    | succ j => simp at e
  rotate_left
  · cases j with
    | zero => cases e; exact ⟨_, rfl, a, rfl, sqL_bl hs⟩
    | succ j => simp at e
  · cases j with
    | zero => cases e; cases o
    | succ j => simp at e
  · cases j with
    | zero => cases e1; cases o1
    | succ j => simp at e1
  · rw [h]
    exact fun F' H' v _ r => r
end Pl
namespace Pl
open PySem PySem.Spec PyProof.Rows L2
variable {α β γ : Type} {c : Cn} {E : WX} {np : Nat}
/-! ## tuple(x), sum, all, any, += -/
section
variable {X : Cx}
def tupleD : List D → Option D
  | [.lst xs] => some (.tup xs)
  | [.tup xs] => some (.tup xs)
  | _ => none
theorem call_tupleX : CallR X (.type "tuple") (cD X.K tupleD) := by
  intro pins s σ H xs us Q I rx h
  obtain ⟨F, ds, z, fz, r, ez, k⟩ := h
  unfold tupleD at ez
  split at ez
  · rename_i es
    cases ez
    obtain ⟨v, rfl, a, vs, rfl, h2, h3⟩ := repL1 r
    refine call_tuple_of pins s σ H _ us Q I rx ⟨a, vs, rfl, .inl ⟨.of (fz.1 _ _ h2), fun l hl => ?_⟩⟩
    have g := fz.new (o := .tup vs) hl fun _ z => by cases z
    exact k _ _ _ g ⟨l, vs, rfl, .inl upd_same, h3.mono g.fs⟩
  · rename_i es
    cases ez
    obtain ⟨v, rfl, a, vs, rfl, h2, h3⟩ := repL1 r
    exact call_tuple_of pins s σ H _ us Q I rx ⟨a, vs, rfl, .inr ⟨sqT_mono fz.1 h2.sq, k F H _ fz.refl ⟨a, vs, rfl, h2, h3⟩⟩⟩
  · cases ez
def intsOf : List D → Option (List Int)
  | [] => some []
  | .int i :: r => (intsOf r).map (i :: ·)
  | _ :: _ => none
theorem ints_rep {K : PySem.W.Frag} {F : Hp} : ∀ {ds : List D} {ns : List Int} {vs : List V}, intsOf ds = some ns → RepL K F ds vs → vs = ns.map V.int
  | [], ns, vs, e, r => by
    cases e
    exact r
  | d :: ds, ns, vs, e, r => by
    cases d with
    | int i =>
      have e : (intsOf ds).map (i :: ·) = some ns := e
      cases e2 : intsOf ds with
      | none => rw [e2] at e; cases e
      | some zs =>
        rw [e2] at e
        cases e
        obtain ⟨v, us, rfl, rv, ru⟩ := r
        rw [ints_rep e2 ru, show v = .int i from rv]
        rfl
    | _ => cases e
def blsOf : List D → Option (List Bool)
  | [] => some []
  | .bl i :: r => (blsOf r).map (i :: ·)
  | _ :: _ => none
theorem bls_rep {K : PySem.W.Frag} {F : Hp} : ∀ {ds : List D} {ns : List Bool} {vs : List V}, blsOf ds = some ns → RepL K F ds vs → vs = ns.map V.bl
  | [], ns, vs, e, r => by
    cases e
    exact r
  | d :: ds, ns, vs, e, r => by
    cases d with
    | bl i =>
      have e : (blsOf ds).map (i :: ·) = some ns := e
      cases e2 : blsOf ds with
      | none => rw [e2] at e; cases e
      | some zs =>
        rw [e2] at e
        cases e
        obtain ⟨v, us, rfl, rv, ru⟩ := r
        rw [bls_rep e2 ru, show v = .bl i from rv]
        rfl
    | _ => cases e
def sumD : List D → Option D
  | [.lst xs] => (intsOf xs).map fun ns => .int ns.sum
  | _ => none
def allD : List D → Option D
  | [.lst xs] => (blsOf xs).map fun bs => .bl (bs.all id)
  | _ => none
def anyD : List D → Option D
  | [.lst xs] => (blsOf xs).map fun bs => .bl (bs.any id)
  | _ => none
theorem call_sumX (hc : X.calm = true) : CallR X (.builtin "sum") (cD X.K sumD) := by
  intro pins s σ H xs us Q I rx h
  obtain ⟨F, ds, z, fz, r, ez, k⟩ := h
  unfold sumD at ez
  split at ez
  · rename_i es
    cases e : intsOf es with
    | none => rw [e] at ez; cases ez
    | some ns =>
      rw [e] at ez
      cases ez
      obtain ⟨v, rfl, a, vs, rfl, h2, h3⟩ := repL1 r
      rw [ints_rep e h3] at h2
      exact cr_sum hc pins s σ H _ us Q I rx ⟨a, ns, rfl, .of (fz.1 _ _ h2), k F H _ fz.refl rfl⟩
  · cases ez
theorem call_allX (hc : X.calm = true) : CallR X (.builtin "all") (cD X.K allD) := by
  intro pins s σ H xs us Q I rx h
  obtain ⟨F, ds, z, fz, r, ez, k⟩ := h
  unfold allD at ez
  split at ez
  · rename_i es
    cases e : blsOf es with
    | none => rw [e] at ez; cases ez
    | some ns =>
      rw [e] at ez
      cases ez
      obtain ⟨v, rfl, a, vs, rfl, h2, h3⟩ := repL1 r
      rw [bls_rep e h3] at h2
      exact cr_all hc pins s σ H _ us Q I rx ⟨a, ns, rfl, .of (fz.1 _ _ h2), k F H _ fz.refl rfl⟩
  · cases ez
theorem call_anyX (hc : X.calm = true) : CallR X (.builtin "any") (cD X.K anyD) := by
  intro pins s σ H xs us Q I rx h
  obtain ⟨F, ds, z, fz, r, ez, k⟩ := h
  unfold anyD at ez
  split at ez
  · rename_i es
    cases e : blsOf es with
    | none => rw [e] at ez; cases ez
    | some ns =>
      rw [e] at ez
      cases ez
      obtain ⟨v, rfl, a, vs, rfl, h2, h3⟩ := repL1 r
      rw [bls_rep e h3] at h2
      exact cr_any hc pins s σ H _ us Q I rx ⟨a, ns, rfl, .of (fz.1 _ _ h2), k F H _ fz.refl rfl⟩
  · cases ez
end
/-- x += e, whole numbers -/
def sAug (g : Int → Int → Int) (i : Nat) (f : M D) : S := fun ρ => match ρ[i]? with
  | some (.d (.int a)) => (f.bind fun d ρ => match d with
    | .int b => .ok .nx (ρ.set i (.d (.int (g a b))))
    | _ => .bad) ρ
  | _ => .bad
theorem sx_aug {i : Nat} {te : TE} {f : M D} {g : Int → Int → Int} (he : Ex c E te f) : Sx c E np (tAug i te (ipI g)) (sAug g i f) := by
  intro W F H σ ρ D hn R h
  unfold sAug at h
  cases e : ρ[i]? with
  | none => rw [e] at h; exact h.elim
  | some s =>
    rw [e] at h
    cases s with
    | d x =>
      cases x with
      | int a =>
        obtain ⟨v, e1, r⟩ := R.here i _ e
        obtain rfl : v = .int a := r
        refine ⟨.int a, e1, he W F H σ ρ _ R ((SPost.bind (Rep c.K) h).mono fun y H1 ⟨d, ρ1, F1, R1, s1, r1, q⟩ => ?_)⟩
        cases d with
        | int b =>
          obtain rfl : y = .int b := r1
          refine ⟨a, b, rfl, rfl, ?_⟩
          exact q F1 H1 _ (R1.store (d := .int (g a b)) rfl i) (Same.refl _)
        | _ => exact q.elim
      | _ => exact h.elim
    | _ => exact h.elim
end Pl
namespace Pl
open PySem PySem.Spec PyProof.Rows L2
/-! ## repr -/
/-- what repr tells: nested to sixty deep, no dict, at most 100,000 signs; numbers below 2^1920 -/
def reprOk : D → Bool
  | .non => true
  | .bl _ => true
  | .int i => decide (i.natAbs.log2 < 1920)
  | .str x => decide ((reprText x).length ≤ 100000)
  | .tup xs => shape 60 (.tup xs) && (toP (.tup xs)).showable && !(toP (.tup xs)).hasDict && decide ((toP (.tup xs)).shown.length ≤ 100000)
  | .lst xs => shape 60 (.lst xs) && (toP (.lst xs)).showable && !(toP (.lst xs)).hasDict && decide ((toP (.lst xs)).shown.length ≤ 100000)
  | _ => false
def reprT : D → Str
  | .non => Str.ofString "None"
  | .bl b => if b = true then Str.ofString "True" else Str.ofString "False"
  | .int i => Str.ofString (toString i)
  | .str x => reprText x
  | d => (toP d).shown
/-! with dicts in it (and no lists) -/
def encK : Key → PyData
  | .inl i => .int i
  | .inr x => .str x
mutual
def toR : D → PyData
  | .non => .none
  | .bl b => .bool b
  | .int i => .int i
  | .str x => .str x
  | .tup xs => .tuple (toRL xs)
  | .lst xs => .list (toRL xs)
  | .dct ks ds => .dict (toRK ds ks)
  | .rf _ => .none
  | .scr _ => .none
def toRL : List D → List PyData
  | [] => []
  | x :: xs => toR x :: toRL xs
def toRK : List D → List Key → List (PyData × PyData)
  | d :: ds, k :: ks => (encK k, toR d) :: toRK ds ks
  | [], _ => []
  | _ :: _, [] => []
end
mutual
def rshape : Nat → D → Bool
  | _, .non => true
  | _, .bl _ => true
  | _, .int _ => true
  | _, .str _ => true
  | 0, _ => false
  | n + 1, .tup xs => rshapeL n xs
  | n + 1, .dct _ xs => rshapeL n xs
  | _ + 1, .lst _ => false
  | _ + 1, .rf _ => false
  | _ + 1, .scr _ => false
def rshapeL : Nat → List D → Bool
  | _, [] => true
  | n, x :: xs => rshape n x && rshapeL n xs
end
def rOk (d : D) : Bool := rshape 60 d && (toR d).showable && decide ((toR d).depth ≤ 60) && decide ((toR d).shown.length ≤ 100000)
def reprD : List D → Option D
  | [x] => if reprOk x = true then some (.str (reprT x)) else if rOk x = true then some (.str (toR x).shown) else none
  | _ => none
section
variable {X : Cx} {pins : List (Addr × Obj)} {σ : L2.St} {H : Hp} {s : Shared}
theorem key_reads {h : Heap} (k : Key) (key : Value) (e : keyIs k key = true) : Reads h key (encK k) [] := by
  rcases keyIs_shape e with ⟨i, t, rfl, rfl⟩ | ⟨x, t, rfl, rfl⟩
  · exact .int i t
  · exact .str x t
mutual
theorem reads_R (I : Inv X pins σ H s) : ∀ (n : Nat) (d : D) (x : V) (u : Value), Rep X.K H d x → RelV x u → rshape n d = true → ∃ as, Reads s.heap u (toR d) as ∧ sysModules ∉ as
  | _, .non, _, _, r, ru, _ => by cases r; cases ru; exact ⟨_, .none, List.not_mem_nil⟩
  | _, .bl b, _, _, r, ru, _ => by cases r; cases ru; exact ⟨_, .bool b, List.not_mem_nil⟩
  | _, .int i, _, _, r, ru, _ => by cases r; obtain ⟨t, rfl⟩ := ru; exact ⟨_, .int i t, List.not_mem_nil⟩
  | _, .str z, _, _, r, ru, _ => by cases r; obtain ⟨t, rfl⟩ := ru; exact ⟨_, .str z t, List.not_mem_nil⟩
  | n + 1, .tup ds, _, u, ⟨a, xs, r1, r2, r3⟩, ru, h => by
    subst r1
    cases ru
    obtain ⟨its, rv, ⟨o, ho, hc, k, hd⟩, _⟩ := I.tuple r2.sq
    obtain ⟨as, q, ns⟩ := readsL_R I n ds xs its r3 rv (by rw [rshape] at h; exact h)
    exact ⟨_, .tuple ho hc hd (by simpa using q), ns⟩
  | n + 1, .dct ks ds, _, u, ⟨a, us, r1, r2, r3, r4⟩, ru, h => by
    subst r1
    cases ru
    obtain ⟨z, hsm, vs, kv, dof⟩ := dk_of I.hok r2
    obtain ⟨bs, q, ns⟩ := readsK_R I n ds us ks vs r3 r4 kv (by rw [rshape] at h; exact h)
    refine ⟨_, PyProof.V.reads_dictOf (fun k key e => key_reads k key e) dof q, fun m => ?_⟩
    rcases List.mem_cons.mp m with m | m
    · rw [← m] at hsm; simp at hsm
    · exact ns m
  | 0, .tup _, _, _, _, _, h => by simp [rshape] at h
  | 0, .dct _ _, _, _, _, _, h => by simp [rshape] at h
  | n, .lst _, _, _, _, _, h => by cases n <;> simp [rshape] at h
  | n, .rf _, _, _, _, _, h => by cases n <;> simp [rshape] at h
  | n, .scr _, _, _, _, _, h => by cases n <;> simp [rshape] at h
theorem readsL_R (I : Inv X pins σ H s) : ∀ (n : Nat) (ds : List D) (xs : List V) (us : List Value), RepL X.K H ds xs → Vals xs us → rshapeL n ds = true → ∃ as, ReadsAll s.heap us (toRL ds) as ∧ sysModules ∉ as
  | _, [], _, us, r, rv, _ => by
    have r : _ = [] := r
    subst r
    cases rv
    exact ⟨_, .nil, List.not_mem_nil⟩
  | n, d :: ds, _, us, ⟨v, vs, r1, r2, r3⟩, rv, h => by
    subst r1
    rw [rshapeL, Bool.and_eq_true] at h
    cases rv with
    | cons p q =>
      obtain ⟨as, h1, n1⟩ := reads_R I n d v _ r2 p h.1
      obtain ⟨bs, h2, n2⟩ := readsL_R I n ds vs _ r3 q h.2
      exact ⟨_, .cons h1 h2, fun m => (List.mem_append.mp m).elim n1 n2⟩
theorem readsK_R (I : Inv X pins σ H s) : ∀ (n : Nat) (ds : List D) (us : List (Key × V)) (ks : List Key) (vs : List (Key × Value)), us.map (·.1) = ks → RepL X.K H ds (us.map (·.2)) → KV us vs → rshapeL n ds = true → ∃ bs, PyProof.V.PairsRead s.heap encK vs (toRK ds ks) bs ∧ sysModules ∉ bs
  | _, [], us, ks, vs, e, r, kv, _ => by
    have r : us.map (·.2) = [] := r
    cases us with
    | nil => cases kv; exact ⟨_, .nil, List.not_mem_nil⟩
    | cons => cases r
  | n, d :: ds, us, ks, vs, e, ⟨v, ws, r1, r2, r3⟩, kv, h => by
    cases us with
    | nil => cases r1
    | cons y us =>
      rw [List.map_cons] at r1 e
      injection r1 with r1 r1'
      rw [rshapeL, Bool.and_eq_true] at h
      subst e
      cases kv with
      | @cons _ y' _ vs p q =>
        obtain ⟨as, h1, n1⟩ := reads_R I n d v _ r2 (by rw [← r1]; exact p.2) h.1
        obtain ⟨bs, h2, n2⟩ := readsK_R I n ds us _ vs rfl (by rw [r1']; exact r3) q h.2
        obtain ⟨k, w⟩ := y'
        have pk : y.1 = k := p.1
        refine ⟨_, by rw [pk]; exact .cons h1 h2, fun m => (List.mem_append.mp m).elim n1 n2⟩
end
end
theorem sz_line {n : Nat} (h : n ≤ 100000) : n ≤ sizeLine := by rw [sizeLine_eq]; omega
theorem call_reprX {X : Cx} (hg : X.A.guards = some []) (hu : X.A.units + 64 < cLine) : CallR X (.builtin "repr") (cD X.K reprD) := by
  intro pins s σ H xs us Q I rx h
  obtain ⟨F, ds, z, fz, r, ez, k⟩ := h
  unfold reprD at ez
  split at ez
  · rename_i x
    split at ez
    · rename_i hc
      cases ez
      obtain ⟨v, rfl, rv⟩ := repL1 r
      have hK := k F H (.str (reprT x)) fz.refl rfl
      have rvH := rv.mono fz.1
      cases x with
      | non =>
        cases rvH
        cases rx with
        | cons p q =>
          cases q
          cases p
          exact PySem.P.repr_of_none ⟨.str _, H, I.kept (fun _ _ e => e), ⟨_, rfl⟩, hK⟩
      | bl b =>
        cases rvH
        cases rx with
        | cons p q =>
          cases q
          cases p
          exact PySem.P.repr_of_bool ⟨.str _, H, I.kept (fun _ _ e => e), ⟨_, rfl⟩, hK⟩
      | int i =>
        cases rvH
        cases rx with
        | cons p q =>
          cases q
          obtain ⟨t, rfl⟩ := p
          exact PySem.P.repr_of_int (of_decide_eq_true hc) ⟨.str _, H, I.kept (fun _ _ e => e), ⟨_, rfl⟩, hK⟩
      | str y =>
        cases rvH
        cases rx with
        | cons p q =>
          cases q
          obtain ⟨t, rfl⟩ := p
          exact PySem.P.repr_of_str ⟨.str _, H, I.kept (fun _ _ e => e), ⟨_, rfl⟩, hK⟩ (sz_line (of_decide_eq_true hc))
      | tup es =>
        simp only [reprOk, Bool.and_eq_true, Bool.not_eq_true', decide_eq_true_eq] at hc
        obtain ⟨⟨⟨h1, h2⟩, h3⟩, h4⟩ := hc
        obtain ⟨a, vs, rfl, r2, r3⟩ := rvH
        cases rx with
        | cons p q =>
          cases q
          obtain ⟨as, ra⟩ := reads_D I 60 (.tup es) _ _ ⟨a, vs, rfl, r2, r3⟩ p h1
          have dp := depth_D 60 _ h1
          cases p
          exact PySem.repr_of_reads' ra h2 (PyData.noDict_hsm h3) hg (by omega) (fun _ _ e => e) (fun h' u tk hk => ⟨.str _, H, I.kept hk, ⟨_, rfl⟩, hK⟩) (sz_line h4)
      | lst es =>
        simp only [reprOk, Bool.and_eq_true, Bool.not_eq_true', decide_eq_true_eq] at hc
        obtain ⟨⟨⟨h1, h2⟩, h3⟩, h4⟩ := hc
        obtain ⟨a, vs, rfl, r2, r3⟩ := rvH
        cases rx with
        | cons p q =>
          cases q
          obtain ⟨as, ra⟩ := reads_D I 60 (.lst es) _ _ ⟨a, vs, rfl, r2, r3⟩ p h1
          have dp := depth_D 60 _ h1
          cases p
          exact PySem.repr_of_reads' ra h2 (PyData.noDict_hsm h3) hg (by omega) (fun _ _ e => e) (fun h' u tk hk => ⟨.str _, H, I.kept hk, ⟨_, rfl⟩, hK⟩) (sz_line h4)
      | dct => cases hc
      | rf => cases hc
      | scr => cases hc
    · split at ez
      · rename_i hc
        cases ez
        obtain ⟨v, rfl, rv⟩ := repL1 r
        have hK := k F H (.str (toR x).shown) fz.refl rfl
        have rvH := rv.mono fz.1
        simp only [rOk, Bool.and_eq_true, decide_eq_true_eq] at hc
        obtain ⟨⟨⟨h1, h2⟩, h3⟩, h4⟩ := hc
        cases x with
        | tup es =>
          obtain ⟨a, vs, rfl, r2, r3⟩ := rvH
          cases rx with
          | cons p q =>
            cases q
            obtain ⟨as, ra, ns⟩ := reads_R I 60 (.tup es) _ _ ⟨a, vs, rfl, r2, r3⟩ p h1
            cases p
            exact PySem.repr_of_reads' ra h2 (fun _ => ns) hg (by omega) (fun _ _ e => e) (fun h' u tk hk => ⟨.str _, H, I.kept hk, ⟨_, rfl⟩, hK⟩) (sz_line h4)
        | dct ks es =>
          obtain ⟨a, vs, rfl, r2, r3⟩ := rvH
          cases rx with
          | cons p q =>
            cases q
            obtain ⟨as, ra, ns⟩ := reads_R I 60 (.dct ks es) _ _ ⟨a, vs, rfl, r2, r3⟩ p h1
            cases p
            exact PySem.repr_of_reads' ra h2 (fun _ => ns) hg (by omega) (fun _ _ e => e) (fun h' u tk hk => ⟨.str _, H, I.kept hk, ⟨_, rfl⟩, hK⟩) (sz_line h4)
        | non => rename_i nr; exact absurd rfl nr
        | bl => rename_i nr; exact absurd rfl nr
        | int i => rename_i nr; exact absurd (show decide (i.natAbs.log2 < 1920) = true by simpa [toR, PyData.showable] using h2) nr
        | str y => rename_i nr; exact absurd (show decide ((reprText y).length ≤ 100000) = true from decide_eq_true (by simpa [toR, PyData.shown] using h4)) nr
        | lst => simp [rshape] at h1
        | rf => simp [rshape] at h1
        | scr => simp [rshape] at h1
      · cases ez
  · cases ez
end Pl
namespace Pl
open PySem PySem.Spec PyProof.Rows L2
/-! ## sorted -/
def rowed : D → Bool
  | .tup (_ :: _) => true
  | _ => false
def plainD : D → Bool
  | .bl _ => true
  | .int _ => true
  | .str _ => true
  | .lst _ => true
  | _ => false
/-- data of one kind that sorted takes: no None, no dict; tuples none of them empty -/
def sortOk (ds : List D) : Bool := ds.all (shape 40) && ds.all (fun d => ds.all fun e => PySem.W.alike (toP d) (toP e)) && (ds.all rowed || ds.all plainD) && decide (ds.length ≤ 100000)
def srtLe (d e : D) : Bool := PySem.W.dataLe false toP d e
def sortedD : List D → Option (List D)
  | [.lst xs] => if sortOk xs = true then some (xs.mergeSort srtLe) else none
  | _ => none
theorem each_zip {K : PySem.W.Frag} {F : Hp} : ∀ {ds : List D} {xs : List V} {us : List Value}, RepL K F ds xs → Vals xs us → ds.all (shape 40) = true →
    PySem.W.EachIs (fun (v : Value) (p : V × D) => RelV p.1 v ∧ Rep K F p.2 p.1 ∧ shape 40 p.2 = true) us (xs.zip ds)
  | [], _, _, r, rv, _ => by
    have r : _ = [] := r
    subst r
    cases rv
    exact .nil
  | d :: ds, _, _, ⟨v, vs, r1, r2, r3⟩, rv, h => by
    subst r1
    cases rv with
    | cons p q =>
      rw [List.all_cons, Bool.and_eq_true] at h
      exact .cons ⟨p, r2, h.1⟩ (each_zip r3 q h.2)
theorem each_out {K : PySem.W.Frag} {F : Hp} : ∀ {us : List Value} {ps : List (V × D)}, PySem.W.EachIs (fun (v : Value) (p : V × D) => RelV p.1 v ∧ Rep K F p.2 p.1 ∧ shape 40 p.2 = true) us ps →
    Vals (ps.map Prod.fst) us ∧ RepL K F (ps.map Prod.snd) (ps.map Prod.fst)
  | _, _, .nil => ⟨.nil, rfl⟩
  | _, _, .cons h t => ⟨.cons h.1 (each_out t).1, _, _, rfl, h.2.1, (each_out t).2⟩
theorem zip_snd {α β : Type} : ∀ {xs : List α} {ys : List β}, ys.length = xs.length → (xs.zip ys).map Prod.snd = ys
  | [], [], _ => rfl
  | _ :: _, _ :: _, h => by
    simp only [List.zip_cons_cons, List.map_cons, List.cons.injEq, true_and]
    exact zip_snd (by simpa using h)
theorem toP_rowed {d : D} (h : rowed d = true) : ∃ x r, toP d = .tuple (x :: r) := by
  cases d with
  | tup xs =>
    cases xs with
    | nil => cases h
    | cons x xs => exact ⟨_, _, rfl⟩
  | _ => cases h
theorem toP_plain {d : D} (h : plainD d = true) : toP d ≠ .none ∧ ∀ xs, toP d ≠ .tuple xs := by
  cases d <;> first | (cases h; done) | exact ⟨fun e => (by cases e), fun _ e => (by cases e)⟩
theorem call_sortedX {X : Cx} (hu : X.A.units + 64 < cLine) : CallR X (.builtin "sorted") (nD X.K sortedD) := by
  intro pins s σ H xs us Q I rx h
  obtain ⟨F, ds, zs, fz, r, ez, k⟩ := h
  unfold sortedD at ez
  split at ez
  · rename_i es
    split at ez
    · rename_i hc
      cases ez
      simp only [sortOk, Bool.and_eq_true, Bool.or_eq_true, decide_eq_true_eq] at hc
      obtain ⟨⟨⟨h1, h2⟩, h3⟩, h4⟩ := hc
      obtain ⟨v, e, a, ys, r1, r2, r3⟩ := repL1 r
      subst e r1
      obtain ⟨its, rv, hl, _⟩ := I.list (.of (fz.1 _ _ r2))
      rw [Vals.ref1 rx]
      have ez := each_zip r3 rv h1
      have hz : (ys.zip es).map Prod.snd = es := zip_snd r3.len
      have hm : (ys.zip es).map (fun p => toP p.2) = es.map toP := by
        rw [← hz, List.map_map, hz]; rfl
      have hlen : (ys.zip es).length = es.length := by rw [← List.length_map (f := Prod.snd), hz]
      refine PySem.W.sorted_data (enc := fun p : V × D => toP p.2) hl.isList ez (ez.mono fun u p ⟨q1, q2, q3⟩ => reads_D I 40 p.2 p.1 u (q2.mono fz.1) q1 q3) ?_ ?_ (by rw [hlen]; exact sz_line h4) ?_ fun out ho hr => ?_
      · rw [hm]
        intro d hd e he
        obtain ⟨d1, hd1, rfl⟩ := List.mem_map.1 hd
        obtain ⟨e1, he1, rfl⟩ := List.mem_map.1 he
        exact List.all_eq_true.1 (List.all_eq_true.1 h2 _ hd1) _ he1
      · rw [hm]
        rcases h3 with h3 | h3
        · refine .inl fun d hd => ?_
          obtain ⟨d1, hd1, rfl⟩ := List.mem_map.1 hd
          exact toP_rowed (List.all_eq_true.1 h3 _ hd1)
        · refine .inr fun d hd => ?_
          obtain ⟨d1, hd1, rfl⟩ := List.mem_map.1 hd
          exact toP_plain (List.all_eq_true.1 h3 _ hd1)
      · intro p hp
        have := List.mem_map_of_mem (f := Prod.snd) hp
        rw [hz] at this
        have := depth_D 40 _ (List.all_eq_true.1 h1 _ this)
        omega
      · obtain ⟨q1, q2⟩ := each_out hr
        obtain ⟨ep, he'⟩ := PyProof.Rows.sortedAll_at s.heap its out.toArray
        have hs : ((ys.zip es).mergeSort (PySem.W.dataLe false fun p => toP p.2)).map Prod.snd = es.mergeSort srtLe := by
          have e := List.map_mergeSort (r := PySem.W.dataLe false fun p : V × D => toP p.2) (s := srtLe) (f := Prod.snd) (l := ys.zip es) (fun _ _ _ _ => rfl)
          rw [e, hz]
        rw [hs] at q2
        have hlz : (((ys.zip es).mergeSort (PySem.W.dataLe false fun p => toP p.2)).map Prod.fst).length ≤ sizeLine := by
          rw [List.length_map, List.length_mergeSort, hlen]; exact sz_line h4
        exact ⟨.ref _, upd H (s.heap.objs.size + 1) (.lst (((ys.zip es).mergeSort (PySem.W.dataLe false fun p => toP p.2)).map Prod.fst)), I.laid (t' := s.toks) (fun _ _ => PyProof.Rows.sortedAll_old) (Nat.le_succ _) ⟨hlz, out, ep, q1, he'⟩, rfl, k _ _ (I.hok.fresh (Nat.le_succ _)) q2⟩
    · cases ez
  · cases ez
end Pl
namespace Pl
open PySem PySem.Spec PyProof.Rows L2
variable {α β γ : Type} {c : Cn} {E : WX} {np : Nat}
/-! ## own dicts: new, x[k] = v -/
def kyD : D → Option L2.Key
  | .int i => some (.inl i)
  | .str x => some (.inr x)
  | _ => none
def kysD : List D → Option (List L2.Key)
  | [] => some []
  | d :: ds => match kyD d, kysD ds with
    | some k, some ks => some (k :: ks)
    | _, _ => none
theorem ky_rep {K : PySem.W.Frag} {F : Hp} {d : D} {k : L2.Key} {v : V} (e : kyD d = some k) (r : Rep K F d v) : v = kV k := by
  cases d with
  | int i => cases e; exact r
  | str x => cases e; exact r
  | _ => cases e
theorem kys_rep {K : PySem.W.Frag} {F : Hp} : ∀ {ds : List D} {ks : List L2.Key} {vs : List V}, kysD ds = some ks → RepL K F ds vs → vs = ks.map kV
  | [], _, _, e, r => by cases e; exact r
  | d :: ds, _, _, e, ⟨v, us, r1, r2, r3⟩ => by
    subst r1
    rw [kysD] at e
    cases e1 : kyD d with
    | none => rw [e1] at e; cases e
    | some k =>
      cases e2 : kysD ds with
      | none => rw [e1, e2] at e; cases e
      | some ks =>
        rw [e1, e2] at e
        cases e
        rw [ky_rep e1 r2, kys_rep e2 r3]
        rfl
section
variable {κ : Type} [DecidableEq κ]
def putD (kvs : List (κ × D)) (k : κ) (d : D) : List (κ × D) :=
  if (kvs.any fun kv => decide (kv.1 = k)) = true then kvs.map (fun kv => if kv.1 = k then (kv.1, d) else kv) else kvs ++ [(k, d)]
theorem any_keys {V W : Type} (k : κ) : ∀ {us : List (κ × V)} {ws : List (κ × W)}, us.map (·.1) = ws.map (·.1) → (us.any fun kv => decide (kv.1 = k)) = (ws.any fun kv => decide (kv.1 = k))
  | [], [], _ => rfl
  | u :: us, w :: ws, h => by
    rw [List.map_cons, List.map_cons, List.cons.injEq] at h
    rw [List.any_cons, List.any_cons, any_keys k h.2, h.1]
theorem map_keys {V : Type} (k : κ) (v : V) : ∀ us : List (κ × V), (us.map fun kv => if kv.1 = k then (kv.1, v) else kv).map (·.1) = us.map (·.1)
  | [] => rfl
  | u :: us => by
    rw [List.map_cons, List.map_cons, List.map_cons, map_keys k v us]
    split <;> rfl
theorem map_rep {K : PySem.W.Frag} {F : Hp} (k : κ) {d : D} {v : V} (r : Rep K F d v) : ∀ {kvs : List (κ × D)} {us : List (κ × V)}, us.map (·.1) = kvs.map (·.1) → RepL K F (kvs.map (·.2)) (us.map (·.2)) →
    RepL K F ((kvs.map fun kv => if kv.1 = k then (kv.1, d) else kv).map (·.2)) ((us.map fun kv => if kv.1 = k then (kv.1, v) else kv).map (·.2))
  | [], [], _, _ => rfl
  | w :: ws, u :: us, h, ⟨v1, vs1, e1, r1, r2⟩ => by
    rw [List.map_cons, List.map_cons, List.cons.injEq] at h
    rw [List.map_cons, List.cons.injEq] at e1
    rw [List.map_cons, List.map_cons, List.map_cons, List.map_cons]
    refine .cons ?_ (map_rep k r h.2 (by rw [e1.2]; exact r2))
    rw [h.1]
    by_cases hk : w.1 = k
    · rw [if_pos hk, if_pos hk]; exact r
    · rw [if_neg hk, if_neg hk]; rw [e1.1]; exact r1
theorem put_rep {K : PySem.W.Frag} {F : Hp} {kvs : List (κ × D)} {us : List (κ × V)} {k : κ} {d : D} {v : V} (h : us.map (·.1) = kvs.map (·.1)) (hr : RepL K F (kvs.map (·.2)) (us.map (·.2))) (r : Rep K F d v) :
    (L2.putK us k v).map (·.1) = (putD kvs k d).map (·.1) ∧ RepL K F ((putD kvs k d).map (·.2)) ((L2.putK us k v).map (·.2)) := by
  unfold L2.putK putD
  rw [any_keys k h]
  split
  · exact ⟨by rw [map_keys, map_keys, h], map_rep k r h hr⟩
  · rw [List.map_append, List.map_append, List.map_append, List.map_append, h]
    exact ⟨rfl, hr.app (.cons r .nil)⟩
end
/-- no tuple among the module's own things begins with a number -/
def NoTup (K : PySem.W.Frag) : Prop := ∀ a o its n, K.lookup a = some o → o.cls = .type "tuple" → o.data = .seq its n → ∀ i t r, its.toList ≠ Value.int i t :: r
theorem TupAt.mine {K : PySem.W.Frag} {F : Hp} {a : Addr} {i : Int} {xs : List V} (n : NoTup K) (h : TupAt K F a (.int i :: xs)) : F a = some (.tup (.int i :: xs)) := by
  rcases h with h | ⟨o, its, m, h1, h2, h3, _, h5⟩
  · exact h
  · cases e : its.toList with
    | nil => rw [e] at h5; cases h5
    | cons u us =>
      rw [e] at h5
      cases h5 with
      | cons ru _ =>
        obtain ⟨t, rfl⟩ := ru
        exact absurd e (n a o its m h1 h2 h3 i t us)
theorem frag_mem {a : Addr} {o : Obj} : ∀ {l : List (Addr × Obj)}, l.lookup a = some o → (a, o) ∈ l
  | (k, v) :: r, h => by
    rw [List.lookup_cons] at h
    cases e : a == k with
    | true =>
      rw [e] at h
      cases h
      rw [eq_of_beq e]
      exact List.mem_cons_self
    | false =>
      rw [e] at h
      exact List.mem_cons_of_mem _ (frag_mem h)
/-- looked at one by one -/
def noTupB (K : PySem.W.Frag) : Bool := K.all fun p => match p.2.data with
  | .seq its _ => match its.toList with
    | .int _ _ :: _ => decide (p.2.cls ≠ .type "tuple")
    | _ => true
  | _ => true
theorem noTup_of {K : PySem.W.Frag} (h : noTupB K = true) : NoTup K := by
  intro a o its n hk hc hd i t r e
  have m := frag_mem hk
  have z := List.all_eq_true.mp h _ m
  have z : (match o.data with
    | .seq its _ => match its.toList with
      | .int _ _ :: _ => decide (o.cls ≠ .type "tuple")
      | _ => true
    | _ => true) = true := z
  rw [hd] at z
  have z : (match its.toList with
      | .int _ _ :: _ => decide (o.cls ≠ .type "tuple")
      | _ => true) = true := z
  rw [e] at z
  exact of_decide_eq_true z hc
theorem none_of {F H : Hp} {p : Addr} (s : Same F H) (hp : H p = none) : F p = none := by
  cases e : F p with
  | none => rfl
  | some o => rw [s _ _ e] at hp; cases hp
/-- x = {} that will change: keys that are tuples; keys that are numbers and texts -/
def sNewT (i : Nat) : S := fun ρ => .ok .nx (ρ.set i (.qt []))
def sNewK (i : Nat) : S := fun ρ => .ok .nx (ρ.set i (.q []))
theorem sx_newT {i : Nat} (hi : np ≤ i) : Sx c E np (tAsg tDNewT (gName i)) (sNewT i) := by
  intro W F H σ ρ D hn R q
  exact fun p hp => q F _ _ (R.got hp (by rw [hn]; exact hi) (s := .qt []) ⟨[], upd_same, rfl, rfl, none_of R.sub hp⟩) (Same.refl _)
theorem sx_newK {i : Nat} (hi : np ≤ i) : Sx c E np (tAsg tDNewK (gName i)) (sNewK i) := by
  intro W F H σ ρ D hn R q
  exact fun p hp => q F _ _ (R.got hp (by rw [hn]; exact hi) (s := .q []) ⟨[], upd_same, rfl, rfl, none_of R.sub hp⟩) (Same.refl _)
/-- x[k] = v -/
def sSetT (i : Nat) (fk f : M D) : S := f.bind fun d ρ => if isOwn ρ i = true then (fk.bind fun k ρ => match ρ[i]?, k with
  | some (.qt kvs), .tup (.int n :: ks) => match kysD (.int n :: ks) with
    | some ks => if kvs.length < 100000 then .ok .nx (ρ.set i (.qt (putD kvs ks d))) else .bad
    | none => .bad
  | _, _ => .bad) ρ else .bad
theorem sx_setT (nt : NoTup c.K) {i : Nat} {te tk : TE} {f fk : M D} (he : Ex c E te f) (hk : Ex c E tk fk) : Sx c E np (tAsg te (gSub (tVar i) tk L2.rSetD)) (sSetT i fk f) := by
  intro W F H σ ρ D hn R h
  refine he W F H σ ρ _ R ((h.bind (Rep c.K)).mono fun v H1 ⟨d, ρ1, F1, R1, s1, r1, h1⟩ => ?_)
  have h1 : SPost c W F1 E D (if isOwn ρ1 i = true then (fk.bind fun k ρ => match ρ[i]?, k with
    | some (.qt kvs), .tup (.int n :: ks) => match kysD (.int n :: ks) with
      | some ks => if kvs.length < 100000 then .ok .nx (ρ.set i (.qt (putD kvs ks d))) else .bad
      | none => .bad
    | _, _ => .bad) ρ1 else .bad) := h1
  split at h1
  · rename_i ho
    obtain ⟨s, e, so⟩ := isOwn_at ho
    obtain ⟨p, a, _, _⟩ := (R1.here i s e).own so
    refine ⟨.ref p, a, hk W F1 H1 σ ρ1 _ R1 ((SPost.bind (Rep c.K) h1).mono fun y H2 ⟨k, ρ2, F2, R2, s2, r2, h2⟩ => ?_)⟩
    revert h2
    cases e2 : ρ2[i]? with
    | none => exact fun h2 => h2.elim
    | some s' =>
      cases s' with
      | qt kvs =>
        cases k with
        | tup ks0 =>
          cases ks0 with
          | nil => exact fun h2 => h2.elim
          | cons k0 ks =>
          by_cases hk0 : ∃ n, k0 = .int n
          rotate_left
          · intro h2
            cases k0 <;> first | exact h2.elim | exact absurd ⟨_, rfl⟩ hk0
          obtain ⟨n, rfl⟩ := hk0
          intro h2
          have h2 : SPost c W F2 E D (match kysD (.int n :: ks) with
            | some ks => if kvs.length < 100000 then .ok .nx (ρ2.set i (.qt (putD kvs ks d))) else .bad
            | none => .bad) := h2
          cases ek : kysD (.int n :: ks) with
          | none => rw [ek] at h2; exact h2.elim
          | some zs =>
            rw [ek] at h2
            have h2 : SPost c W F2 E D (if kvs.length < 100000 then .ok .nx (ρ2.set i (.qt (putD kvs zs d))) else .bad) := h2
            split at h2
            · rename_i hl
              obtain ⟨p', a', ⟨us, hp, hm, rv, fp⟩, _⟩ := R2.here i _ e2
              rw [a] at a'
              cases a'
              obtain ⟨b, ws, rfl, q1, q2⟩ := r2
              obtain ⟨v0, ws', rfl, z0, _⟩ := id q2
              obtain rfl : v0 = .int n := z0
              have eb := R2.fz.1 _ _ (q1.mine nt)
              rw [kys_rep ek q2] at eb
              have hlen : us.length = kvs.length := by rw [← List.length_map (f := (·.1)), hm, List.length_map]
              obtain ⟨g1, g2⟩ := put_rep (k := zs) hm rv (r1.mono s2)
              exact (show ∃ a H', (V.ref p) = .ref a ∧ DPut H2 a (.ref b) v H' ∧ D.nx σ H' from ⟨p, _, rfl, .t hp eb (by rw [hlen, sizeLine_eq]; omega), h2 F2 _ σ (R2.put e2 rfl a ⟨_, upd_same, g1, g2, fp⟩) (Same.refl _)⟩)
            · exact h2.elim
        | _ => exact fun h2 => h2.elim
      | _ =>
        cases k with
        | tup ks0 =>
          cases ks0 with
          | nil => exact fun h2 => h2.elim
          | cons k0 ks => cases k0 <;> exact fun h2 => h2.elim
        | _ => exact fun h2 => h2.elim
  · exact h1.elim
def sSetK (i : Nat) (fk f : M D) : S := f.bind fun d ρ => if isOwn ρ i = true then (fk.bind fun k ρ => match ρ[i]?, kyD k with
  | some (.q kvs), some k => if kvs.length < 100000 then .ok .nx (ρ.set i (.q (putD kvs k d))) else .bad
  | _, _ => .bad) ρ else .bad
theorem sx_setK {i : Nat} {te tk : TE} {f fk : M D} (he : Ex c E te f) (hk : Ex c E tk fk) : Sx c E np (tAsg te (gSub (tVar i) tk L2.rSetD)) (sSetK i fk f) := by
  intro W F H σ ρ D hn R h
  refine he W F H σ ρ _ R ((h.bind (Rep c.K)).mono fun v H1 ⟨d, ρ1, F1, R1, s1, r1, h1⟩ => ?_)
  have h1 : SPost c W F1 E D (if isOwn ρ1 i = true then (fk.bind fun k ρ => match ρ[i]?, kyD k with
    | some (.q kvs), some k => if kvs.length < 100000 then .ok .nx (ρ.set i (.q (putD kvs k d))) else .bad
    | _, _ => .bad) ρ1 else .bad) := h1
  split at h1
  · rename_i ho
    obtain ⟨s, e, so⟩ := isOwn_at ho
    obtain ⟨p, a, _, _⟩ := (R1.here i s e).own so
    refine ⟨.ref p, a, hk W F1 H1 σ ρ1 _ R1 ((SPost.bind (Rep c.K) h1).mono fun y H2 ⟨k, ρ2, F2, R2, s2, r2, h2⟩ => ?_)⟩
    revert h2
    cases e2 : ρ2[i]? with
    | none => exact fun h2 => h2.elim
    | some s' =>
      cases ek : kyD k with
      | none => cases s' <;> exact fun h2 => h2.elim
      | some z =>
        cases s' with
        | q kvs =>
          intro h2
          have h2 : SPost c W F2 E D (if kvs.length < 100000 then .ok .nx (ρ2.set i (.q (putD kvs z d))) else .bad) := h2
          split at h2
          · rename_i hl
            obtain ⟨p', a', ⟨us, hp, hm, rv, fp⟩, _⟩ := R2.here i _ e2
            rw [a] at a'
            cases a'
            obtain rfl := ky_rep ek r2
            have hlen : us.length = kvs.length := by rw [← List.length_map (f := (·.1)), hm, List.length_map]
            obtain ⟨g1, g2⟩ := put_rep (k := z) hm rv (r1.mono s2)
            exact (show ∃ a H', (V.ref p) = .ref a ∧ DPut H2 a (kV z) v H' ∧ D.nx σ H' from ⟨p, _, rfl, .k hp (by rw [hlen, sizeLine_eq]; omega), h2 F2 _ σ (R2.put e2 rfl a ⟨_, upd_same, g1, g2, fp⟩) (Same.refl _)⟩)
          · exact h2.elim
        | _ => exact fun h2 => h2.elim
  · exact h1.elim
end Pl
namespace Pl
open PySem
theorem u1 {n : Nat} (h : n + 64 < cLine) : n + 1 < cLine := by omega
end Pl
namespace Pl
open PySem PySem.Spec PyProof.Rows L2
variable {α β γ : Type} {c : Cn} {E : WX} {np : Nat}
/-! ## sorted(d), d an own dict whose keys are tuples -/
/-- all tuples are frozen -/
def fzT (F H : Hp) : Hp := fun a => match F a, H a with
  | some o, _ => some o
  | none, some (.tup xs) => some (.tup xs)
  | none, _ => none
theorem fzT_old {F H : Hp} {a : Addr} {o : HO} (e : F a = some o) : fzT F H a = some o := by unfold fzT; rw [e]
theorem fzT_cases {F H : Hp} {a : Addr} {o : HO} (e : fzT F H a = some o) : F a = some o ∨ (F a = none ∧ H a = some o ∧ ∃ xs, o = .tup xs) := by
  unfold fzT at e
  cases e1 : F a with
  | some u => rw [e1] at e; exact .inl e
  | none =>
    rw [e1] at e
    cases e2 : H a with
    | none => rw [e2] at e; cases e
    | some u =>
      rw [e2] at e
      cases u with
      | tup xs => cases e; exact .inr ⟨rfl, rfl, _, rfl⟩
      | _ => cases e
theorem Grow.tups {F H : Hp} (h : Same F H) (n : ∀ a ps, F a ≠ some (.tbl ps)) : Grow F H (fzT F H) H := by
  refine ⟨fun a u e => fzT_old e, fun a u e => ?_, fun a ps e => ?_, fun a t k o e => ?_, Same.refl _⟩
  · rcases fzT_cases e with e | ⟨_, e, _⟩
    · exact h a u e
    · exact e
  · rcases fzT_cases e with e | ⟨_, _, _, z⟩
    · exact n a ps e
    · cases z
  · rcases fzT_cases e with e | ⟨_, _, z⟩
    · exact t o e
    · exact z
theorem fzT_tup {F H : Hp} (h : Same F H) {a : Addr} {xs : List V} (e : H a = some (.tup xs)) : fzT F H a = some (.tup xs) := by
  unfold fzT
  cases e1 : F a with
  | some u => rw [h a u e1] at e; exact e
  | none => rw [e]
def keyD : L2.Key → D
  | .inl i => .int i
  | .inr x => .str x
def kP : L2.Key → PyData
  | .inl i => .int i
  | .inr x => .str x
def tupK (ks : List L2.Key) : D := .tup (ks.map keyD)
theorem toPL_keys : ∀ ks : List L2.Key, toPL (ks.map keyD) = ks.map kP
  | [] => rfl
  | k :: ks => by
    rw [List.map_cons, List.map_cons, toPL, toPL_keys ks]
    cases k <;> rfl
theorem toP_tupK (ks : List L2.Key) : toP (tupK ks) = .tuple (ks.map kP) := by
  show PyData.tuple (toPL (ks.map keyD)) = _
  rw [toPL_keys]
theorem repL_keys {K : PySem.W.Frag} {F : Hp} : ∀ ks : List L2.Key, RepL K F (ks.map keyD) (ks.map kV)
  | [] => rfl
  | k :: ks => ⟨_, _, rfl, by cases k <;> rfl, repL_keys ks⟩
theorem reads_keys {h : Heap} : ∀ {ks : List L2.Key} {its : List Value}, Vals (ks.map kV) its → ReadsAll h its (ks.map kP) []
  | [], _, r => by cases r; exact .nil
  | k :: ks, _, r => by
    cases r with
    | cons p q =>
      cases k with
      | inl i =>
        obtain ⟨t, rfl⟩ := p
        exact .cons (.int i t) (reads_keys q)
      | inr x =>
        obtain ⟨t, rfl⟩ := p
        exact .cons (.str x t) (reads_keys q)
theorem each_map' {R : Value → β → Prop} (f : β → Value) : ∀ xs : List β, (∀ x ∈ xs, R (f x) x) → PySem.W.EachIs R (xs.map f) xs
  | [], _ => .nil
  | x :: xs, h => .cons (h x (List.mem_cons_self ..)) (each_map' f xs fun y hy => h y (List.mem_cons_of_mem _ hy))
theorem vals_refs {β : Type} {f : β → Addr} {P : β → Prop} : ∀ {us : List Value} {xs : List β}, PySem.W.EachIs (fun v x => v = .ref (f x) ∧ P x) us xs → Vals (xs.map fun x => V.ref (f x)) us ∧ ∀ x ∈ xs, P x
  | _, _, .nil => ⟨.nil, fun _ h => by cases h⟩
  | _, _, .cons h t => ⟨.cons h.1 (vals_refs t).1, fun y hy => by
    rcases List.mem_cons.1 hy with rfl | hy
    · exact h.2
    · exact (vals_refs t).2 y hy⟩
theorem kt_all {H : Hp} {l : List (List L2.Key × V)} {m : List (List L2.Key × Addr × Value)} (q : KT H l m) : (∀ x ∈ m, H x.2.1 = some (.tup (x.1.map kV))) ∧ m.map (fun x => tupK x.1) = l.map (fun x => tupK x.1) := by
  induction q with
  | nil => exact ⟨fun _ h => (by cases h), rfl⟩
  | @cons p r ps rs h t ih =>
    refine And.intro (fun x hx => ?_) ?_
    · rcases List.mem_cons.1 hx with rfl | hx
      · rw [← h.1]; exact h.2.1
      · exact ih.1 x hx
    · rw [List.map_cons, List.map_cons, ih.2, h.1]
/-- sorted of a dict whose keys are tuples -/
def rSortDT : List V → Hp → VK → Prop := fun vs H Q => ∃ (a : Addr) (kvs : List (List L2.Key × V)), vs = [.ref a] ∧ H a = some (.dT kvs) ∧ sortOk (kvs.map fun kv => tupK kv.1) = true ∧
  ∀ (ys : List (List L2.Key × Addr × Value)) (p : Addr), (∀ y ∈ ys, H y.2.1 = some (.tup (y.1.map kV))) → ys.map (fun y => tupK y.1) = (kvs.map fun kv => tupK kv.1).mergeSort srtLe → H p = none → Q (.ref p) (upd H p (.lst (ys.map fun y => V.ref y.2.1)))
theorem call_sortedDT {X : Cx} (hc : X.calm = true) (hu : X.A.units + 64 < cLine) : CallR X (.builtin "sorted") rSortDT := by
  intro pins s σ H xs us Q I rx h
  obtain ⟨a, kvs, rfl, ha, ok, k⟩ := h
  rw [Vals.ref1 rx]
  obtain ⟨z, lo, xs, kt, o, es, ep, g1, g2, g3, g4, g5, g6⟩ := dt_rd I.hok (.inl ha)
  obtain ⟨hk, hmap⟩ := kt_all kt
  simp only [sortOk, Bool.and_eq_true, Bool.or_eq_true, decide_eq_true_eq] at ok
  obtain ⟨⟨⟨h1, h2⟩, h3⟩, h4⟩ := ok
  rw [← hmap] at h1 h2 h3 h4
  rw [List.length_map] at h4
  have hes : es.size = xs.length := by rw [← Array.length_toList, g4, List.length_map]
  refine Calls.call_function_entry PyProof.Rows.kind_sorted PyProof.Rows.plain_sorted PyProof.Rows.entry_sorted (PyProof.Rows.args_sorted1 _) ?_
  unfold Builtin.«sorted»
  refine wpAny_bind (m := checkCount "sorted" 1 1 _) (wpAny_pure ?_)
  refine wpAny_bind (PySem.W.kdu_collect (A := X.A.in1) (KdlSrc.rawDict (es := es) (ep := ep) lo) (I.ok.hd hc) ⟨o, g1, g2, g3⟩ (by rw [hes]; exact sz_line h4) fun h' tk acc hkp hacc => ?_)
  have hal : acc.toList = xs.map fun x => Value.ref x.2.1 := by
    refine List.ext_getElem? fun j => ?_
    cases e : acc.toList[j]? with
    | none =>
      rw [List.getElem?_eq_none_iff, Array.length_toList, hacc.1, hes] at e
      rw [List.getElem?_eq_none (by rw [List.length_map]; exact e)]
    | some v =>
      obtain ⟨hi, rfl⟩ := hacc.2 j v (by rw [← Array.getElem?_toList]; exact e)
      have e2 : es.toList[j]? = some es[j] := by rw [Array.getElem?_toList]; exact Array.getElem?_eq_getElem hi
      rw [g4, List.getElem?_map] at e2
      rw [List.getElem?_map]
      cases e3 : xs[j]? with
      | none => rw [e3] at e2; cases e2
      | some x =>
        rw [e3] at e2
        have e2 : entryOfKey _ x = es[j] := Option.some.inj e2
        rw [← e2]
        rfl
  have I1 : Inv X pins σ H { s with heap := h', toks := tk } := I.kept hkp
  have hlen : acc.toList.length = xs.length := by rw [hal, List.length_map]
  refine wpAny_bind (wpAny_newList ?_ (by rw [hlen]; exact sz_line h4))
  have hoL : (h'.push (seqObj "list" acc.toList.toArray 0)).get? h'.objs.size = some (seqObj "list" acc.toList.toArray 0) := Heap.get?_push_size _ rfl
  show wpAny _ _ _ _ _ { s with heap := h'.push (seqObj "list" acc.toList.toArray 0), toks := tk }
  have hm : xs.map (fun x => (PyData.tuple (x.1.map kP))) = (xs.map fun x => tupK x.1).map toP := by
    rw [List.map_map]
    exact List.map_congr_left fun x _ => (toP_tupK x.1).symm
  have hE : PySem.W.EachIs (fun (v : Value) (x : List L2.Key × Addr × Value) => v = .ref x.2.1 ∧ H x.2.1 = some (.tup (x.1.map kV))) acc.toList xs := by
    rw [hal]
    exact each_map' _ xs fun x hx => ⟨rfl, hk x hx⟩
  refine wpAny_bind (wpAny_holding (wpAny_mono (PySem.W.list_sort_data (A := X.A.in1) (s := { s with heap := h'.push (seqObj "list" acc.toList.toArray 0), toks := tk }) (enc := fun x : List L2.Key × Addr × Value => .tuple (x.1.map kP)) (bs := xs)
    (Q := fun _ s' => ∃ out, out.length = xs.length ∧ PySem.W.EachIs (fun (v : Value) (x : List L2.Key × Addr × Value) => v = .ref x.2.1 ∧ H x.2.1 = some (.tup (x.1.map kV))) out (xs.mergeSort (PySem.W.dataLe false fun x => .tuple (x.1.map kP))) ∧
      s' = { s with heap := sortedHeap (h'.push (seqObj "list" acc.toList.toArray 0)) h'.objs.size acc.toList (List.toArray out), toks := tk })
    hoL hE (hE.mono fun v x ⟨q1, q2⟩ => by
      obtain ⟨_, its, r, ob, e1, e2, n, e3⟩ := (show ObjOk X.prog X.w H h' x.2.1 (.tup (x.1.map kV)) from I1.hok _ _ q2)
      rw [q1]
      exact ⟨[], .tuple (Heap.get?_push_of_some _ e1) e2 e3 (by simpa using reads_keys r), fun z => by cases z⟩) ?_ ?_ (sz_line h4) ?_ fun out ho hr => ⟨out, ho, hr, rfl⟩) (fun _ s' x => ?_) fun _ _ e => e))
  · rw [hm]
    intro d hd e he
    obtain ⟨d1, hd1, rfl⟩ := List.mem_map.1 hd
    obtain ⟨e1, he1, rfl⟩ := List.mem_map.1 he
    exact List.all_eq_true.1 (List.all_eq_true.1 h2 _ hd1) _ he1
  · rw [hm]
    rcases h3 with h3 | h3
    · refine .inl fun d hd => ?_
      obtain ⟨d1, hd1, rfl⟩ := List.mem_map.1 hd
      exact toP_rowed (List.all_eq_true.1 h3 _ hd1)
    · refine .inr fun d hd => ?_
      obtain ⟨d1, hd1, rfl⟩ := List.mem_map.1 hd
      exact toP_plain (List.all_eq_true.1 h3 _ hd1)
  · intro x hx
    have := depth_D 40 _ (List.all_eq_true.1 h1 _ (List.mem_map_of_mem (f := fun x : List L2.Key × Addr × Value => tupK x.1) hx))
    rw [toP_tupK] at this
    show X.A.units + 1 + 1 + (PyData.tuple (x.1.map kP)).depth < cLine
    omega
  · obtain ⟨out, ho, hr, rfl⟩ := x
    obtain ⟨q1, q2⟩ := vals_refs (f := fun x : List L2.Key × Addr × Value => x.2.1) (P := fun x => H x.2.1 = some (.tup (x.1.map kV))) hr
    obtain ⟨e', he'⟩ := PyProof.Rows.sortedHeap_at (vs := acc.toList) (out := List.toArray out) hoL
    have hz : ((xs.mergeSort (PySem.W.dataLe false fun x => .tuple (x.1.map kP))).map fun x => V.ref x.2.1).length ≤ sizeLine := by
      rw [List.length_map, List.length_mergeSort]; exact sz_line h4
    have hs : (xs.mergeSort (PySem.W.dataLe false fun x => .tuple (x.1.map kP))).map (fun y => tupK y.1) = (kvs.map fun kv => tupK kv.1).mergeSort srtLe := by
      have e := List.map_mergeSort (r := PySem.W.dataLe false fun x : List L2.Key × Addr × Value => .tuple (x.1.map kP)) (s := srtLe) (f := fun y => tupK y.1) (l := xs) (fun a _ b _ => by
        show PySem.W.dataLe false (fun x : List L2.Key × Addr × Value => .tuple (x.1.map kP)) a b = PySem.W.dataLe false toP (tupK a.1) (tupK b.1)
        simp only [PySem.W.dataLe_eq, toP_tupK])
      rw [e, hmap]
    refine wpAny_pure ⟨_, rfl, .ref h'.objs.size, upd H h'.objs.size (.lst _), I1.laid (t' := tk) (fun b u e => ?_) (Nat.le_refl _)
      (show ObjOk X.prog X.w _ _ _ (.lst _) from ⟨hz, out, e', q1, he'⟩), rfl, k _ _ q2 hs (I1.hok.fresh (Nat.le_refl _))⟩
    have hb : b < h'.objs.size := Heap.lt_size e
    rw [PyProof.Rows.sortedHeap_old (Nat.ne_of_lt hb) (by rw [size_push']; exact Nat.lt_succ_of_lt hb)]
    exact Heap.get?_push_of_some _ e
/-- sorted(x), x an own dict whose keys are tuples -/
def eSortT (i : Nat) : M (List D) := fun ρ => match ρ[i]? with
  | some (.qt kvs) => if sortOk (kvs.map fun kv => tupK kv.1) = true then .ok ((kvs.map fun kv => tupK kv.1).mergeSort srtLe) ρ else .bad
  | _ => .bad
theorem repL_ys {K : PySem.W.Frag} {F : Hp} : ∀ ys : List (List L2.Key × Addr × Value), (∀ y ∈ ys, F y.2.1 = some (.tup (y.1.map kV))) → RepL K F (ys.map fun y => tupK y.1) (ys.map fun y => V.ref y.2.1)
  | [], _ => rfl
  | y :: ys, h => ⟨_, _, rfl, ⟨_, _, rfl, .inl (h y (List.mem_cons_self ..)), repL_keys _⟩, repL_ys ys fun z hz => h z (List.mem_cons_of_mem _ hz)⟩
theorem ef_sortT {i : Nat} : Ef c E (tCB rSortDT (tCons (tVar i) tNil)) (eSortT i) := by
  intro W F H σ ρ Q R h
  unfold eSortT at h
  cases e : ρ[i]? with
  | none => rw [e] at h; exact h.elim
  | some s =>
    rw [e] at h
    cases s with
    | qt kvs =>
      have h : PostF c W F σ E (if sortOk (kvs.map fun kv => tupK kv.1) = true then .ok ((kvs.map fun kv => tupK kv.1).mergeSort srtLe) ρ else .bad) Q := h
      split at h
      · rename_i ok
        obtain ⟨p, a, ⟨us, hp, hm, rv, fp⟩, _⟩ := R.here i _ e
        have em : (us.map fun kv => tupK kv.1) = kvs.map fun kv => tupK kv.1 := by
          have := congrArg (List.map tupK) hm
          rw [List.map_map, List.map_map] at this
          exact this
        have R1 := R.grow (Grow.tups R.sub R.nt)
        refine ⟨.ref p, a, p, us, rfl, hp, by rw [em]; exact ok, fun ys q h1 h2 hq => ?_⟩
        have h2 : ys.map (fun y => tupK y.1) = (kvs.map fun kv => tupK kv.1).mergeSort srtLe := by rw [← em]; exact h2
        have rr := repL_ys (K := c.K) (F := fzT F H) ys fun y hy => fzT_tup R.sub (h1 y hy)
        rw [h2] at rr
        obtain ⟨R2, fr⟩ := R1.lay hq rr
        exact h _ _ q R2 (Grow.tups R.sub R.nt).fs fr
      · exact h.elim
    | _ => exact h.elim
end Pl
namespace Pl
open PySem PySem.Spec PyProof.Rows L2
variable {α β γ : Type} {c : Cn} {E : WX} {np : Nat}
/-! ## sorted(d), d an own dict whose keys are numbers or texts -/
theorem each_at {R : Value → β → Prop} : ∀ {us : List Value} {bs : List β}, us.length = bs.length → (∀ (j : Nat) (v : Value) (b : β), us[j]? = some v → bs[j]? = some b → R v b) → PySem.W.EachIs R us bs
  | [], [], _, _ => .nil
  | u :: us, b :: bs, hl, h => .cons (h 0 u b rfl rfl) (each_at (by simpa using hl) fun j v x e1 e2 => h (j + 1) v x (by simpa using e1) (by simpa using e2))
  | [], _ :: _, hl, _ => by simp at hl
  | _ :: _, [], hl, _ => by simp at hl
theorem vals_keys : ∀ {us : List Value} {ks : List L2.Key}, PySem.W.EachIs (fun v k => RelV (kV k) v) us ks → Vals (ks.map kV) us
  | _, _, .nil => .nil
  | _, _, .cons h t => .cons h (vals_keys t)
theorem toP_key (k : L2.Key) : toP (keyD k) = kP k := by cases k <;> rfl
theorem reads_key {h : Heap} {k : L2.Key} {v : Value} (r : RelV (kV k) v) : Reads h v (kP k) [] := by
  cases k with
  | inl i => obtain ⟨t, rfl⟩ := r; exact .int i t
  | inr x => obtain ⟨t, rfl⟩ := r; exact .str x t
def rSortDK : List V → Hp → VK → Prop := fun vs H Q => ∃ (a : Addr) (kvs : List (L2.Key × V)), vs = [.ref a] ∧ H a = some (.dK kvs) ∧ sortOk (kvs.map fun kv => keyD kv.1) = true ∧
  ∀ (ys : List L2.Key) (p : Addr), ys.map keyD = (kvs.map fun kv => keyD kv.1).mergeSort srtLe → H p = none → Q (.ref p) (upd H p (.lst (ys.map kV)))
theorem call_sortedDK {X : Cx} (hc : X.calm = true) (hu : X.A.units + 64 < cLine) : CallR X (.builtin "sorted") rSortDK := by
  intro pins s σ H xs us Q I rx h
  obtain ⟨a, kvs, rfl, ha, ok, k⟩ := h
  rw [Vals.ref1 rx]
  obtain ⟨z, lo, vs, rel, dd⟩ := dk_rd I.hok (.inl ha)
  obtain ⟨ep, hat⟩ := dd.dictAt
  have hkeys : vs.map (·.1) = kvs.map (·.1) := rel.keys.symm
  have hmap : (vs.map (·.1)).map keyD = kvs.map fun kv => keyD kv.1 := by rw [hkeys, List.map_map]; rfl
  simp only [sortOk, Bool.and_eq_true, Bool.or_eq_true, decide_eq_true_eq] at ok
  obtain ⟨⟨⟨h1, h2⟩, h3⟩, h4⟩ := ok
  rw [← hmap] at h1 h2 h3 h4
  rw [List.length_map, List.length_map] at h4
  refine Calls.call_function_entry PyProof.Rows.kind_sorted PyProof.Rows.plain_sorted PyProof.Rows.entry_sorted (PyProof.Rows.args_sorted1 _) ?_
  unfold Builtin.«sorted»
  refine wpAny_bind (m := checkCount "sorted" 1 1 _) (wpAny_pure ?_)
  refine wpAny_bind (PySem.W.kdu_collect (A := X.A.in1) (PySem.W.kdl_dict (knd := mixKind X.prog X.w) (kvs := vs) (ep := ep) lo) (I.ok.hd hc) hat (sz_line h4) fun h' tk acc hkp hacc => ?_)
  have hlen : acc.toList.length = (vs.map (·.1)).length := by rw [Array.length_toList, hacc.1, List.length_map]
  have hE : PySem.W.EachIs (fun (v : Value) (k : L2.Key) => RelV (kV k) v) acc.toList (vs.map (·.1)) := each_at hlen fun j v b e1 e2 => by
    obtain ⟨k, x, e3, e4⟩ := hacc.2 j v (by rw [← Array.getElem?_toList]; exact e1)
    rw [List.getElem?_map, e3] at e2
    have e2 : k = b := Option.some.inj e2
    subst e2
    rcases keyIs_shape e4 with ⟨i, t, ek, ev⟩ | ⟨z, t, ek, ev⟩
    · subst ek
      exact ⟨t, ev⟩
    · subst ek
      exact ⟨t, ev⟩
  have I1 : Inv X pins σ H { s with heap := h', toks := tk } := I.kept hkp
  have hl4 : (vs.map (·.1)).length ≤ sizeLine := by rw [List.length_map]; exact sz_line h4
  refine wpAny_bind (wpAny_newList ?_ (by rw [hlen]; exact hl4))
  have hoL : (h'.push (seqObj "list" acc.toList.toArray 0)).get? h'.objs.size = some (seqObj "list" acc.toList.toArray 0) := Heap.get?_push_size _ rfl
  show wpAny _ _ _ _ _ { s with heap := h'.push (seqObj "list" acc.toList.toArray 0), toks := tk }
  have hm : (vs.map (·.1)).map kP = ((vs.map (·.1)).map keyD).map toP := by
    rw [List.map_map (f := keyD)]
    exact List.map_congr_left fun x _ => (toP_key x).symm
  refine wpAny_bind (wpAny_holding (wpAny_mono (PySem.W.list_sort_data (A := X.A.in1) (s := { s with heap := h'.push (seqObj "list" acc.toList.toArray 0), toks := tk }) (enc := kP) (bs := vs.map (·.1))
    (Q := fun _ s' => ∃ out, out.length = (vs.map (·.1)).length ∧ PySem.W.EachIs (fun (v : Value) (k : L2.Key) => RelV (kV k) v) out ((vs.map (·.1)).mergeSort (PySem.W.dataLe false kP)) ∧
      s' = { s with heap := sortedHeap (h'.push (seqObj "list" acc.toList.toArray 0)) h'.objs.size acc.toList (List.toArray out), toks := tk })
    hoL hE (hE.mono fun v x q1 => ⟨[], reads_key q1, fun z => by cases z⟩) ?_ ?_ hl4 ?_ fun out ho hr => ⟨out, ho, hr, rfl⟩) (fun _ s' x => ?_) fun _ _ e => e))
  · rw [hm]
    intro d hd e he
    obtain ⟨d1, hd1, rfl⟩ := List.mem_map.1 hd
    obtain ⟨e1, he1, rfl⟩ := List.mem_map.1 he
    exact List.all_eq_true.1 (List.all_eq_true.1 h2 _ hd1) _ he1
  · rw [hm]
    rcases h3 with h3 | h3
    · refine .inl fun d hd => ?_
      obtain ⟨d1, hd1, rfl⟩ := List.mem_map.1 hd
      exact toP_rowed (List.all_eq_true.1 h3 _ hd1)
    · refine .inr fun d hd => ?_
      obtain ⟨d1, hd1, rfl⟩ := List.mem_map.1 hd
      exact toP_plain (List.all_eq_true.1 h3 _ hd1)
  · intro x hx
    have := depth_D 40 _ (List.all_eq_true.1 h1 _ (List.mem_map_of_mem (f := keyD) hx))
    rw [toP_key] at this
    show X.A.units + 1 + 1 + (kP x).depth < cLine
    omega
  · obtain ⟨out, ho, hr, rfl⟩ := x
    have q1 := vals_keys hr
    obtain ⟨e', he'⟩ := PyProof.Rows.sortedHeap_at (vs := acc.toList) (out := List.toArray out) hoL
    have hz : (((vs.map (·.1)).mergeSort (PySem.W.dataLe false kP)).map kV).length ≤ sizeLine := by
      rw [List.length_map, List.length_mergeSort]; exact hl4
    have hs : ((vs.map (·.1)).mergeSort (PySem.W.dataLe false kP)).map keyD = (kvs.map fun kv => keyD kv.1).mergeSort srtLe := by
      have e := List.map_mergeSort (r := PySem.W.dataLe false kP) (s := srtLe) (f := keyD) (l := vs.map (·.1)) (fun a _ b _ => by
        show PySem.W.dataLe false kP a b = PySem.W.dataLe false toP (keyD a) (keyD b)
        simp only [PySem.W.dataLe_eq, toP_key])
      rw [e, hmap]
    refine wpAny_pure ⟨_, rfl, .ref h'.objs.size, upd H h'.objs.size (.lst _), I1.laid (t' := tk) (fun b u e => ?_) (Nat.le_refl _)
      (show ObjOk X.prog X.w _ _ _ (.lst _) from ⟨hz, out, e', q1, he'⟩), rfl, k _ _ hs (I1.hok.fresh (Nat.le_refl _))⟩
    have hb : b < h'.objs.size := Heap.lt_size e
    rw [PyProof.Rows.sortedHeap_old (Nat.ne_of_lt hb) (by rw [size_push']; exact Nat.lt_succ_of_lt hb)]
    exact Heap.get?_push_of_some _ e
def eSortK (i : Nat) : M (List D) := fun ρ => match ρ[i]? with
  | some (.q kvs) => if sortOk (kvs.map fun kv => keyD kv.1) = true then .ok ((kvs.map fun kv => keyD kv.1).mergeSort srtLe) ρ else .bad
  | _ => .bad
theorem ef_sortK {i : Nat} : Ef c E (tCB rSortDK (tCons (tVar i) tNil)) (eSortK i) := by
  intro W F H σ ρ Q R h
  unfold eSortK at h
  cases e : ρ[i]? with
  | none => rw [e] at h; exact h.elim
  | some s =>
    rw [e] at h
    cases s with
    | q kvs =>
      have h : PostF c W F σ E (if sortOk (kvs.map fun kv => keyD kv.1) = true then .ok ((kvs.map fun kv => keyD kv.1).mergeSort srtLe) ρ else .bad) Q := h
      split at h
      · rename_i ok
        obtain ⟨p, a, ⟨us, hp, hm, rv, fp⟩, _⟩ := R.here i _ e
        have em : (us.map fun kv => keyD kv.1) = kvs.map fun kv => keyD kv.1 := by
          have := congrArg (List.map keyD) hm
          rw [List.map_map, List.map_map] at this
          exact this
        refine ⟨.ref p, a, p, us, rfl, hp, by rw [em]; exact ok, fun ys q h2 hq => ?_⟩
        have h2 : ys.map keyD = (kvs.map fun kv => keyD kv.1).mergeSort srtLe := by rw [← em]; exact h2
        have rr : RepL c.K F (ys.map keyD) (ys.map kV) := repL_keys ys
        rw [h2] at rr
        obtain ⟨R2, fr⟩ := R.lay hq rr
        exact h _ _ q R2 (Same.refl _) fr
      · exact h.elim
    | _ => exact h.elim
end Pl
namespace Pl
open PySem PySem.Spec PyProof.Rows L2
variable {α β γ : Type} {c : Cn} {E : WX} {np : Nat}
section
variable {W : Fm} {F H : Hp} {σ : L2.St} {ρ : Env}
/-- an own thing that no name has yet comes to a name -/
theorem Rel.namedQ {p : Addr} {s : Slot} {i : Nat} (R : Rel c W F H σ ρ) (own : Own c F H p s) (h0 : W.H0 p = none) (no : ∀ (j : Nat) (t : Slot), ρ[j]? = some t → t.own = true → σ[j]? ≠ some (some (.ref p))) (hi : W.np ≤ i) : Rel c W F H (σ.set i (some (.ref p))) (ρ.set i s) := by
  have ne := no
  refine ⟨R.sub, R.nt, R.tab, by rw [List.length_set, List.length_set, R.len], fun j t e => ?_, fun j k t u q e1 e2 o1 o2 a1 a2 => ?_, R.wb, fun j q m => ⟨(R.pa j q m).1, fun t e ot => ?_⟩, fun j t q hj e ot a => ?_, R.st, R.kp, R.f0, R.nf⟩
  · rcases set_at e with ⟨e1, e2, e3⟩ | ⟨e1, e2⟩
    · subst e1 e3
      exact .of_own (s := s) (List.getElem?_set_self (by rw [R.len]; exact e2)) own (R.wb p h0)
    · rw [List.getElem?_set_ne e1]
      exact R.here j t e2
  · rcases set_at e1 with ⟨n1, l1, z1⟩ | ⟨n1, e1⟩
    · rcases set_at e2 with ⟨n2, l2, z2⟩ | ⟨n2, e2⟩
      · rw [← n1, ← n2]
      · subst n1
        rw [List.getElem?_set_self (by rw [R.len]; exact l1)] at a1
        rw [List.getElem?_set_ne n2] at a2
        cases a1
        exact absurd a2 (ne k u e2 o2)
    · rw [List.getElem?_set_ne n1] at a1
      rcases set_at e2 with ⟨n2, l2, z2⟩ | ⟨n2, e2⟩
      · subst n2
        rw [List.getElem?_set_self (by rw [R.len]; exact l2)] at a2
        cases a2
        exact absurd a1 (ne j t e1 o1)
      · rw [List.getElem?_set_ne n2] at a2
        exact R.dis j k t u q e1 e2 o1 o2 a1 a2
  · rcases set_at e with ⟨n1, _, _⟩ | ⟨n1, e1⟩
    · have := (R.pa j q m).1
      omega
    · rw [List.getElem?_set_ne n1]
      exact (R.pa j q m).2 t e1 ot
  · rcases set_at e with ⟨n1, l1, _⟩ | ⟨n1, e1⟩
    · subst n1
      rw [List.getElem?_set_self (by rw [R.len]; exact l1)] at a
      cases a
      exact h0
    · rw [List.getElem?_set_ne n1] at a
      exact R.lo j t q hj e1 ot a
end
/-- x = {k: v} that will change, the key a number or a text -/
def sNewK1 (i : Nat) (fk fv : M D) : S := fun ρ => match fk ρ with
  | .ok k ρ1 => match fv ρ1 with
    | .ok d ρ2 => match kyD k with
      | some k => .ok .nx (ρ2.set i (.q [(k, d)]))
      | none => .bad
    | _ => .bad
  | _ => .bad
theorem sx_newK1 {i : Nat} {tk tv : TE} {fk fv : M D} (hi : np ≤ i) (hk : Ex c E tk fk) (hv : Ex c E tv fv) : Sx c E np (tAsg (tDisp [(tk, tv)]) (gName i)) (sNewK1 i fk fv) := by
  intro W F H σ ρ D hn R q
  obtain ⟨k, ρ1, d, ρ2, z, e1, e2, e3, q⟩ : ∃ k ρ1 d ρ2 z, fk ρ = .ok k ρ1 ∧ fv ρ1 = .ok d ρ2 ∧ kyD k = some z ∧ SPost c W F E D (.ok .nx (ρ2.set i (.q [(z, d)]))) := by
    unfold sNewK1 at q
    cases e1 : fk ρ with
    | ex e ρ1 => rw [e1] at q; exact q.elim
    | bad => rw [e1] at q; exact q.elim
    | ok k ρ1 =>
      rw [e1] at q
      have q : SPost c W F E D (match fv ρ1 with
        | .ok d ρ2 => match kyD k with
          | some k => .ok .nx (ρ2.set i (.q [(k, d)]))
          | none => .bad
        | _ => .bad) := q
      cases e2 : fv ρ1 with
      | ex e ρ2 => rw [e2] at q; exact q.elim
      | bad => rw [e2] at q; exact q.elim
      | ok d ρ2 =>
        rw [e2] at q
        have q : SPost c W F E D (match kyD k with
          | some k => .ok .nx (ρ2.set i (.q [(k, d)]))
          | none => .bad) := q
        cases e3 : kyD k with
        | none => rw [e3] at q; exact q.elim
        | some z => rw [e3] at q; exact ⟨k, ρ1, d, ρ2, z, rfl, e2, e3, q⟩
  intro p hp
  have h0 : W.H0 p = none := R.st p (bl_none hp)
  have hB : W.B p := R.wb p h0
  have hF0 : W.F0 p = none := by
    cases e : W.F0 p with
    | none => rfl
    | some o =>
      have := R.sub p o (R.f0 p o e)
      rw [hp] at this
      cases this
  have R1 := R.grow (Grow.side (o := .dK []) R.sub R.nt hp)
  have R2 := R1.ward upd_same (fun _ z => by cases z) (none_of R.sub hp) h0 (R.nobody hp)
  refine hk _ F _ σ ρ _ R2 ?_
  rw [e1]
  intro F1 H1 x R3 s1 r1
  refine hv _ F1 H1 σ ρ1 _ R3 ?_
  rw [e2]
  intro F2 H2 y R4 s2 r2
  obtain ⟨R5, e5, f5, n5⟩ := R4.unward (fun _ z => by cases z) (fun _ z => by cases z) h0 hF0 hB
  refine ⟨e5, [(z, y)], by rw [ky_rep e3 (r1.mono s2)]; rfl, by show 1 ≤ 15; decide, ?_⟩
  have R6 := R5.write e5 (fun _ z => by cases z) (fun _ z => by cases z) (o' := .dK (mergeK [] [(z, y)])) (fun _ z => by cases z) f5 hB (fun j t q ot a => absurd a (n5 j t q ot))
  exact q F2 _ _ (R6.namedQ (s := .q [(z, d)]) ⟨[(z, y)], upd_same, rfl, ⟨y, [], rfl, r2, rfl⟩, f5⟩ h0 n5 (by rw [hn]; exact hi)) (s1.trans s2)
end Pl
namespace Pl
open PySem PySem.Spec PyProof.Rows L2 LamX
/-! ## the end of a law whose defs want to know that no repr is under way -/
theorem FnG.any {b : Bool} {P : Program} {w : World} {K : PySem.W.Frag} {mg : Str → Option Value} {base : Heap} {k : Nat} {f : Addr} {fd : FuncData} {ps : List Str} {sp : Sp} (F : FnG false P w K mg base k f fd ps sp) : FnG b P w K mg base k f fd ps sp :=
  ⟨F.many, fun A outer s H args us vs Q E hr _ => F.goes A outer s H args us vs Q E hr (fun z => by cases z)⟩
/-- the law's call as it is looked at: its script (if the written part has it not), the tables -/
def callH (mine : Bool) (a : Addr) (ts : List Addr) (o : Obj) (ns : List Int) : Hp := fun b =>
  if mine = true ∧ b = a then some (.frz o (.lst (ns.map V.int))) else if b ∈ ts then some (.tbl #[]) else none
section
variable {mine : Bool} {a : Addr} {ts : List Addr} {o : Obj} {ns : List Int}
theorem callH_cases (b : Addr) : (mine = true ∧ b = a ∧ callH mine a ts o ns b = some (.frz o (.lst (ns.map V.int)))) ∨ (b ∈ ts ∧ callH mine a ts o ns b = some (.tbl #[])) ∨ (¬ (mine = true ∧ b = a) ∧ b ∉ ts ∧ callH mine a ts o ns b = none) := by
  unfold callH
  by_cases h1 : mine = true ∧ b = a
  · exact .inl ⟨h1.1, h1.2, if_pos h1⟩
  · by_cases h2 : b ∈ ts
    · exact .inr (.inl ⟨h2, by rw [if_neg h1, if_pos h2]⟩)
    · exact .inr (.inr ⟨h1, h2, by rw [if_neg h1, if_neg h2]⟩)
end
theorem law_callG {P : Program} {w : World} {K : PySem.W.Frag} {mg mb : Str → Option Value} {k : Nat} {fa a : Addr} {cs : List (Addr × Addr)} {fd : FuncData} {x : Str} {sp : Sp} {t : Shared} {us : List Value} {ns : List Int}
    (inK : K.In t.heap) (gl : t.heap.Ns mainGlobals mg) (bn : t.heap.Ns builtinsNs mb) (bb : ∀ y : Str, y ≠ "__name__" → mb y = bootBuiltins y) (free : t.heap.NoLimit) (calm : t.gens = #[])
    (emp : ∀ p ∈ cs, t.heap.get? p.2 = some { cls := .none, data := .fields #[] }) (off : ∀ p ∈ cs, K.lookup p.2 = none) (code : ∀ p ∈ cs, PySem.W.CodeHd t.heap p.1 p.2)
    (bm : ∃ (q : Addr) (u : Obj), mg "__builtins__" = some (.ref q) ∧ q ≠ builtinsNs ∧ t.heap.get? q = some u ∧ u.cls = .type "module" ∧ u.dict = some builtinsNs ∧ u.data = .plain)
    (scr : t.heap.get? a = some { cls := .type "list", data := .seq us.toArray }) (hin : IntsAre us ns) (few : ns.length ≤ sizeLine) (room : Room k callerA)
    (df : ∀ base : Heap, K.In base → base.Ns mainGlobals mg → (∀ p ∈ cs, TabB base mg p.1 p.2) → FnG true P w K mg base k fa fd [x] sp) (bi : ∀ (s : Shared) (u : Value), BindsTo s fd ⟨[u], []⟩ [(x, u)])
    (told : ∀ H : Hp, (∀ p ∈ cs, H p.2 = some (.tbl #[])) → SqL K H a (ns.map V.int) → sp [.ref a] H (fun v _ => v = .bl true) fun _ _ _ => False) (none_ : ∀ H e s', L2.CX P w [] H t (fun _ _ _ => False) e s' → False) :
    codeAny (model P w) callerA (.call (.ref fa) ⟨[.ref a], []⟩) (fun r s' => r = .ok (.ret (.bool true)) ∧ OldK t.heap s'.heap ∧ s'.os = t.os ∧ AllBare s'.gens) t := by
  have relV := vals_ints hin
  have many := hin.length
  obtain ⟨ts, ets⟩ : ∃ ts, ts = cs.map (·.2) := ⟨_, rfl⟩
  have tsAt : ∀ b, b ∈ ts → t.heap.get? b = some { cls := .none, data := .fields #[] } := fun b hb => by
    rw [ets] at hb
    obtain ⟨p, hp, rfl⟩ := List.mem_map.mp hb
    exact emp p hp
  have tsIn : ∀ p ∈ cs, p.2 ∈ ts := fun p hp => by rw [ets]; exact List.mem_map.mpr ⟨p, hp, rfl⟩
  have offT : ∀ b, b ∈ ts → K.lookup b = none := fun b hb => by
    rw [ets] at hb
    obtain ⟨p, hp, rfl⟩ := List.mem_map.mp hb
    exact off p hp
  have aOff : a ∉ ts := fun hb => by
    have e := (tsAt a hb).symm.trans scr
    have e2 := congrArg (Option.map Obj.data) e
    cases e2
  obtain ⟨mine, em⟩ : ∃ mine, mine = (K.lookup a).isNone := ⟨_, rfl⟩
  obtain ⟨H, eH⟩ : ∃ H, H = callH mine a ts { cls := .type "list", data := .seq us.toArray } ns := ⟨_, rfl⟩
  have cas : ∀ b, _ := fun b => callH_cases (mine := mine) (a := a) (ts := ts) (o := { cls := .type "list", data := .seq us.toArray }) (ns := ns) b
  rw [← eH] at cas
  have tabs : ∀ p ∈ cs, H p.2 = some (.tbl #[]) := fun p hp => by
    rcases cas p.2 with ⟨_, z, _⟩ | ⟨_, z⟩ | ⟨_, z, _⟩
    · exact absurd (z ▸ tsIn p hp) aOff
    · exact z
    · exact absurd (tsIn p hp) z
  have isl : (⟨.type "list", none, .seq us.toArray, #[]⟩ : Obj) = { cls := .type "list", data := .seq us.toArray } := rfl
  have seqA : SqL K H a (ns.map V.int) := by
    rcases cas a with ⟨_, _, z⟩ | ⟨z, _⟩ | ⟨z, _, _⟩
    · exact .inl (.inr ⟨_, z⟩)
    · exact absurd z aOff
    · have : mine ≠ true := fun q => z ⟨q, rfl⟩
      cases q : K.lookup a with
      | none => rw [em, q] at this; exact absurd rfl this
      | some o =>
        have e := (inK a o q).symm.trans scr
        cases e
        exact .inr ⟨_, us.toArray, _, q, rfl, rfl, rfl, by rw [List.size_toArray, many]; exact few, by simpa using relV⟩
  have ok : HOk P w H t.heap := fun b u z => by
    rcases cas b with ⟨_, e, q⟩ | ⟨e, q⟩ | ⟨_, _, q⟩
    · rw [q] at z
      cases z
      rw [e]
      exact ⟨scr, by rw [List.length_map]; exact few, us, _, relV, scr⟩
    · rw [q] at z
      cases z
      exact tsAt b e
    · rw [q] at z; cases z
  -- what is not the script and no table stands in the base
  have stands : ∀ {b : Addr} {u : Obj}, t.heap.get? b = some u → (∀ vs n, u.data ≠ .seq vs n) → u.data ≠ .fields #[] → (hidT t.heap H).get? b = some u := fun {b u} e n1 n2 => by
    refine hidT_get e ?_
    rcases cas b with ⟨_, z, _⟩ | ⟨z, _⟩ | ⟨_, _, q⟩
    · rw [z, scr] at e
      cases e
      exact absurd rfl (n1 _ _)
    · rw [tsAt b z] at e
      cases e
      exact absurd rfl n2
    · exact q
  have dicts : ∀ {b : Addr} {m : Str → Option Value}, t.heap.Ns b m → (hidT t.heap H).Ns b m := fun {b m} ⟨u, es, ep, e, d, r⟩ => ⟨u, es, ep, stands e (fun vs n z => by rw [d] at z; cases z) (fun z => by rw [d] at z; cases z), d, r⟩
  have inB : K.In (hidT t.heap H) := fun b u e => by
    refine hidT_get (inK b u e) ?_
    rcases cas b with ⟨z, z2, _⟩ | ⟨z, _⟩ | ⟨_, _, q⟩
    · rw [z2] at e
      rw [em, e] at z
      cases z
    · rw [offT b z] at e; cases e
    · exact q
  have md : L2.Mod K mg (hidT t.heap H) := ⟨inB, dicts gl, ⟨mb, dicts bn, bb⟩, let ⟨mc, q1, q2⟩ := free; ⟨mc, dicts q1, q2⟩⟩
  have tb : ∀ p ∈ cs, TabB (hidT t.heap H) mg p.1 p.2 := fun p hp => by
    have ep := emp p hp
    refine ⟨?_, ?_, fun z => ?_⟩
    · obtain ⟨u, xs, fl, tf, fg, tg, inF, tx, tt, e1, r1, r2, r3, rest⟩ := code p hp
      exact ⟨u, xs, fl, tf, fg, tg, inF, tx, tt, stands e1 (fun vs n z => by rw [r2] at z; cases z) (fun z => by rw [r2] at z; cases z; simp at r3), r1, r2, r3, rest⟩
    · obtain ⟨q, u, b1, b2, b3, b4, b5, b6⟩ := bm
      refine ⟨q, u, b1, b2, fun z => ?_, fun z => ?_, stands b3 (fun vs n z => by rw [b6] at z; cases z) (fun z => by rw [b6] at z; cases z), b4, b5, b6⟩
      · obtain ⟨o, es, n, e, hd, _⟩ := gl
        rw [z, e] at b3
        cases b3
        rw [hd] at b6
        cases b6
      · rw [z, ep] at b3
        cases b3
        cases b6
    · obtain ⟨o, es, n, e, hd, _⟩ := gl
      rw [z, ep] at e
      cases e
      cases hd
  have env : Env0 P w K mg (hidT t.heap H) callerA [] t H := ⟨rfl, md, fun b u e => of_hidT e, Nat.le_of_eq (hidT_size _ _), trivial, fun b hb => (List.not_mem_nil hb).elim, ok, .of_eq calm⟩
  refine codeAny_mono ((df _ inB (dicts gl) tb).goes callerA [] t H ⟨[.ref a], []⟩ [.ref a] [.ref a] _ _ room (fun _ => rfl) env (bi t (.ref a)) (.cons rfl .nil) (told H tabs seqA)) fun r s' q => ?_
  cases r with
  | error e => exact (none_ H e s' q).elim
  | ok fl =>
    cases fl with
    | next => exact q.elim
    | brk => exact q.elim
    | cont => exact q.elim
    | ret u =>
      obtain ⟨v, H', os, bare, un, ok', rv, ev⟩ := q
      have ev : v = .bl true := ev
      subst ev
      have eu : u = Value.bool true := rv
      subst eu
      have kept : ∀ b o, b ∉ ts → t.heap.get? b = some o → s'.heap.get? b = some o := fun b o nb e => by
        rcases cas b with ⟨_, _, z⟩ | ⟨z, _⟩ | ⟨_, _, z⟩
        · obtain ⟨e1, _⟩ := ok b _ z
          obtain ⟨e2, _⟩ := ok' b _ (un.frzs b _ _ z)
          rw [e] at e1
          cases e1
          exact e2
        · exact absurd z nb
        · exact un.keep b o e z (fun q => (List.not_mem_nil q).elim) (fun q => (List.not_mem_nil q).elim)
      have grew : ∀ p ∈ cs, ∃ more : Array Value, s'.heap.get? p.2 = some { cls := .none, data := .fields more } := fun p hp => by
        obtain ⟨more, z⟩ := un.tbls p.2 #[] (tabs p hp)
        exact ⟨_, ok' p.2 _ z⟩
      refine ⟨rfl, ⟨fun b o e => ?_, fun b o e => ?_⟩, os, bare⟩
      · by_cases hb : b ∈ ts
        · rw [ets] at hb
          obtain ⟨p, hp, rfl⟩ := List.mem_map.mp hb
          obtain ⟨more, g⟩ := grew p hp
          have e0 := (emp p hp).symm.trans e
          cases e0
          exact .inr (.inl ⟨((code p hp).tab (emp p hp)).isCodeTable, rfl, #[], more, rfl, by rw [Array.empty_append]; exact g⟩)
        · exact .inl (kept b o hb e)
      · by_cases hb : b ∈ ts
        · rw [ets] at hb
          obtain ⟨p, hp, rfl⟩ := List.mem_map.mp hb
          exact (grew p hp).elim fun more g => ⟨_, g⟩
        · exact ⟨o, kept b o hb e⟩
/-- what is known of the law at the head's heap -/
def LawAtG (l : PySem.W.OpenLaw) (w : World) (K : PySem.W.Frag) (k n : Nat) (x : Str) (mg : Str → Option Value) (fa : Addr) (h : Heap) : Prop :=
  ∃ (fd : FuncData) (cs : List (Addr × Addr)) (sp : Sp), (∀ p ∈ cs, h.get? p.2 = some { cls := .none, data := .fields #[] } ∧ K.lookup p.2 = none ∧ PySem.W.CodeHd h p.1 p.2) ∧ (∀ (s : Shared) (u : Value), BindsTo s fd ⟨[u], []⟩ [(x, u)]) ∧
    (∀ (H : Hp) (a : Addr) (ns : List Int), ns.length ≤ n → (∀ p ∈ cs, H p.2 = some (.tbl #[])) → SqL K H a (ns.map V.int) → sp [.ref a] H (fun v _ => v = .bl true) fun _ _ _ => False) ∧
    ∀ base : Heap, K.In base → base.Ns mainGlobals mg → (∀ p ∈ cs, TabB base mg p.1 p.2) → FnG true l.prog w K mg base k fa fd [x] sp
theorem walk_G {l : PySem.W.OpenLaw} {n k : Nat} {q : Program} {loose : List Str} {XP : (Str → Option Value) → Heap → Prop} {YP : World → Heap → Prop} {d : DefRec} {x : Str} (hn : l.most = some n) (hn2 : n ≤ sizeLine) (hdf : d.params.defaults = []) (room : Room k callerA)
    (F : ∀ (w : World) (mg : Str → Option Value) (fa : Addr) (h : Heap), YP w h → h.Ns mainGlobals mg → mg d.name = some (.ref fa) → ∃ K : PySem.W.Frag, K.In h ∧ LawAtG l w K k n x mg fa h) :
    PySem.W.WalkO q loose XP YP l.row.toRowW d [] (fun f vs => PySem.call f vs) := by
  refine Att.attach_callB hn hdf fun w s₀ t mg mb fa o pm cd doc a vs ns G Y ho hd hcd hmg hobj hints hlen hbits hg => ?_
  obtain ⟨K, KX, fd, cs, sp, hT, hb, hsp, hF⟩ := F w mg fa _ Y G.T.g hmg
  refine law_callG KX G.T.g G.T.b G.T.builtins G.T.nolimit hg (fun p hp => (hT p hp).1) (fun p hp => (hT p hp).2.1) (fun p hp => (hT p hp).2.2) G.T.bmain hobj hints (Nat.le_trans hlen hn2) room hF hb (fun H h1 h2 => hsp H a ns hlen h1 h2) ?_
  rintro H e s' ⟨_, _, _, _, _, _, _, _, _, _, _, _, z⟩
  exact z
end Pl
namespace Pl
open PySem PySem.Spec PyProof.Rows L2
variable {α β γ : Type} {c : Cn} {E : WX} {np : Nat} {W : Fm} {F H F' H' : Hp} {σ : L2.St} {ρ : Env}
/-! ## operators that make a new list -/
def rN (K : PySem.W.Frag) (g : D → D → Option (List D)) : R2 := fun x y H Q => ∃ F d e zs, Fz F H ∧ Rep K F d x ∧ Rep K F e y ∧ g d e = some zs ∧ ∀ p vs, H p = none → RepL K F zs vs → Q (.ref p) (upd H p (.lst vs))
def eOpN (g : D → D → Option (List D)) (a b : M D) : M (List D) := a.bind fun x => b.bind fun y => M.lift (g x y)
theorem ef_op {g : D → D → Option (List D)} {ta tb : TE} {fa fb : M D} (ha : Ex c E ta fa) (hb : Ex c E tb fb) : Ef c E (tOp (rN c.K g) ta tb) (eOpN g fa fb) := by
  intro W F H σ ρ Q R h
  refine ha W F H σ ρ _ R ((PostF.bind (Rep c.K) h).mono fun x H1 ⟨d, ρ1, F1, R1, s1, r1, h1⟩ => ?_)
  refine hb W F1 H1 σ ρ1 _ R1 ((PostF.bind (Rep c.K) h1).mono fun y H2 ⟨e, ρ2, F2, R2, s2, r2, h2⟩ => ?_)
  cases ez : g d e with
  | none => rw [ez] at h2; exact h2.elim
  | some zs =>
    rw [ez] at h2
    refine ⟨F2, d, e, zs, R2.fz, r1.mono s2, r2, ez, fun p vs hp r => ?_⟩
    obtain ⟨R3, fr⟩ := R2.lay hp r
    exact h2 F2 _ p R3 (Same.refl _) fr
def catD : D → D → Option (List D)
  | .lst xs, .lst ys => if xs.length + ys.length ≤ 100000 then some (xs ++ ys) else none
  | _, _ => none
theorem op_catN {X : Cx} : OpR X (binaryOp .Add) (rN X.K catD) := by
  intro pins s σ H x y v u Q I rx ry h
  obtain ⟨F, d, e, zs, fz, r, q, ez, k⟩ := h
  cases d with
  | lst ds =>
    cases e with
    | lst es =>
      have ez : (if ds.length + es.length ≤ 100000 then some (ds ++ es) else none) = some zs := ez
      split at ez
      · cases ez
        obtain ⟨a, xs, r1, r2, r3⟩ := r
        obtain ⟨b, ys, q1, q2, q3⟩ := q
        subst r1 q1
        exact op_cat pins s σ H _ _ v u Q I rx ry ⟨a, b, xs, ys, rfl, rfl, fz.up _ _ r2, fz.up _ _ q2, by rw [← r3.len, ← q3.len]; exact Nat.le_trans (by assumption) h100, fun p hp => k p _ hp (r3.app q3)⟩
      · cases ez
    | _ => cases ez
  | _ => cases ez
def repD : D → D → Option (List D)
  | .lst xs, .int k => if 0 ≤ k ∧ k ≤ 100000 ∧ xs.length * k.toNat ≤ 100000 then some (List.replicate k.toNat xs).flatten else none
  | _, _ => none
theorem op_repN {X : Cx} : OpR X (binaryOp .Mult) (rN X.K repD) := by
  intro pins s σ H x y v u Q I rx ry h
  obtain ⟨F, d, e, zs, fz, r, q, ez, k⟩ := h
  cases d with
  | lst ds =>
    cases e with
    | int j =>
      have ez : (if 0 ≤ j ∧ j ≤ 100000 ∧ ds.length * j.toNat ≤ 100000 then some (List.replicate j.toNat ds).flatten else none) = some zs := ez
      split at ez
      · rename_i hc
        cases ez
        cases q
        obtain ⟨a, xs, r1, r2, r3⟩ := r
        subst r1
        exact op_rep pins s σ H _ _ v u Q I rx ry ⟨a, j, xs, rfl, rfl, fz.up _ _ r2, by omega, by omega, by rw [← r3.len]; exact Nat.le_trans hc.2.2 h100, fun p hp => k p _ hp (r3.rep _)⟩
      · cases ez
    | _ => cases ez
  | _ => cases ez
/-- a text, several times -/
def mulSD : D → D → Option D
  | .str x, .int k => if 2 ≤ k ∧ k ≤ 10000 ∧ 0 < x.length ∧ x.length ≤ 10 then some (.str ⟨(List.replicate k.toNat x.cps).foldl (· ++ ·) #[]⟩) else none
  | _, _ => none
theorem foldl_size : ∀ (n : Nat) (a b : Array Nat), ((List.replicate n a).foldl (· ++ ·) b).size = b.size + n * a.size
  | 0, a, b => by simp
  | n + 1, a, b => by
    rw [List.replicate_succ, List.foldl_cons, foldl_size n a (b ++ a), Array.size_append, Nat.succ_mul]
    omega
theorem op_mulSX {X : Cx} : OpR X (binaryOp .Mult) (rD X.K mulSD) := by
  intro pins s σ H x y v u Q I rx ry h
  obtain ⟨F, d, e, z, fz, r, q, ez, k⟩ := h
  cases d with
  | str a =>
    cases e with
    | int j =>
      have ez : (if 2 ≤ j ∧ j ≤ 10000 ∧ 0 < a.length ∧ a.length ≤ 10 then some (D.str ⟨(List.replicate j.toNat a.cps).foldl (· ++ ·) #[]⟩) else none) = some z := ez
      split at ez
      · rename_i hc
        cases ez
        cases r
        cases q
        obtain ⟨t, rfl⟩ := rx
        obtain ⟨t', rfl⟩ := ry
        have h1 : a.length * j.toNat ≤ 100000 := by
          have : j.toNat ≤ 10000 := by omega
          exact Nat.le_trans (Nat.mul_le_mul hc.2.2.2 this) (by decide)
        have e1 : (j == 1 || a.length == 0) = false := by
          rw [Bool.or_eq_false_iff]
          refine ⟨beq_eq_false_iff_ne.mpr (by omega), beq_eq_false_iff_ne.mpr (by omega)⟩
        have sz : (Str.length ⟨(List.replicate j.toNat a.cps).foldl (· ++ ·) #[]⟩) ≤ sizeLine := by
          show ((List.replicate j.toNat a.cps).foldl (· ++ ·) #[]).size ≤ _
          rw [foldl_size]
          show 0 + j.toNat * a.length ≤ _
          rw [Nat.zero_add, Nat.mul_comm]
          exact Nat.le_trans h1 h100
        refine PySem.P.mul_str (by rw [decide_eq_false (by omega), decide_eq_false (by omega)]; rfl) (fun _ _ => ?_) (fun _ _ => ?_) ?_
        · have h2 : (922337203685477 : Int) ≤ (2 ^ 63 - 1) / j := Int.le_ediv_of_mul_le (by omega) (by omega)
          have h4 : (a.length : Int) ≤ 10 := by omega
          omega
        · exact decide_eq_false (by rw [sizeLine_eq] at *; omega)
        · rw [if_neg (by omega), if_neg (by rw [e1]; exact Bool.false_ne_true)]
          exact ⟨sz, .str _, H, I.tok _, ⟨_, rfl⟩, k F H _ fz.refl rfl⟩
      · cases ez
    | _ => cases ez
  | _ => cases ez
/-! ## max of a list, of a tuple -/
def maxOf (ds : List D) : Option D := if (allInt ds && decide (ds.length ≤ 100000)) = true then match toPL ds with
    | [] => none
    | y :: ys => intP (PySem.W.maxD y ys)
    else none
def max1D : List D → Option D
  | [.lst ds] => maxOf ds
  | [.tup ds] => maxOf ds
  | _ => none
theorem maxOf_at {ds : List D} {z : D} (e : maxOf ds = some z) : allInt ds = true ∧ ∃ y ys m, toPL ds = y :: ys ∧ PySem.W.maxD y ys = .int m ∧ z = .int m := by
  unfold maxOf at e
  split at e
  · rename_i hc
    rw [Bool.and_eq_true] at hc
    cases ep : toPL ds with
    | nil => rw [ep] at e; cases e
    | cons y ys =>
      rw [ep] at e
      have e : intP (PySem.W.maxD y ys) = some z := e
      cases em : PySem.W.maxD y ys with
      | int m => rw [em] at e; cases e; exact ⟨hc.1, y, ys, m, rfl, em, rfl⟩
      | _ => rw [em] at e; cases e
  · cases e
theorem alike_ints {ds : List D} (h : allInt ds = true) : PySem.W.AlikeAll (toPL ds) := by
  refine ⟨fun x hx y hy => ?_, fun x hx => ?_⟩
  · obtain ⟨i, rfl⟩ := allInt_mem h x hx
    obtain ⟨j, rfl⟩ := allInt_mem h y hy
    rfl
  · obtain ⟨i, rfl⟩ := allInt_mem h x hx
    intro z
    cases z
theorem call_max1X {X : Cx} (hc : X.calm = true) (hu : X.A.units + 64 < cLine) : CallR X (.builtin "max") (cD X.K max1D) := by
  intro pins s σ H xs us Q I rx h
  obtain ⟨F, ds, z, fz, r, ez, k⟩ := h
  unfold max1D at ez
  split at ez
  · rename_i es
    obtain ⟨h1, y, ys, m, e1, e2, rfl⟩ := maxOf_at ez
    obtain ⟨v, rfl, a, vs, rfl, h2, h3⟩ := repL1 r
    obtain ⟨u, rfl, ru⟩ := rx.one
    obtain rfl : u = .ref a := ru
    obtain ⟨its, n, rv2, ho, hz⟩ := I.lst (fz.1 _ _ h2)
    obtain ⟨as, ra⟩ := readsL_D I 1 es vs its (h3.mono fz.1) rv2 (allInt_shape h1)
    have dep := depthL_D 1 es (allInt_shape h1)
    have al := alike_ints h1
    rw [e1] at ra dep al
    refine PySem.W.max_list_data (vs := its.toArray) (I.ok.hd hc) ⟨_, ho, rfl, n, rfl⟩ (by simpa using ra) al (by omega) fun j w h' tk bs e hv kp => ?_
    rw [e2] at hv
    obtain ⟨t', ev⟩ : ∃ t', w = .int m t' := by
      cases hv
      exact ⟨_, rfl⟩
    subst ev
    exact ⟨.int m, H, I.kept kp, ⟨t', rfl⟩, k F H _ fz.refl rfl⟩
  · rename_i es
    obtain ⟨h1, y, ys, m, e1, e2, rfl⟩ := maxOf_at ez
    obtain ⟨v, rfl, a, vs, rfl, h2, h3⟩ := repL1 r
    obtain ⟨u, rfl, ru⟩ := rx.one
    obtain rfl : u = .ref a := ru
    obtain ⟨its, rv2, ht⟩ := tup_is I (tup_mono fz.1 h2)
    obtain ⟨as, ra⟩ := readsL_D I 1 es vs its (h3.mono fz.1) rv2 (allInt_shape h1)
    have dep := depthL_D 1 es (allInt_shape h1)
    have al := alike_ints h1
    rw [e1] at ra dep al
    refine PySem.W.max_tuple_data (vs := its.toArray) (I.ok.hd hc) ht (by simpa using ra) al (by omega) fun j w h' tk bs e hv kp => ?_
    rw [e2] at hv
    obtain ⟨t', ev⟩ : ∃ t', w = .int m t' := by
      cases hv
      exact ⟨_, rfl⟩
    subst ev
    exact ⟨.int m, H, I.kept kp, ⟨t', rfl⟩, k F H _ fz.refl rfl⟩
  · cases ez
/-! ## methods of texts -/
def sD (K : PySem.W.Frag) (g : Str → List D → Option D) : V → List V → Hp → VK → Prop := fun x xs H Q => ∃ F a ds z, Fz F H ∧ x = .str a ∧ RepL K F ds xs ∧ g a ds = some z ∧ ∀ F' H' v, Grow F H F' H' → Rep K F' z v → Q v H'
def asS : D → Option Str
  | .str a => some a
  | _ => none
def eBmS (g : Str → List D → Option D) (o : M D) (as : M (List D)) : M D := o.bind fun d => (M.lift (asS d)).bind fun a => as.bind fun ds => M.lift (g a ds)
theorem ex_bmS {g : Str → List D → Option D} {to : TE} {fo : M D} {ta : TA} {fa : M (List D)} (ho : Ex c E to fo) (ha : Ax c E ta fa) : Ex c E (tBM c.K "str" (sD c.K g) to ta) (eBmS g fo fa) := by
  intro W F H σ ρ Q R h
  refine ho W F H σ ρ _ R ((h.bind (Rep c.K)).mono fun x H1 ⟨d, ρ1, F1, R1, s1, r1, h1⟩ => ?_)
  cases d with
  | str a =>
    have h1 : Post c W F1 σ E (Rep c.K) ((fa.bind fun ds => M.lift (g a ds)) ρ1) Q := h1
    obtain rfl : x = .str a := r1
    refine ⟨rfl, ha W F1 H1 σ ρ1 _ R1 ((h1.bind (RepL c.K)).mono fun vs H2 ⟨es, ρ2, F2, R2, s2, r2, h2⟩ => ?_)⟩
    obtain ⟨z, e, k⟩ := Post.lift h2
    exact ⟨F2, a, es, z, R2.fz, rfl, r2, e, fun F' H' v gr rv => k F' H' v (R2.grow gr) gr.fs rv⟩
  | _ => exact h1.elim
def stripD (a : Str) : List D → Option D
  | [.str b] => if a.length ≤ 100000 then some (.str (Txt.stripChars a b)) else none
  | _ => none
theorem mt_stripX {X : Cx} : MtR X "str.strip" (sD X.K stripD) := by
  intro pins s σ H x xs v us Q I rx rs h
  obtain ⟨F, a, ds, z, fz, rfl, r, ez, k⟩ := h
  unfold stripD at ez
  split at ez
  · split at ez
    · cases ez
      obtain ⟨y, rfl, ry⟩ := repL1 r
      cases ry
      exact mt_stripChars pins s σ H _ _ v us Q I rx rs ⟨_, _, rfl, rfl, Nat.le_trans (by assumption) h100, k F H _ fz.refl rfl⟩
    · cases ez
  · cases ez
def joinD (a : Str) : List D → Option D
  | [.lst ds] => match strsOf ds with
    | some ys => if (ys.map (·.length)).sum + ys.length * a.length ≤ 100000 then some (.str (Txt.join a ys)) else none
    | none => none
  | [.tup ds] => match strsOf ds with
    | some ys => if (ys.map (·.length)).sum + ys.length * a.length ≤ 100000 then some (.str (Txt.join a ys)) else none
    | none => none
  | _ => none
theorem mt_joinX {X : Cx} : MtR X "str.join" (sD X.K joinD) := by
  intro pins s σ H x xs v us Q I rx rs h
  obtain ⟨F, a, ds, z, fz, rfl, r, ez, k⟩ := h
  unfold joinD at ez
  split at ez
  · rename_i es
    cases e : strsOf es with
    | none => rw [e] at ez; cases ez
    | some ys =>
      rw [e] at ez
      have ez : (if (ys.map (·.length)).sum + ys.length * a.length ≤ 100000 then some (D.str (Txt.join a ys)) else none) = some z := ez
      split at ez
      · cases ez
        obtain ⟨y, rfl, p, vs, rfl, h2, h3⟩ := repL1 r
        have := strs_rep e h3
        subst this
        exact mt_join pins s σ H _ _ v us Q I rx rs ⟨a, p, ys, rfl, rfl, .inl (.of (fz.1 _ _ h2)), by omega, k F H _ fz.refl rfl⟩
      · cases ez
  · rename_i es
    cases e : strsOf es with
    | none => rw [e] at ez; cases ez
    | some ys =>
      rw [e] at ez
      have ez : (if (ys.map (·.length)).sum + ys.length * a.length ≤ 100000 then some (D.str (Txt.join a ys)) else none) = some z := ez
      split at ez
      · cases ez
        obtain ⟨y, rfl, p, vs, rfl, h2, h3⟩ := repL1 r
        have := strs_rep e h3
        subst this
        exact mt_join pins s σ H _ _ v us Q I rx rs ⟨a, p, ys, rfl, rfl, .inr (sqT_mono fz.1 h2.sq), by omega, k F H _ fz.refl rfl⟩
      · cases ez
  · cases ez
/-! ## the place of a truth value in a list of them -/
def placeB (b : Bool) : List Bool → Option Nat
  | [] => none
  | k :: r => if (k == b) = true then some 0 else (placeB b r).map (· + 1)
theorem placeB_at {b : Bool} : ∀ {ys : List Bool} {j : Nat}, placeB b ys = some j → ys[j]? = some b ∧ ∀ m, m < j → ys[m]? ≠ some b
  | [], _, e => by cases e
  | k :: r, j, e => by
    unfold placeB at e
    split at e
    · rename_i h
      cases e
      exact ⟨by rw [eq_of_beq h]; rfl, fun m hm => absurd hm (Nat.not_lt_zero _)⟩
    · rename_i h
      cases e2 : placeB b r with
      | none => rw [e2] at e; cases e
      | some i =>
        rw [e2] at e
        cases e
        obtain ⟨h1, h2⟩ := placeB_at e2
        refine ⟨by simpa using h1, fun m hm => ?_⟩
        cases m with
        | zero =>
          intro z
          cases z
          exact h (beq_self_eq_true _)
        | succ m => simpa using h2 m (Nat.lt_of_succ_lt_succ hm)
def indexBD (ds : List D) : List D → Option D
  | [.bl b] => match blsOf ds with
    | some bs => (placeB b bs).map fun j => .int (j : Nat)
    | none => none
  | _ => none
def eIdxB (o : M D) (as : M (List D)) : M D := o.bind fun d => match d with
  | .lst ds => as.bind fun xs => M.lift (indexBD ds xs)
  | _ => fun _ => .bad
theorem indexB_inv {ds xs : List D} {z : D} (e : indexBD ds xs = some z) : ∃ w ys j, xs = [.bl w] ∧ blsOf ds = some ys ∧ placeB w ys = some j ∧ z = .int (j : Nat) := by
  unfold indexBD at e
  split at e
  · rename_i b
    cases e1 : blsOf ds with
    | none => rw [e1] at e; cases e
    | some bs =>
      rw [e1] at e
      have e : (placeB b bs).map (fun j => D.int (j : Nat)) = some z := e
      cases e2 : placeB b bs with
      | none => rw [e2] at e; cases e
      | some j => rw [e2] at e; cases e; exact ⟨b, bs, j, rfl, rfl, e2, rfl⟩
  · cases e
theorem flat_bls : ∀ ys : List Bool, (ys.map V.bl).all flatV = true
  | [] => rfl
  | _ :: r => by rw [List.map_cons, List.all_cons, flat_bls r]; rfl
theorem ex_idxB {to : TE} {fo : M D} {ta : TA} {fa : M (List D)} (ho : Ex c E to fo) (ha : Ax c E ta fa) : Ex c E (tBM c.K "list" (rIndex c.K) to ta) (eIdxB fo fa) := by
  intro W F H σ ρ Q R h
  refine ho W F H σ ρ _ R ((h.bind (Rep c.K)).mono fun x H1 ⟨d, ρ1, F1, R1, s1, r1, h1⟩ => ?_)
  cases d with
  | lst ds =>
    have h1 : Post c W F1 σ E (Rep c.K) ((fa.bind fun xs => M.lift (indexBD ds xs)) ρ1) Q := h1
    obtain ⟨a, xs, rfl, e2, e3⟩ := r1
    refine ⟨.inl ⟨rfl, xs, .of (R1.sub _ _ e2)⟩, ha W F1 H1 σ ρ1 _ R1 ((h1.bind (RepL c.K)).mono fun vs H2 ⟨es, ρ2, F2, R2, s2, r2, h2⟩ => ?_)⟩
    obtain ⟨z, e, k⟩ := Post.lift h2
    obtain ⟨w, ys, j, rfl, q1, q2, rfl⟩ := indexB_inv e
    obtain ⟨v, rfl, rv⟩ := repL1 r2
    obtain rfl : v = .bl w := rv
    obtain ⟨p1, p2⟩ := placeB_at q2
    have ex := bls_rep q1 e3
    refine ⟨a, xs, .bl w, j, .bl w, rfl, rfl, .of (R2.sub _ _ (s2 _ _ e2)), rfl, by rw [ex]; exact flat_bls ys, by rw [ex, List.getElem?_map, p1]; rfl, by show (w == w) = true; exact beq_self_eq_true w, fun m z hm e => ?_, k F2 H2 _ R2 (Same.refl _) rfl⟩
    rw [ex, List.getElem?_map] at e
    cases e5 : ys[m]? with
    | none => rw [e5] at e; cases e
    | some y =>
      rw [e5] at e
      cases e
      show (y == w) = false
      exact beq_eq_false_iff_ne.mpr fun z => p2 m hm (by rw [e5, z])
  | _ => exact h1.elim
/-! ## a, b = data, a new list -/
def sParN (i j : Nat) (fa : M D) (fb : M (List D)) : S := fa.bind fun d => fb.bind fun ds ρ => .ok .nx ((ρ.set i (.d d)).set j (.o ds))
theorem sx_parN {i j : Nat} {ta tb : TE} {fa : M D} {fb : M (List D)} (ha : Ex c E ta fa) (hb : Ef c E tb fb) (hj : np ≤ j) (hij : i ≠ j) : Sx c E np (tPar i j (tCons ta (tCons tb tNil))) (sParN i j fa fb) := by
  intro W F H σ ρ D hn R h
  refine ha W F H σ ρ _ R ((SPost.bind (Rep c.K) h).mono fun x H1 ⟨d, ρ1, F1, R1, s1, r1, h1⟩ => ?_)
  refine hb W F1 H1 σ ρ1 _ R1 ?_
  unfold M.bind at h1
  revert h1
  cases fb ρ1 with
  | ok ds ρ2 =>
    intro h1 F2 H2 p R2 s2 fr
    refine ⟨x, .ref p, rfl, h1 F2 H2 _ ?_ s2⟩
    have R3 := R2.store (r1.mono s2) i
    refine Fresh.named R3 ⟨fr.own, fr.h0, fun k t e o => ?_⟩ (by rw [hn]; exact hj)
    rcases set_at e with ⟨_, _, z⟩ | ⟨n1, e1⟩
    · subst z; cases o
    · rw [List.getElem?_set_ne n1]
      exact fr.no k t e1 o
  | ex e ρ2 => exact fun h1 F' H' cls od R' s x => h1 F' H' σ cls od R' s x
  | bad => exact fun h1 => h1
end Pl
namespace Pl
open PySem PySem.Spec PyProof.Rows L2 He
theorem gdF {A : Around} : Gd false A := fun h => by cases h
theorem hr_u {k : Nat} {A : Around} (hr : Room k A) : A.units + 64 < cLine := hr.units
section
variable {P : Program} {w : World} {K : PySem.W.Frag} {mg : Str → Option Value} {base : Heap} {b : Bool}
theorem hasG {x : Str} {st : Stmt} {f : Addr} {fd : FuncData} {k : Nat} {ps : List Str} {sp : Sp} (F : Fun K x x st f fd) (g : mg x = some (.ref f)) (bi : Binds K fd ps []) (ok : FnG b P w K mg base k f fd ps sp) : HasG b P w K mg base x k ps sp := ⟨f, fd, ok, g, F.kp, bi⟩
theorem hasS {x : Str} {st : Stmt} {f : Addr} {fd : FuncData} {k : Nat} {sp : Sp} (F : Fun K x x st f fd) (g : mg x = some (.ref f)) (ok : FnS b P w K mg base k f sp) : HasS b P w K mg base x k sp := ⟨f, ok, g, F.kp⟩
/-! ## a def that calls itself: at most n deep -/
theorem fn_never {k : Nat} {f : Addr} {fd : FuncData} {ps : List Str} {c : Cn} : FnG b P w K mg base k f fd ps (spM c fun _ => .bad) :=
  ⟨fun vs H Q E h => by obtain ⟨_, _, _, _, _, o⟩ := h; exact o.elim, fun A outer s H args us vs Q E hr hg e0 hb rv h => by obtain ⟨_, _, _, _, _, o⟩ := h; exact o.elim⟩
def recM (m : FnM → FnM) : Nat → FnM
  | 0 => fun _ => .bad
  | n + 1 => m (recM m n)
theorem fn_rec {k : Nat} {f : Addr} {fd : FuncData} {ps : List Str} {c : Cn} {m : FnM → FnM} (step : ∀ n r, FnG b P w K mg base (k + n) f fd ps (spM c r) → FnG b P w K mg base (k + n + 1) f fd ps (spM c (m r))) : ∀ n, FnG b P w K mg base (k + n) f fd ps (spM c (recM m n))
  | 0 => fn_never
  | n + 1 => step n _ (fn_rec step n)
end
/-! ## the module's classes of errors, by a list -/
def errOf (L : List (Str × Str × Bool)) (x y : Str) : Option Bool := (L.find? fun t => decide (t.1 = x ∧ t.2.1 = y)).map (·.2.2)
def errV (K : PySem.W.Frag) (own : List Str) (bl : List (Str × Value)) (y : Str) : Option Value := if y ∈ own then some (.ref (ga K y)) else bl.lookup y
def errsB (K : PySem.W.Frag) (own : List Str) (bl : List (Str × Value)) (L : List (Str × Str × Bool)) : Bool := L.all fun t => decide (t.1 ∈ own) && (excCB K (ga K t.1) && match errV K own bl t.2.1 with
  | some cv => errB K (ga K t.1) cv t.2.2
  | none => false)
theorem lookup_pair {α : Type} : ∀ {l : List (Str × α)} {x : Str} {a : α}, l.lookup x = some a → (x, a) ∈ l
  | (k, v) :: r, x, a, h => by
    rw [List.lookup_cons] at h
    cases e : x == k with
    | true =>
      rw [e] at h
      cases h
      rw [eq_of_beq e]
      exact List.mem_cons_self
    | false =>
      rw [e] at h
      exact List.mem_cons_of_mem _ (lookup_pair h)
theorem errTab_of {K : PySem.W.Frag} {mg : Str → Option Value} {own : List Str} {bl : List (Str × Value)} {L : List (Str × Str × Bool)} (hb : (bl.all fun p => decide (bootBuiltins p.1 = some p.2)) = true) (go : ∀ x ∈ own, mg x = some (.ref (ga K x)))
    (fr : ∀ p ∈ bl, mg p.1 = none) (h : errsB K own bl L = true) : ErrTab K mg (errOf L) := by
  refine ⟨fun x y b e => ?_⟩
  unfold errOf at e
  cases q : L.find? fun t => decide (t.1 = x ∧ t.2.1 = y) with
  | none => rw [q] at e; cases e
  | some t =>
    rw [q] at e
    cases e
    have hm := List.mem_of_find?_eq_some q
    have hq : decide (t.1 = x ∧ t.2.1 = y) = true := List.find?_some (p := fun t : Str × Str × Bool => decide (t.1 = x ∧ t.2.1 = y)) q
    obtain ⟨rfl, rfl⟩ := of_decide_eq_true hq
    have k := List.all_eq_true.mp h t hm
    rw [Bool.and_eq_true, Bool.and_eq_true] at k
    obtain ⟨k1, k2, k3⟩ := k
    cases ev : errV K own bl t.2.1 with
    | none => rw [ev] at k3; cases k3
    | some cv =>
      rw [ev] at k3
      obtain ⟨q1, q2⟩ := ba (show (decide (PySem.W.exmOne K (.ref (ga K t.1)) cv = some t.2.2) && decide (PySem.W.kitOne K (.ref (ga K t.1)) cv = some t.2.2)) = true from k3)
      refine ⟨ga K t.1, cv, go _ (of_decide_eq_true k1), ?_, excC_of k2, of_decide_eq_true q1, of_decide_eq_true q2⟩
      unfold errV at ev
      split at ev
      · cases ev
        exact .inl (go _ (by assumption))
      · have m := lookup_pair ev
        exact .inr ⟨fr _ m, of_decide_eq_true (List.all_eq_true.mp hb _ m)⟩
end Pl
namespace Pl
open PySem PySem.Spec PyProof.Rows L2
variable {α β γ : Type} {c : Cn} {E : WX} {np : Nat} {W : Fm} {F H F' H' : Hp} {σ : L2.St} {ρ : Env}
/-- a, b = data, a new list, where a name is seen from within: by way of a tuple that nobody keeps -/
theorem sx_asgN {i j : Nat} {ta tb : TE} {fa : M D} {fb : M (List D)} (ha : Ex c E ta fa) (hb : Ef c E tb fb) (hj : np ≤ j) (hij : i ≠ j) : Sx c E np (tAsg (tTup (tCons ta (tCons tb tNil))) (gTup c.K 2 (gCons (gName i) (gCons (gName j) gNil)))) (sParN i j fa fb) := by
  intro W F H σ ρ D hn R h
  refine ha W F H σ ρ _ R ((SPost.bind (Rep c.K) h).mono fun x H1 ⟨d, ρ1, F1, R1, s1, r1, h1⟩ => ?_)
  refine hb W F1 H1 σ ρ1 _ R1 ?_
  unfold M.bind at h1
  revert h1
  cases fb ρ1 with
  | ok ds ρ2 =>
    intro h1 F2 H2 p R2 s2 fr
    refine ⟨Nat.le_trans (by decide : 2 ≤ 100000) h100, fun q hq => ?_⟩
    have g := Grow.side (o := .tup [x, .ref p]) R2.sub R2.nt hq
    have R2' := R2.grow g
    refine ⟨q, [x, .ref p], rfl, .of upd_same, rfl, x, [.ref p], rfl, .ref p, [], rfl, rfl, ?_⟩
    refine h1 F2 _ _ ?_ s2
    have fr' : Fresh c W F2 (upd H2 q (.tup [x, .ref p])) σ ρ2 p ds := by
      obtain ⟨vs, o1, o2, o3⟩ := fr.own
      exact ⟨⟨vs, g.hs _ _ o1, o2, o3⟩, fr.h0, fr.no⟩
    have R3 := R2'.store (r1.mono s2) i
    refine Fresh.named R3 ⟨fr'.own, fr'.h0, fun k t e o => ?_⟩ (by rw [hn]; exact hj)
    rcases set_at e with ⟨_, _, z⟩ | ⟨n1, e1⟩
    · subst z; cases o
    · rw [List.getElem?_set_ne n1]
      exact fr'.no k t e1 o
  | ex e ρ2 => exact fun h1 F' H' cls od R' s x => h1 F' H' σ cls od R' s x
  | bad => exact fun h1 => h1
end Pl
namespace Pl
open PySem PySem.Spec PyProof.Rows L2
/-- the tables of code objects are different ones -/
def nodupB (l : List Addr) : Bool := decide l.Nodup
theorem nodup_of {l : List Addr} (h : nodupB l = true) : l.Nodup := of_decide_eq_true h
theorem one_of {l : List (Addr × Str)} {ps : List Addr} {i : Nat} {p : Addr} {q : Str} (nd : ps.Nodup) (e : l.map (·.1) = ps) (h : l[i]? = some (p, q)) : ∀ z ∈ l, z.1 = p → z.2 = q := by
  intro z hz ez
  obtain ⟨j, hj⟩ := List.mem_iff_getElem?.mp hz
  have hi1 : ps[i]? = some p := by rw [← e, List.getElem?_map, h]; rfl
  have hj1 : ps[j]? = some p := by rw [← e, List.getElem?_map, hj, ← ez]; rfl
  have hl : i < ps.length := (List.getElem?_eq_some_iff.mp hi1).1
  have := (List.getElem?_inj hl nd).mp (hi1.trans hj1.symm)
  subst this
  rw [hj] at h
  cases h
  rfl
end Pl
/-! enumerate of a tuple -/
namespace Pl
open PySem PySem.Spec PyProof.Rows L2
section
variable {prog : Program} {w : World} {A : Around} {E : Value → Shared → Prop} {s : Shared}
theorem enum_made {x : Value} {u : Obj} {G : Heap → Prop} (bg : Begins x u G) :
    Meets (Builtin.«enumerate.__new__» ⟨[.type "enumerate", x], []⟩) (fun _ R st => G st.heap ∧
      R (.ok (.ret (.ref (st.heap.push u).objs.size))) { st with heap := (st.heap.push u).push { cls := .type "enumerate", data := .fields #[.none, .bool false, .ref st.heap.objs.size, rawInt 0, .none, .none] } }) :=
  .of_wp fun prog w A R st k => by
    obtain ⟨hp, gg, dd, tt, oo⟩ := st
    obtain ⟨k1, k2⟩ := k
    have isSub := sub_enumerate
    have go : ∀ {B : Around} {Er : Value → Shared → Prop} {Qr : Value → Shared → Prop}, Qr (.ref hp.objs.size) ⟨hp.push u, gg, dd, tt, oo⟩ → wpAny (model prog w) B (pyIter x) Qr Er ⟨hp, gg, dd, tt, oo⟩ :=
      fun q => bg.iter prog w _ _ ⟨hp, gg, dd, tt, oo⟩ _ k1 q
    wp_walk using go
    refine wpAny_stack_any fun frames => wpAny_pure ?_
    split
    · rename_i cc _ _ _ _ _
      cases (cc == Value.type "enumerate") <;> (wp_walk using go; exact ⟨_, rfl, k2⟩)
    · wp_walk using go
      exact ⟨_, rfl, k2⟩
theorem call_enum {x : Value} {u : Obj} {G : Heap → Prop} {Q : Value → Shared → Prop} (bg : Begins x u G) (k1 : G s.heap)
    (k : ∀ h2, IsEnum h2 (s.heap.objs.size + 1) s.heap.objs.size 0 .none → h2.get? s.heap.objs.size = some u → (∀ b o, s.heap.get? b = some o → h2.get? b = some o) → Q (.ref (s.heap.objs.size + 1)) { s with heap := h2 }) :
    wpAny (model prog w) A (call (.type "enumerate") [x]) Q E s := by
  refine callType_new F.called_enumerate (by decide) (F.typeCall_enumerate_1 _) (F.newCall_enumerate_1 _) (fun ob => F.args_object_init_2 ob _) F.entry_enumerate_new (enum_made bg) ⟨k1, ?_⟩
  have ez : (s.heap.push u).objs.size = s.heap.objs.size + 1 := by rw [Heap.size_push]
  show _ ∧ _
  rw [ez]
  obtain ⟨h2, eh⟩ : ∃ h2, h2 = (s.heap.push u).push { cls := .type "enumerate", data := .fields #[.none, .bool false, .ref s.heap.objs.size, rawInt 0, .none, .none] } := ⟨_, rfl⟩
  have en : IsEnum h2 (s.heap.objs.size + 1) s.heap.objs.size 0 .none := by
    rw [eh, ← ez]
    exact Heap.get?_push_size _ rfl
  rw [← eh]
  refine ⟨⟨_, en, rfl⟩, k _ en ?_ fun b o q => ?_⟩
  · rw [eh]; exact Heap.get?_push_of_some _ (Heap.get?_push_size _ bg.free)
  · rw [eh]; exact Heap.get?_push_of_some _ (Heap.get?_push_of_some _ q)
end
/-- the tuple at a, each item in a new pair with its number -/
def IteT (K : PySem.W.Frag) (a : Addr) : It :=
  ⟨fun i H => ∃ (xs : List V) (x : V), SqT K H a xs ∧ xs[i]? = some x, fun i H v H' => ∃ T x, v = .ref T ∧ H T = none ∧ H' = upd H T (.tup [.int (i : Nat), x]) ∧ ∀ xs, SqT K H a xs → xs[i]? = some x, fun i H => ∃ xs : List V, SqT K H a xs ∧ xs.length ≤ i⟩
theorem turn_enumT {P : Program} {w : World} {K : PySem.W.Frag} {elts : List Expr} {kk : Nat} {tpos : Pos} (a n it : Addr) :
    Turn P w K (.Tuple elts kk tpos) (IteT K a) [n, it] n (fun i h => (∃ old, IsEnum h n it ((i : Nat) : Int) old) ∧ h.IsTupleIter it a i ∧ n ≠ it) where
  mem := by simp
  obj := fun i h st b hb => by
    obtain ⟨⟨old, en⟩, ⟨o, q1, q2, q3⟩, _⟩ := st
    rcases (by simpa using hb : b = n ∨ b = it) with z | z
    · subst z; exact ⟨_, en, fun v q => nomatch q⟩
    · subst z; exact ⟨o, q1, fun v q => by rw [q3] at q; cases q⟩
  keep := fun i h h' st k => by
    obtain ⟨⟨old, en⟩, hi, ne⟩ := st
    exact ⟨⟨old, k n (by simp) _ en⟩, hi.at fun o q => k it (by simp) o q, ne⟩
  item := by
    intro X e1 e2 e3 cm i pins s σ H E I fp st go
    subst e1 e2 e3
    obtain ⟨⟨old, en⟩, ti, ne⟩ := st
    obtain ⟨xs, x, sq, ex⟩ := go
    obtain ⟨its, rv, tu, _⟩ := I.tuple sq
    obtain ⟨u, eu, ru⟩ := rv.get ex
    have ln : n < s.heap.objs.size := Heap.lt_size en
    have li : it < s.heap.objs.size := by obtain ⟨_, q, _⟩ := ti; exact Heap.lt_size q
    have ai : a ≠ it := fun z => by
      obtain ⟨o, q1, q2, _⟩ := ti
      obtain ⟨o2, q3, q4, _⟩ := tu
      rw [z, q1] at q3
      cases q3
      rw [q2] at q4
      injection q4 with q5
      exact absurd q5 (by decide)
    have an : n ≠ a := fun z => by
      obtain ⟨o2, q3, q4, _⟩ := tu
      rw [← z, en] at q3
      cases q3
      injection q4 with q5
      exact absurd q5 (by decide)
    have hlt : i < its.toArray.size := by
      have := (List.getElem?_eq_some_iff.mp eu).1
      simpa using this
    refine wpAny_pyNext_enum_itemC (Draws.tuple (A := X.A.in1) (show X.A.in1.handled = none from I.ok.hd cm) it a ai its.toArray) en ⟨ti, tu⟩ hlt ne (by simp [ne, an]) fun y h2 tk py out st2 isT sz kp => ?_
    have ey : y = u := by
      have py : its.toArray[i]? = some y := py
      rw [show its.toArray[i]? = its[i]? by simp, eu] at py
      exact (Option.some.inj py).symm
    subst ey
    refine ⟨_, rfl, wpAny_letOwnedTupleGo_enum (s := { s with heap := h2, toks := tk + 1 }) out fun h3 en3 sb => ?_⟩
    have isT3 : h3.get? s.heap.objs.size = some { cls := .type "tuple", data := .seq #[.int i tk, y] } := (sb.2 _ (Nat.ne_of_gt ln)).trans isT
    have ok3 : ObjOk X.prog X.w (upd H s.heap.objs.size (.tup [.int (i : Nat), x])) h3 s.heap.objs.size (.tup [.int (i : Nat), x]) :=
      ⟨Nat.le_trans (by decide : 2 ≤ 100000) h100, [.int i tk, y], .cons ⟨_, rfl⟩ (.cons ru .nil), ⟨_, isT3, rfl, _, rfl⟩⟩
    have I3 : Inv X pins σ (upd H s.heap.objs.size (.tup [.int (i : Nat), x])) { s with heap := h3, toks := tk + 1 } :=
      I.turnedNew (ch := [n, it]) (fun b ob hb q => (sb.2 b (fun z => hb (by simp [z]))).trans (kp b ob (fun z => hb (by simp [z])) (fun z => hb (by simp [z])) q)) fp (Nat.le_refl _) ok3
    refine ⟨.ref s.heap.objs.size, _, I3, rfl, ⟨_, x, rfl, I.hok.fresh (Nat.le_refl _), rfl, fun ys hy => by rw [I.tuple_inj hy sq]; exact ex⟩, ⟨⟨y, ?_⟩, st2.1.at fun o q => (sb.2 it (Ne.symm ne)).trans q, ne⟩, fun b hb => ?_⟩
    · rw [show ((i + 1 : Nat) : Int) = (i : Int) + 1 by omega]
      exact en3
    · have lb : b < s.heap.objs.size := by
        rcases (by simpa using hb : b = n ∨ b = it) with z | z
        · rw [z]; exact ln
        · rw [z]; exact li
      rw [upd_ne (Nat.ne_of_lt lb)]
      exact (fp b hb).1
  done := by
    intro X e1 e2 e3 cm i pins s σ H E I fp st go
    subst e1 e2 e3
    obtain ⟨⟨old, en⟩, ti, ne⟩ := st
    obtain ⟨xs, sq, le⟩ := go
    obtain ⟨its, rv, tu, _⟩ := I.tuple sq
    obtain ⟨f0, f1, f2, f3, f4, f5⟩ := fp it (by simp)
    have ln := rv.length
    have D : Draws X.prog X.w X.A.in1 it [it, a] i (fun _ _ => True) (fun j h => j = i ∧ h.IsTupleIter it a i ∧ h.IsTuple a its.toArray) :=
      ⟨fun j h z => by obtain ⟨_, ⟨o, q, _⟩, _⟩ := z; exact ⟨o, q⟩, fun j h h' z k => ⟨z.1, z.2.1.at fun o q => k it (by simp) o q, z.2.2.at fun o q => k a (by simp) o q⟩,
        fun j s Q E lt z _ => absurd z.1 (Nat.ne_of_lt lt), fun s Q E z hE => wpAny_nextOf_tuple_end (show X.A.in1.handled = none from I.ok.hd cm) z.2.1 z.2.2 (by simp; omega) hE⟩
    exact wpAny_pyNext_enum_endD D en ⟨rfl, ti, tu⟩ fun h' eb => ⟨rfl, I.turned (t' := s.toks) (fun b o hb q => eb b o hb q) f0 f1 f3 f4 f5⟩
  self := fun A i s Q E st h => let ⟨⟨_, en⟩, _⟩ := st; wpAny_pyIter_enum en h
/-- enumerate(x), x a list or a tuple -/
def iEnumA (K : PySem.W.Frag) (ta : TA) : TI := fun σ H R => ta σ H fun vs H1 => ∃ a xs, vs = [.ref a] ∧ ((SqL K H1 a xs ∧ R (Ite K a) H1) ∨ (SqT K H1 a xs ∧ R (IteT K a) H1))
theorem pi_enumA {X : Cx} {e : Expr} {ta : TA} {p pos tpos : Pos} {elts : List Expr} {kk : Nat} (g : Gl X "enumerate") (m : X.mg "enumerate" = none) (ha : PA X [e] ta) (hs : starEach [e] X.env = [(false, eval e X.env)] := by rfl) :
    PI X (.Tuple elts kk tpos) (.Call (.Name "enumerate" p) [e] [] pos) (iEnumA X.K ta) := by
  refine ⟨fun pins s σ H R I h => ?_⟩
  refine Call_ (ld_blt I g m boot_enumerate (PyProof.Rows.callWith_type1 (thn (ha.run pos pins s σ H _ I h) fun us s1 ⟨vs, H1, I1, r1, a, xs, ev, q⟩ => ?_) hs rfl))
  subst ev
  cases r1 with
  | cons r rr =>
    cases rr
    cases r
    have both : ∀ b : Addr, b = s1.heap.objs.size + 1 ∨ b = s1.heap.objs.size → s1.heap.objs.size ≤ b := fun b z => by
      rcases z with z | z
      · rw [z]; exact Nat.le_succ _
      · rw [z]; exact Nat.le_refl _
    rcases q with ⟨sq, q⟩ | ⟨sq, q⟩
    · obtain ⟨its, rv, li, _⟩ := I1.list sq
      refine call_enum (begins_list a its.toArray) li.isList fun h2 en it kp => wpAny_pyIter_enum en ?_
      have I2 : Inv X pins σ H1 { s1 with heap := h2 } := I1.kept (t' := s1.toks) kp
      refine ⟨s1.heap.objs.size + 1, [s1.heap.objs.size + 1, s1.heap.objs.size], _, _, H1, rfl, I2, turn_enum a (s1.heap.objs.size + 1) s1.heap.objs.size, ⟨⟨.none, en⟩, ⟨_, it, rfl, rfl⟩, Nat.succ_ne_self _⟩, fun b hb => ?_, q⟩
      have le := both b (by simpa using hb)
      exact I1.fpOk le (I1.hok.fresh le)
    · obtain ⟨its, rv, tu, _⟩ := I1.tuple sq
      refine call_enum (begins_tuple a its.toArray) tu fun h2 en it kp => wpAny_pyIter_enum en ?_
      have I2 : Inv X pins σ H1 { s1 with heap := h2 } := I1.kept (t' := s1.toks) kp
      refine ⟨s1.heap.objs.size + 1, [s1.heap.objs.size + 1, s1.heap.objs.size], _, _, H1, rfl, I2, turn_enumT a (s1.heap.objs.size + 1) s1.heap.objs.size, ⟨⟨.none, en⟩, ⟨_, it, rfl, rfl⟩, Nat.succ_ne_self _⟩, fun b hb => ?_, q⟩
      have le := both b (by simpa using hb)
      exact I1.fpOk le (I1.hok.fresh le)
def enumAD : List D → Option (List D)
  | [.lst ds] => some (numbered ds)
  | [.tup ds] => some (numbered ds)
  | _ => none
variable {c : Cn} {E : WX} {tA : TA} {fA : M (List D)}
theorem numbered_at {ds : List D} {i : Nat} {d : D} (hi : i < ds.length) (e : ds[i]? = some d) : (numbered ds)[i]? = some (.tup [.int (i : Nat), d]) := by
  unfold numbered
  rw [List.getElem?_map, List.getElem?_range hi]
  show some (D.tup [.int (i : Nat), ds.getD i .non]) = _
  rw [getD_of e]
theorem ix_enumA (ha : Ax c E tA fA) : Ix c E (iEnumA c.K tA) (itBs enumAD fA) := by
  intro W F H σ ρ Q R h
  refine ha W F H σ ρ _ R ((h.bind (RepL c.K)).mono fun vs H1 ⟨ds, ρ1, F1, R1, s1, r1, h1⟩ => ?_)
  obtain ⟨zs, e, k⟩ := Post.lift h1
  unfold enumAD at e
  split at e
  · rename_i es
    obtain ⟨v, rfl, a, xs, rfl, h2, h3⟩ := repL1 r1
    cases e
    refine ⟨a, xs, rfl, .inl ⟨.of (R1.sub _ _ h2), k F1 H1 _ R1 (Same.refl _) ?_⟩⟩
    refine walk_D (L2.walk_enum (K := c.K) (a := a) (xs := xs)) (by unfold numbered; rw [List.length_map, List.length_range, h3.len]) (fun H s => .of (s _ _ h2)) (fun i H x H' s hi ⟨T, y, z, e1, e2, e3, e4, e5⟩ => ?_) fun i H ⟨ys, q, hle⟩ hi => ⟨ys, q, Nat.le_trans hle hi⟩
    cases e4
    obtain ⟨d, e6, r⟩ := h3.of_get e5
    exact ⟨.tup [.int (i : Nat), d], numbered_at (by rw [h3.len]; exact hi) e6, .inr ⟨T, _, _, e2, e3, e1, rfl, .cons rfl (.cons r .nil)⟩⟩
  · rename_i es
    obtain ⟨v, rfl, a, xs, rfl, h2, h3⟩ := repL1 r1
    cases e
    have ln : (numbered es).length = xs.length := by unfold numbered; rw [List.length_map, List.length_range, h3.len]
    refine ⟨a, xs, rfl, .inr ⟨sqT_mono R1.sub h2.sq, k F1 H1 _ R1 (Same.refl _) ⟨fun i H s hi => ⟨xs, sqT_mono s h2.sq, by rw [← ln]; exact hi⟩, fun i H s hi => ?_, fun i H x H' s hi ⟨T, y, e1, e2, e3, e4⟩ => ?_⟩⟩⟩
    · rw [ln] at hi
      exact ⟨xs, xs[i], sqT_mono s h2.sq, List.getElem?_eq_getElem hi⟩
    · rw [ln] at hi
      have ey := e4 xs (sqT_mono s h2.sq)
      obtain ⟨d, e6, r⟩ := h3.of_get ey
      exact ⟨.tup [.int (i : Nat), d], numbered_at (by rw [h3.len]; exact hi) e6, .inr ⟨T, _, _, e2, e3, e1, rfl, .cons rfl (.cons r .nil)⟩⟩
  · cases e
end Pl
/-! x[::-1] of tuples and lists -/
namespace Pl
open PySem PySem.Spec PyProof.Rows L2
theorem fm_same {α β : Type} {f g : α → Option β} : ∀ {l : List α}, (∀ x ∈ l, f x = g x) → l.filterMap f = l.filterMap g
  | [], _ => rfl
  | x :: l, h => by
    rw [List.filterMap_cons, List.filterMap_cons, h x List.mem_cons_self, fm_same fun y hy => h y (List.mem_cons_of_mem _ hy)]
theorem back_pick (xs : Array Value) : ((List.range xs.size).filterMap fun (m : Nat) => xs[(((xs.size : Nat) : Int) - 1 + (m : Int) * (-1)).toNat]?).toArray = xs.toList.reverse.toArray := by
  congr 1
  have a : (List.range xs.size).filterMap (fun (m : Nat) => xs[(((xs.size : Nat) : Int) - 1 + (m : Int) * (-1)).toNat]?) = ((List.range xs.size).map fun k => xs.size - 1 - k).filterMap (xs[·]?) := by
    rw [List.filterMap_map]
    refine fm_same fun m hm => ?_
    have := List.mem_range.mp hm
    have e : (((xs.size : Nat) : Int) - 1 + (m : Int) * (-1)).toNat = xs.size - 1 - m := by omega
    rw [e]; rfl
  rw [a, PySem.W.krv_range, List.filterMap_reverse, PySem.W.krv_all]
theorem back_places (n : Nat) : Builtin.Slice.sliceAdjust none none (-1) (n : Int) = ((n : Int) - 1, -1) ∧ Builtin.Slice.slicePlaces ((n : Int) - 1) (-1) (-1) = n := by
  refine ⟨rfl, ?_⟩
  unfold Builtin.Slice.slicePlaces
  have h1 : ¬ ((-1 : Int) > 0) := by decide
  simp only [h1, if_false]
  by_cases h : (n : Int) - 1 > -1
  · have e : ((n : Int) - 1 - -1 - 1) / (- -1) + 1 = (n : Int) := by
      rw [show (- -1 : Int) = 1 by decide, Int.ediv_one]
      omega
    rw [if_pos h, e, Int.toNat_natCast]
  · rw [if_neg h]
    omega
section
variable {prog : Program} {w : World} {A : Around} {E : Value → Shared → Prop} {s : Shared}
theorem back_applied {sl : Addr} {vl vu vk : Value} {n : Nat} {Q : Int × Int × Nat → Shared → Prop} (hs : s.heap.IsSliceOf sl vl vu vk) (pl : IsPart vl none) (pu : IsPart vu none) (pk : IsPart vk (some (-1)))
    (h : Q ((n : Int) - 1, -1, n) s) : wpAny (model prog w) A (Builtin.Slice.sliceApplied (.ref sl) (pure (n : Int))) Q E s := by
  obtain ⟨os, hos, hcs, hds⟩ := id hs
  unfold Builtin.Slice.sliceApplied Builtin.Slice.sliceFields
  refine wpAny_bind (wpAny_bind (wpAny_field hos hds (x := vl) rfl (wpAny_bind (wpAny_field hos hds (x := vu) rfl (wpAny_bind (wpAny_field hos hds (x := vk) rfl (wpAny_pure ?_)))))))
  refine wpAny_bind (HT.slicePart_ pk ?_)
  show wpAny _ _ (if ((-1 : Int) == 0) = true then _ else _) _ _ s
  rw [if_neg (by decide)]
  refine wpAny_bind (HT.slicePart_ pl (wpAny_bind (HT.slicePart_ pu (wpAny_bind (wpAny_pure ?_)))))
  show wpAny _ _ (match Builtin.Slice.sliceAdjust none none (-1) (n : Int) with | (lo, hi) => pure (lo, (-1 : Int), Builtin.Slice.slicePlaces lo hi (-1))) _ _ s
  rw [(back_places n).1]
  show wpAny _ _ (pure ((n : Int) - 1, (-1 : Int), Builtin.Slice.slicePlaces ((n : Int) - 1) (-1) (-1))) _ _ s
  rw [(back_places n).2]
  exact wpAny_pure h
theorem back_tuple {t sl : Addr} {items : Array Value} {vl vu vk : Value} {Q : Value → Shared → Prop} (ht : IsTup s.heap t items) (hs : s.heap.IsSliceOf sl vl vu vk) (pl : IsPart vl none) (pu : IsPart vu none) (pk : IsPart vk (some (-1)))
    (h : Q (.ref s.heap.objs.size) { s with heap := s.heap.push { cls := .type "tuple", data := .seq items.toList.reverse.toArray } }) (hsz : items.size ≤ sizeLine) : wpAny (model prog w) A (getItem (.ref t) (.ref sl)) Q E s := by
  have room : sizeOk (.seq items.toList.reverse.toArray) := by
    show items.toList.reverse.toArray.size ≤ sizeLine
    rw [List.size_toArray, List.length_reverse, Array.length_toList]
    exact hsz
  obtain ⟨os, hos, hcs, hds⟩ := id hs
  have kind : s.TypeIs (.ref sl) "slice" := ⟨os, hos, hcs⟩
  unfold getItem
  try with_reducible refine wpAny_holding ?_
  first | refine wpAny_bind (wpAny_pure ?_) | skip
  refine wpAny_bind (wpAny_sequenceKey ht.typeIs (by decide) ?_)
  refine wpAny_bind (wpAny_callSpecial?_slot (name := Str.ofString "__getitem__") ht.typeIs PyProof.Rows.slot_tuple_getitem (wpAny_call_entry PyProof.Rows.slot_tuple_getitem ht.typeIs entry_tuple_getitem ?_ (args_tuple_getitem _ _)))
  show wpAny _ _ (Builtin.Tuple.tupleItemsOf (.ref t) >>= _) _ _ s
  refine wpAny_bind (tupleItemsOf_ ht ?_)
  refine wpAny_bind (wpAny_typeOf kind ?_)
  rw [if_pos (by decide)]
  refine wpAny_bind (back_applied hs pl pu pk ?_)
  have no : ¬ ((((items.size : Nat) : Int) - 1 == 0 && (-1 : Int) == 1 && items.size == items.size) = true) := by simp
  show wpAny _ _ (if (((items.size : Nat) : Int) - 1 == 0 && (-1 : Int) == 1 && items.size == items.size) = true then _ else _) _ _ s
  rw [if_neg no, back_pick]
  first
    | exact wpAny_bind (m := Builtin.Tuple.tupleExact _) (wpAny_newObj_type (wpAny_pure ⟨_, rfl, wpAny_pure h⟩) room)
    | exact wpAny_bind (m := Builtin.Tuple.tupleExact _) (wpAny_newObj_type (wpAny_bind (wpAny_pure (wpAny_pure ⟨_, rfl, wpAny_pure h⟩))) room)
    | exact wpAny_bind (wpAny_bind (m := Builtin.Tuple.tupleExact _) (wpAny_newObj_type (wpAny_pure (wpAny_pure ⟨_, rfl, wpAny_pure h⟩)) room))
    | exact wpAny_bind (wpAny_bind (m := Builtin.Tuple.tupleExact _) (wpAny_newObj_type (wpAny_pure ⟨_, rfl, wpAny_pure h⟩) room))
end
def backD : D → Option D
  | .tup xs => some (.tup xs.reverse)
  | .lst xs => some (.lst xs.reverse)
  | _ => none
def tBack (K : PySem.W.Frag) (te : TE) : TE := fun σ H Q => te σ H fun x H1 => ∃ F d z, Fz F H1 ∧ Rep K F d x ∧ backD d = some z ∧ ∀ F' H' v, Grow F H1 F' H' → Rep K F' z v → Q v H'
theorem rep_back {K : PySem.W.Frag} {F : Hp} : ∀ {ds : List D} {xs : List V}, RepL K F ds xs → RepL K F ds.reverse xs.reverse
  | [], _, h => by
    have h : _ = [] := h
    rw [h]; rfl
  | d :: ds, _, ⟨v, vs, h1, h2, h3⟩ => by
    rw [h1, List.reverse_cons, List.reverse_cons]
    exact (rep_back h3).app (.cons h2 .nil)
theorem pe_back {X : Cx} {e : Expr} {te : TE} {k : Nat} {p1 p2 p3 pos : Pos} (he : PE X e te) : PE X (.Subscript e (.Slice none none (some (.UnaryOp .USub (.Constant (.int 1) k p1) p2)) p3) pos) (tBack X.K te) := by
  refine ⟨fun pins s σ H Q I h => ?_⟩
  refine Subscript_ (thn (he.run pins s σ H _ I h) fun v s1 ⟨x, H1, I1, r1, F, d, z, fz, r, ez, q⟩ => ?_)
  have step : PO X (some (.UnaryOp .USub (.Constant (.int 1) k p1) p2)) (tPart (tUn (rU fun i => .int (-i)) (tC (.int 1)))) := po_some (pe_un un_neg pe_int)
  refine wpAny_Slice (thn (po_none.run pins s1 σ H1 (fun o H2 => o = none ∧ H2 = H1) I1 ⟨rfl, rfl⟩) fun vl s2 ⟨l, H2, I2, pl, el, e2⟩ => ?_)
  subst el e2
  refine thn (po_none.run pins s2 σ H2 (fun o H3 => o = none ∧ H3 = H2) I2 ⟨rfl, rfl⟩) fun vu s3 ⟨u, H3, I3, pu, eu, e3⟩ => ?_
  subst eu e3
  refine thn (step.run pins s3 σ H3 (fun o H4 => o = some (-1) ∧ H4 = H3) I3 ⟨1, rfl, -1, rfl, rfl, rfl⟩) fun vs s4 ⟨o, H4, I4, ps, eo, e4⟩ => ?_
  subst eo e4
  have I5 : Inv X pins σ H4 { s4 with heap := s4.heap.push { cls := .type "slice", data := .fields #[vl, vu, vs] } } := I4.kept (t' := s4.toks) fun b ob q => Heap.get?_push_of_some _ q
  cases d with
  | lst ds =>
    cases ez
    obtain ⟨a, xs, r1', r2, r3⟩ := r
    subst r1'
    cases r1
    obtain ⟨its, r, ht, hz⟩ := I5.list (.of (fz.up _ _ r2))
    have hlen := r.length
    show wpAny (model X.prog X.w) X.A (subscriptTail e (.Slice none none (some (.UnaryOp .USub (.Constant (.int 1) k p1) p2)) p3) (.ref a) (.ref s4.heap.objs.size)) (EP X pins σ Q) X.xe { s4 with heap := s4.heap.push { cls := .type "slice", data := .fields #[vl, vu, vs] } }
    refine tail_any (ops := [.ref a, .ref s4.heap.objs.size]) ht.isList.typeIs (PySem.slot_list_getitem.lookup) ?_ (by with_unfolding_all rfl)
    refine wpAny_getItem_list_slice ht.isList (Heap.IsSliceOf.new _ vl vu vs) pl pu ps (by decide) ?_ (by rw [List.size_toArray]; omega)
    rw [PySem.W.krv_pick]
    have fr := I5.hok.fresh (Nat.le_refl _)
    have g := fz.new (o := .lst xs.reverse) fr fun _ z => by cases z
    refine ⟨.ref _, _, I5.laid (t' := s4.toks) (o := .lst xs.reverse) (fun b ob q => Heap.get?_push_of_some _ q) (Nat.le_refl _) ?_, rfl, q _ _ _ g ⟨_, _, rfl, upd_same, (rep_back r3).mono g.fs⟩⟩
    exact ⟨by rw [List.length_reverse]; exact hz, _, 0, r.reverse, Heap.get?_push_size _ rfl⟩
  | tup ds =>
    cases ez
    obtain ⟨a, xs, r1', r2, r3⟩ := r
    subst r1'
    cases r1
    obtain ⟨its, r, ht, hz⟩ := I5.tuple (tup_mono fz.up r2).sq
    have hlen := r.length
    show wpAny (model X.prog X.w) X.A (subscriptTail e (.Slice none none (some (.UnaryOp .USub (.Constant (.int 1) k p1) p2)) p3) (.ref a) (.ref s4.heap.objs.size)) (EP X pins σ Q) X.xe { s4 with heap := s4.heap.push { cls := .type "slice", data := .fields #[vl, vu, vs] } }
    refine tail_any (ops := [.ref a, .ref s4.heap.objs.size]) ht.typeIs (PyProof.Rows.slot_tuple_getitem.lookup) ?_ (by with_unfolding_all rfl)
    refine back_tuple ht (Heap.IsSliceOf.new _ vl vu vs) pl pu ps ?_ (by rw [List.size_toArray]; omega)
    have fr := I5.hok.fresh (Nat.le_refl _)
    have g := fz.new (o := .tup xs.reverse) fr fun _ z => by cases z
    refine ⟨.ref _, _, I5.laid (t' := s4.toks) (o := .tup xs.reverse) (fun b ob q => Heap.get?_push_of_some _ q) (Nat.le_refl _) ?_, rfl, q _ _ _ g ⟨_, _, rfl, .inl upd_same, (rep_back r3).mono g.fs⟩⟩
    exact ⟨by rw [List.length_reverse]; exact hz, _, r.reverse, IsTup.new _ _⟩
  | _ => cases ez
theorem ex_back {c : Cn} {E : WX} {te : TE} {f : M D} (ha : Ex c E te f) : Ex c E (tBack c.K te) (eUn backD f) := by
  intro W F H σ ρ Q R h
  refine ha W F H σ ρ _ R ((h.bind (Rep c.K)).mono fun x H1 ⟨d, ρ1, F1, R1, s1, r1, h1⟩ => ?_)
  obtain ⟨z, e1, k⟩ := h1.lift
  exact ⟨F1, d, z, R1.fz, r1, e1, fun F' H' v gr rv => k F' H' v (R1.grow gr) gr.fs rv⟩
end Pl
/-! a new list is held while something else is worked out -/
namespace Pl
open PySem PySem.Spec PyProof.Rows L2
variable {c : Cn} {E : WX} {np : Nat} {W : Fm} {F H F' H' : Hp} {σ σ' : L2.St} {ρ ρ' : Env}
theorem SlotOk.own_at {x : Option (Option V)} {s : Slot} (h : SlotOk c W F H x s) (o : s.own = true) : ∃ q, x = some (some (.ref q)) ∧ Own c F H q s ∧ W.B q := by
  cases s with
  | u => cases o
  | d _ => cases o
  | e _ => cases o
  | oo _ => cases o
  | al _ => cases o
  | o _ => exact h
  | q _ => exact h
  | qt _ => exact h
/-- a, b = a new list, data -/
def sParM (i j : Nat) (fa : M (List D)) (fb : M D) : S := fun ρ => match fa ρ with
  | .ok ds ρ1 => match fb ρ1 with
    | .ok d ρ2 => .ok .nx ((ρ2.set i (.o ds)).set j (.d d))
    | .ex e ρ2 => .ex e ρ2
    | .bad => .bad
  | .ex e ρ1 => .ex e ρ1
  | .bad => .bad
theorem sx_parM {i j : Nat} {ta tb : TE} {fa : M (List D)} {fb : M D} (ha : Ef c E ta fa) (hb : Ex c E tb fb) (hi : np ≤ i) (hij : i ≠ j) : Sx c E np (tPar i j (tCons ta (tCons tb tNil))) (sParM i j fa fb) := by
  intro W F H σ ρ D hn R h
  refine ha W F H σ ρ _ R ?_
  unfold sParM at h
  revert h
  cases fa ρ with
  | ok ds ρ1 =>
    intro h F1 H1 p R1 s1 fr
    obtain ⟨vs, e1, e2, e3⟩ := fr.own
    have nt : ∀ ps, HO.lst vs ≠ .tbl ps := fun _ z => by cases z
    have hf : W.F0 p = none := by
      cases z : W.F0 p with
      | none => rfl
      | some o => rw [R1.f0 _ _ z] at e3; cases e3
    have b := R1.wb p fr.h0
    refine hb (W.ward p (.lst vs)) F1 H1 σ ρ1 _ (R1.ward e1 nt e3 fr.h0 fr.no) ?_
    dsimp only at h
    revert h
    cases fb ρ1 with
    | ok d ρ2 =>
      intro h F2 H2 w R2 s2 rw'
      obtain ⟨R3, g1, g2, g3⟩ := R2.unward nt (fun _ z => by cases z) fr.h0 hf b
      refine ⟨.ref p, w, rfl, h F2 H2 _ ?_ (s1.trans s2)⟩
      have fr2 : Fresh c W F2 H2 σ ρ2 p ds := ⟨⟨vs, g1, e2.mono s2, g2⟩, fr.h0, g3⟩
      exact (fr2.named R3 (by rw [hn]; exact hi)).store rw' j
    | ex e ρ2 =>
      intro h F2 H2 cls od R2 s2 x
      obtain ⟨R3, _⟩ := R2.unward nt (fun _ z => by cases z) fr.h0 hf b
      exact h F2 H2 σ cls od R3 (s1.trans s2) x
    | bad => exact fun h => h
  | ex e ρ2 => exact fun h F' H' cls od R' s x => h F' H' σ cls od R' s x
  | bad => exact fun h => h
end Pl
/-! own lists of own lists -/
namespace Pl
open PySem PySem.Spec PyProof.Rows L2
variable {c : Cn} {E : WX} {np : Nat} {W : Fm} {F F' H H' : Hp} {σ σ' : L2.St} {ρ ρ' : Env}
/-- the frame that keeps p and rs for a list of lists -/
def Fm.nest (W : Fm) (p : Addr) (rs : List Addr) : Fm := { W with
  B := fun a => W.B a ∧ a ∉ p :: rs
  H0 := fun a => if a ∈ p :: rs then some (.tbl #[]) else W.H0 a
  pn := some (p, rs) }
theorem nest_in {p a : Addr} {rs : List Addr} (h : a ∈ p :: rs) : (W.nest p rs).H0 a = some (.tbl #[]) := if_pos h
theorem nest_out {p a : Addr} {rs : List Addr} (h : a ∉ p :: rs) : (W.nest p rs).H0 a = W.H0 a := if_neg h
def noOO (ρ : Env) : Bool := ρ.all fun s => match s with
  | .oo _ => false
  | _ => true
theorem noOO_at {i : Nat} {xss : List (List D)} (h : noOO ρ = true) : ρ[i]? ≠ some (.oo xss) := fun e => by
  have := List.all_eq_true.mp h _ (List.mem_of_getElem? e)
  cases this
def noN (ρ : Env) : Bool := ρ.all fun s => !s.isN
theorem noN_at {i : Nat} {s : Slot} (h : noN ρ = true) (n : s.isN = true) : ρ[i]? ≠ some s := fun e => by
  have := List.all_eq_true.mp h _ (List.mem_of_getElem? e)
  rw [n] at this
  cases this
/-- into it -/
theorem Rel.nest {p : Addr} {rs : List Addr} {xss : List (List D)} (R : Rel c W F H σ ρ) (ho : noN ρ = true) (h : OwnN c F H p rs xss) (no : ∀ (j : Nat) (t : Slot) (a : Addr), ρ[j]? = some t → t.own = true → σ[j]? = some (some (.ref a)) → a ∉ p :: rs) : Rel c (W.nest p rs) F H σ ρ := by
  refine ⟨R.sub, R.nt, R.tab, R.len, fun i s es => ?_, R.dis, fun a ha => ?_, R.pa, fun i s q hi es os eq => ?_, fun a ha => ?_, fun a u nb ha nu => ?_, R.f0, fun a th ha => ?_⟩
  · have k := R.here i s es
    cases os : s.own with
    | false => cases s <;> first | exact k | exact absurd es (noN_at ho rfl) | cases os
    | true =>
      obtain ⟨q, e1, e2, e3⟩ := k.own_at os
      exact SlotOk.of_own e1 e2 ⟨e3, no i s q es os e1⟩
  · by_cases z : a ∈ p :: rs
    · rw [nest_in z] at ha; cases ha
    · rw [nest_out z] at ha; exact ⟨R.wb a ha, z⟩
  · rw [nest_out (no i s q es os eq)]
    exact R.lo i s q hi es os eq
  · by_cases z : a ∈ p :: rs
    · obtain ⟨_, vs, e⟩ := h.at a z
      rw [bl_of e fun _ z => by cases z] at ha; cases ha
    · rw [nest_out z]; exact R.st a ha
  · by_cases z : a ∈ p :: rs
    · rw [nest_in z] at ha
      exact absurd (Option.some.inj ha).symm (nu _)
    · rw [nest_out z] at ha
      exact R.kp a u (fun b => nb ⟨b, z⟩) ha nu
  · by_cases z : a ∈ p :: rs
    · exact th0 (h.at a z).1
    · rw [nest_out z] at ha; exact R.nf a th ha
/-- a name comes to stand for it -/
theorem Rel.nameN {i : Nat} {p : Addr} {rs : List Addr} {xss : List (List D)} (R : Rel c W F H σ ρ) (hp : W.pn = some (p, rs)) (k : KeptN W (p :: rs)) (h : OwnN c F H p rs xss) : Rel c W F H (σ.set i (some (.ref p))) (ρ.set i (.oo xss)) :=
  R.plain i rfl ⟨p, rs, rfl, hp, k, h⟩
/-- out of it, where no name stands for it any more -/
theorem Rel.unnest {p : Addr} {rs : List Addr} (R : Rel c (W.nest p rs) F' H' σ' ρ') (ho : noN ρ' = true) (wb : ∀ a, W.H0 a = none → W.B a) (h0 : ∀ a ∈ p :: rs, W.H0 a = none) : Rel c W F' H' σ' ρ' := by
  have no : ∀ (j : Nat) (t : Slot) (a : Addr), ρ'[j]? = some t → t.own = true → σ'[j]? = some (some (.ref a)) → a ∉ p :: rs := fun j t a e ot z => by
    obtain ⟨q, e1, e2, e3⟩ := (R.here j t e).own_at ot
    rw [z] at e1
    cases e1
    exact e3.2
  refine ⟨R.sub, R.nt, R.tab, R.len, fun i s es => ?_, R.dis, wb, R.pa, fun i s q hi es os eq => ?_, fun a ha => ?_, fun a u nb ha nu => ?_, R.f0, fun a th ha => ?_⟩
  · have k := R.here i s es
    cases os : s.own with
    | false => cases s <;> first | exact k | exact absurd es (noN_at ho rfl) | cases os
    | true =>
      obtain ⟨q, e1, e2, e3⟩ := k.own_at os
      exact SlotOk.of_own e1 e2 e3.1
  · have l := R.lo i s q hi es os eq
    rw [nest_out (no i s q es os eq)] at l
    exact l
  · by_cases z : a ∈ p :: rs
    · exact h0 a z
    · have l := R.st a ha
      rw [nest_out z] at l
      exact l
  · by_cases z : a ∈ p :: rs
    · rw [h0 a z] at ha; cases ha
    · exact R.kp a u (fun b => nb b.1) (by rw [nest_out z]; exact ha) nu
  · by_cases z : a ∈ p :: rs
    · exact absurd (h0 a z) ha
    · exact R.nf a th (by rw [nest_out z]; exact ha)
/-- one of the inner lists is changed -/
theorem OwnN.put {p r : Addr} {rs : List Addr} {xss : List (List D)} {k : Nat} {xs : List D} {vs : List V} (h : OwnN c F H p rs xss) (er : rs[k]? = some r) (rv : RepL c.K F xs vs) : OwnN c F (upd H r (.lst vs)) p rs (xss.set k xs) := by
  have mr : r ∈ rs := List.mem_of_getElem? er
  have nd := List.nodup_cons.mp h.nd
  have pr : p ≠ r := fun z => nd.1 (by rw [z]; exact mr)
  have hk : k < rs.length := (List.getElem?_eq_some_iff.mp er).1
  refine ⟨by rw [upd_ne pr]; exact h.out, h.fp, by rw [List.length_set]; exact h.len, h.nd, fun j q ys e1 e2 => ?_⟩
  by_cases z : j = k
  · subst z
    rw [er] at e1
    cases e1
    rw [List.getElem?_set_self (by rw [← h.len]; exact hk)] at e2
    cases e2
    exact ⟨vs, upd_same, rv, (h.at r (List.mem_cons_of_mem _ mr)).1⟩
  · rw [List.getElem?_set_ne (Ne.symm z)] at e2
    obtain ⟨ws, q1, q2, q3⟩ := h.inn j q ys e1 e2
    have qr : q ≠ r := fun w => by
      subst w
      obtain ⟨hj, ej⟩ := List.getElem?_eq_some_iff.mp e1
      obtain ⟨hk', ek⟩ := List.getElem?_eq_some_iff.mp er
      exact z ((List.getElem_inj nd.2).mp (ej.trans ek.symm))
    exact ⟨ws, by rw [upd_ne qr]; exact q1, q2, q3⟩
theorem Rel.writeN {i k : Nat} {p r : Addr} {rs : List Addr} {xss : List (List D)} {xs : List D} {vs : List V} (R : Rel c W F H σ ρ) (e : ρ[i]? = some (.oo xss)) (ho : noOO (ρ.set i .u) = true) (hp : W.pn = some (p, rs)) (er : rs[k]? = some r) (rv : RepL c.K F xs vs) : Rel c W F (upd H r (.lst vs)) σ (ρ.set i (.oo (xss.set k xs))) := by
  obtain ⟨p', rs', e1, e2, e3, e4⟩ := R.here i _ e
  rw [hp] at e2
  cases e2
  have mr : r ∈ p :: rs := List.mem_cons_of_mem _ (List.mem_of_getElem? er)
  obtain ⟨fr, ws, hr⟩ := e4.at r mr
  obtain ⟨nb, tb, h0⟩ := e3 r mr
  refine ⟨fun a u q => ?_, R.nt, fun q hq => tabS_put (R.tab q hq) hr (fun _ z => by cases z) (fun _ z => by cases z), by rw [List.length_set, R.len], fun j t q => ?_, fun j l t u q f1 f2 o1 o2 a1 a2 => ?_, R.wb, fun j q m => ⟨(R.pa j q m).1, fun t f ot => ?_⟩, fun j t q hj f ot b => ?_, fun b q => R.st b ?_, fun b u h1 h2 h3 => ?_, R.f0, R.nf⟩
  · rw [upd_ne (fun z => by rw [z, fr] at q; cases q)]
    exact R.sub a u q
  · rcases set_at q with ⟨n1, l1, z1⟩ | ⟨n1, q1⟩
    · subst n1 z1
      exact ⟨p, rs, e1, hp, e3, e4.put er rv⟩
    · have nt : ∀ yss, t ≠ .oo yss := fun yss z => by
        subst z
        have w : (ρ.set i .u)[j]? = some (.oo yss) := by rw [List.getElem?_set_ne n1]; exact q1
        exact noOO_at ho w
      have kk := R.here j t q1
      cases ot : t.own with
      | false => cases t <;> first | exact kk | exact absurd rfl (nt _) | cases ot
      | true =>
        obtain ⟨a, y1, y2, y3⟩ := kk.own_at ot
        have z : a ≠ r := fun z => nb (by rw [← z]; exact y3)
        exact SlotOk.of_own y1 (y2.mono (Same.refl _) y2.at.1 fun o f _ => by rw [upd_ne z]; exact f) y3
  · rcases set_at f1 with ⟨_, _, z⟩ | ⟨_, f1⟩
    · subst z; cases o1
    · rcases set_at f2 with ⟨_, _, z⟩ | ⟨_, f2⟩
      · subst z; cases o2
      · exact R.dis j l t u q f1 f2 o1 o2 a1 a2
  · rcases set_at f with ⟨_, _, z⟩ | ⟨_, f⟩
    · subst z; cases ot
    · exact (R.pa j q m).2 t f ot
  · rcases set_at f with ⟨_, _, z⟩ | ⟨_, f⟩
    · subst z; cases ot
    · exact R.lo j t q hj f ot b
  · by_cases z : b = r
    · rw [z, bl_of upd_same fun _ z => by cases z] at q; cases q
    · unfold bl at q ⊢
      rw [upd_ne z] at q
      exact q
  · have z : b ≠ r := fun z => by
      rw [z, h0] at h2
      exact h3 tb (Option.some.inj h2).symm
    rw [upd_ne z]
    exact R.kp b u h1 h2 h3
end Pl
/-! own lists of own lists: row = rows[k]; row[j]; row[j] = x -/
namespace Pl
open PySem PySem.Spec PyProof.Rows L2
variable {c : Cn} {E : WX} {np : Nat}
theorem ixN_lt {m n : Nat} {k : Int} (h : ixN m k = some n) : n < m := by
  unfold ixN at h
  split at h
  · split at h
    · injection h with h; omega
    · cases h
  · split at h
    · injection h with h; omega
    · cases h
theorem at_refs {rs : List Addr} {m n : Nat} {k : Int} (hl : rs.length = m) (h : ixN m k = some n) : ∃ r, rs[n]? = some r ∧ atI (rs.map V.ref) k = some (.ref r) := by
  have l : n < rs.length := by rw [hl]; exact ixN_lt h
  refine ⟨rs[n], List.getElem?_eq_getElem l, ?_⟩
  unfold atI
  rw [List.length_map, hl, h]
  show (rs.map V.ref)[n]? = _
  rw [List.getElem?_map, List.getElem?_eq_getElem l]
  rfl
/-- row = rows[k] -/
def sAlias (j i : Nat) (fk : M D) : S := fun ρ => match ρ[i]? with
  | some (.oo _) => (fk.bind fun d ρ => match ρ[i]?, d with
    | some (.oo xss), .int k => match ixN xss.length k with
      | some n => .ok .nx (ρ.set j (.al n))
      | none => .bad
    | _, _ => .bad) ρ
  | _ => .bad
theorem sx_alias {i j : Nat} {tb : TE} {fk : M D} (hk : Ex c E tb fk) : Sx c E np (tAsg (tOp (rIx c.K) (tVar i) tb) (gName j)) (sAlias j i fk) := by
  intro W F H σ ρ D hn R h
  unfold sAlias at h
  split at h
  · rename_i e
    obtain ⟨p, rs, a, hp, _, _⟩ := R.here i _ e
    refine ⟨.ref p, a, hk W F H σ ρ _ R ((SPost.bind (Rep c.K) h).mono fun y H2 ⟨d, ρ2, F2, R2, s2, r2, h2⟩ => ?_)⟩
    revert h2
    cases e2 : ρ2[i]? with
    | none => exact fun h2 => by cases d <;> exact h2.elim
    | some s' =>
      cases s' with
      | oo xss =>
        cases d with
        | int k =>
          intro h2
          have h2 : SPost c W F2 E D (match ixN xss.length k with
            | some n => .ok .nx (ρ2.set j (.al n))
            | none => .bad) := h2
          cases en : ixN xss.length k with
          | none => rw [en] at h2; exact h2.elim
          | some n =>
            rw [en] at h2
            obtain ⟨p', rs', a', hp', kn, ow⟩ := R2.here i _ e2
            rw [a] at a'
            cases a'
            rw [hp] at hp'
            cases hp'
            obtain rfl : y = .int k := r2
            obtain ⟨r, er, ev⟩ := at_refs ow.len en
            refine .inl ⟨p, rs.map V.ref, k, .ref r, rfl, rfl, .of ow.out, ev, ?_⟩
            exact h2 F2 _ _ (R2.plain j rfl ⟨p, rs, r, rfl, hp, er⟩) (Same.refl _)
        | _ => exact fun h2 => h2.elim
      | _ => exact fun h2 => by cases d <;> exact h2.elim
  · exact h.elim
/-- row[k], where row is one of the lists of i -/
def eIxA (j i : Nat) (fk : M D) : M D := fun ρ => match ρ[j]? with
  | some (.al n) => (fk.bind fun d ρ => match ρ[i]? with
    | some (.oo xss) => match xss[n]? with
      | some xs => M.lift (atO xs d) ρ
      | none => .bad
    | _ => .bad) ρ
  | _ => .bad
theorem ex_ixA {i j : Nat} {tb : TE} {fk : M D} (hk : Ex c E tb fk) : Ex c E (tOp (rIx c.K) (tVar j) tb) (eIxA j i fk) := by
  intro W F H σ ρ Q R h
  unfold eIxA at h
  split at h
  · rename_i n e
    obtain ⟨p, rs, r, a, hp, er⟩ := R.here j _ e
    refine ⟨.ref r, a, hk W F H σ ρ _ R ((h.bind (Rep c.K)).mono fun y H2 ⟨d, ρ2, F2, R2, s2, r2, h2⟩ => ?_)⟩
    revert h2
    cases e2 : ρ2[i]? with
    | none => exact fun h2 => h2.elim
    | some s' =>
      cases s' with
      | oo xss =>
        intro h2
        have h2 : Post c W F2 σ E (Rep c.K) (match xss[n]? with
          | some xs => M.lift (atO xs d) ρ2
          | none => .bad) Q := h2
        cases ex : xss[n]? with
        | none => rw [ex] at h2; exact h2.elim
        | some xs =>
          rw [ex] at h2
          obtain ⟨z, ez, k⟩ := Post.lift h2
          obtain ⟨p', rs', a', hp', kn, ow⟩ := R2.here i _ e2
          rw [hp] at hp'
          cases hp'
          obtain ⟨vs, q1, q2, q3⟩ := ow.inn n r xs er ex
          cases d with
          | int l =>
            obtain ⟨v, ev, rz⟩ := atI_rep q2 ez
            obtain rfl : y = .int l := r2
            exact .inl ⟨r, vs, l, v, rfl, rfl, .of q1, ev, k F2 H2 v R2 (Same.refl _) rz⟩
          | _ => cases ez
      | _ => exact fun h2 => h2.elim
  · exact h.elim
/-- row[k] = x -/
def sSetA (j i : Nat) (fk f : M D) : S := f.bind fun d ρ => match ρ[j]? with
  | some (.al n) => (fk.bind fun k ρ => match ρ[i]?, k with
    | some (.oo xss), .int k => if noOO (ρ.set i .u) = true then match xss[n]? with
      | some xs => match ixN xs.length k with
        | some l => .ok .nx (ρ.set i (.oo (xss.set n (xs.set l d))))
        | none => .bad
      | none => .bad
      else .bad
    | _, _ => .bad) ρ
  | _ => .bad
theorem sx_setA {i j : Nat} {te tk : TE} {f fk : M D} (he : Ex c E te f) (hk : Ex c E tk fk) : Sx c E np (tAsg te (gSub (tVar j) tk rSetL)) (sSetA j i fk f) := by
  intro W F H σ ρ D hn R h
  refine he W F H σ ρ _ R ((SPost.bind (Rep c.K) h).mono fun v H1 ⟨d, ρ1, F1, R1, s1, r1, h1⟩ => ?_)
  split at h1
  · rename_i n e
    obtain ⟨p, rs, r, a, hp, er⟩ := R1.here j _ e
    refine ⟨.ref r, a, hk W F1 H1 σ ρ1 _ R1 ((SPost.bind (Rep c.K) h1).mono fun y H2 ⟨k, ρ2, F2, R2, s2, r2, h2⟩ => ?_)⟩
    revert h2
    cases e2 : ρ2[i]? with
    | none => exact fun h2 => by cases k <;> exact h2.elim
    | some s' =>
      cases s' with
      | oo xss =>
        cases k with
        | int k =>
          intro h2
          have h2 : SPost c W F2 E D (if noOO (ρ2.set i .u) = true then match xss[n]? with
            | some xs => match ixN xs.length k with
              | some l => .ok .nx (ρ2.set i (.oo (xss.set n (xs.set l d))))
              | none => .bad
            | none => .bad
            else .bad) := h2
          split at h2
          · rename_i ho
            cases ex : xss[n]? with
            | none => rw [ex] at h2; exact h2.elim
            | some xs =>
              rw [ex] at h2
              dsimp only at h2
              cases el : ixN xs.length k with
              | none => rw [el] at h2; exact h2.elim
              | some l =>
                rw [el] at h2
                obtain ⟨p', rs', a', hp', kn, ow⟩ := R2.here i _ e2
                rw [hp] at hp'
                cases hp'
                obtain ⟨vs, q1, q2, q3⟩ := ow.inn n r xs er ex
                obtain rfl : y = .int k := r2
                refine ⟨r, vs, k, l, rfl, rfl, q1, by rw [← q2.len]; exact el, ?_⟩
                exact h2 F2 _ σ (R2.writeN e2 ho hp er (q2.set l (r1.mono s2))) (Same.refl _)
          · exact h2.elim
        | _ => exact fun h2 => h2.elim
      | _ => exact fun h2 => by cases k <;> exact h2.elim
  · exact h1.elim
end Pl
/-! rows = [[..], ..]: into a frame that keeps them, behind the suite out of it -/
namespace Pl
open PySem PySem.Spec PyProof.Rows L2
variable {c : Cn} {E : WX} {np : Nat} {W : Fm} {F F' H H' : Hp} {σ σ' : L2.St} {ρ ρ' : Env}
def unN (ρ : Env) : Env := ρ.map fun s => if s.isN = true then .u else s
theorem unN_get {i : Nat} {s : Slot} (h : (unN ρ)[i]? = some s) : s.isN = false ∧ (s = .u ∨ ρ[i]? = some s) := by
  unfold unN at h
  rw [List.getElem?_map] at h
  cases e : ρ[i]? with
  | none => rw [e] at h; cases h
  | some t =>
    rw [e] at h
    have h : (if t.isN = true then Slot.u else t) = s := Option.some.inj h
    split at h
    · exact ⟨by rw [← h]; rfl, .inl h.symm⟩
    · rename_i n
      exact ⟨by rw [← h]; simpa using n, .inr (by rw [h])⟩
theorem unN_own {i : Nat} {s : Slot} (h : (unN ρ)[i]? = some s) (o : s.own = true) : ρ[i]? = some s := by
  rcases (unN_get h).2 with z | z
  · rw [z] at o; cases o
  · exact z
theorem noN_unN (ρ : Env) : noN (unN ρ) = true := List.all_eq_true.mpr fun s m => by
  obtain ⟨i, e⟩ := List.getElem?_of_mem m
  rw [(unN_get e).1]
  rfl
theorem Rel.unN (R : Rel c W F H σ ρ) : Rel c W F H σ (unN ρ) where
  sub := R.sub
  nt := R.nt
  tab := R.tab
  len := by unfold Pl.unN; rw [List.length_map]; exact R.len
  here := fun i s e => by
    rcases (unN_get e).2 with z | z
    · subst z; exact trivial
    · exact R.here i s z
  dis := fun i j s t p e1 e2 o1 o2 a1 a2 => R.dis i j s t p (unN_own e1 o1) (unN_own e2 o2) o1 o2 a1 a2
  wb := R.wb
  pa := fun j p h => ⟨(R.pa j p h).1, fun s e o => (R.pa j p h).2 s (unN_own e o) o⟩
  lo := fun i s p hi e o a => R.lo i s p hi (unN_own e o) o a
  st := R.st
  kp := R.kp
  f0 := R.f0
  nf := R.nf
/-- a new list of new lists -/
def PostN (c : Cn) (W : Fm) (F : Hp) (σ : L2.St) (E : WX) (r : Rs (List (List D))) (Q : VK) : Prop := match r with
  | .ok xss ρ' => ∀ F' H' p rs, Rel c W F' H' σ ρ' → Same F F' → OwnN c F' H' p rs xss → (∀ a ∈ p :: rs, W.H0 a = none) → (∀ (j : Nat) (t : Slot) (a : Addr), ρ'[j]? = some t → t.own = true → σ[j]? = some (some (.ref a)) → a ∉ p :: rs) → Q (.ref p) H'
  | .ex e ρ' => ∀ F' H' cls od, Rel c W F' H' σ ρ' → Same F F' → XRep c F' H' e cls od → E cls od σ H'
  | .bad => False
def En (c : Cn) (E : WX) (t : TE) (f : M (List (List D))) : Prop := ∀ W F H σ ρ Q, Rel c W F H σ ρ → PostN c W F σ E (f ρ) Q → t σ H Q
def sNest (i : Nat) (f : M (List (List D))) (s : S) : S := fun ρ => match f ρ with
  | .ok xss ρ1 => if noN ρ1 = true then (match s (ρ1.set i (.oo xss)) with
    | .ok k ρ2 => .ok k (unN ρ2)
    | .ex e ρ2 => .ex e (unN ρ2)
    | .bad => .bad) else .bad
  | .ex e ρ1 => .ex e ρ1
  | .bad => .bad
theorem sx_nest {i : Nat} {tm : TE} {fm : M (List (List D))} {tr : TS} {s : S} (hm : En c E tm fm) (hs : Sx c E np tr s) : Sx c E np (tSeq (tAsg tm (gName i)) tr) (sNest i fm s) := by
  intro W F H σ ρ D hn R h
  refine hm W F H σ ρ _ R ?_
  unfold sNest at h
  revert h
  cases fm ρ with
  | bad => exact fun h => h
  | ex e ρ1 => exact fun h F' H' cls od R' s x => h F' H' σ cls od R' s x
  | ok xss ρ1 =>
    intro h F1 H1 p rs R1 s1 ow h0 no
    dsimp only at h
    split at h
    · rename_i ho
      have R2 : Rel c (W.nest p rs) F1 H1 (σ.set i (some (.ref p))) (ρ1.set i (.oo xss)) := (R1.nest ho ow no).nameN rfl (fun a m => ⟨fun z => z.2 m, #[], nest_in m⟩) ow
      refine hs (W.nest p rs) F1 H1 _ _ D hn R2 ?_
      have out : ∀ {F' H' : Hp} {σ' : L2.St} {ρ2 : Env}, Rel c (W.nest p rs) F' H' σ' ρ2 → Rel c W F' H' σ' (unN ρ2) := fun R' => R'.unN.unnest (noN_unN _) R1.wb h0
      revert h
      cases s (ρ1.set i (.oo xss)) with
      | bad => exact fun h => h
      | ex e ρ2 => exact fun h F' H' σ' cls od R' s' x => h F' H' σ' cls od (out R') (s1.trans s') x
      | ok k ρ2 =>
        cases k with
        | nx => exact fun h F' H' σ' R' s' => h F' H' σ' (out R') (s1.trans s')
        | ct => exact fun h F' H' σ' R' s' => h F' H' σ' (out R') (s1.trans s')
        | bk => exact fun h F' H' σ' R' s' => h F' H' σ' (out R') (s1.trans s')
        | rt d => exact fun h F' H' σ' v R' s' r => h F' H' σ' v (out R') (s1.trans s') r
        | rn ds =>
          intro h F' H' σ' q R' s' fr
          have nq : q ∉ p :: rs := fun z => by
            have := fr.h0
            rw [nest_in z] at this
            cases this
          exact h F' H' σ' q (out R') (s1.trans s') ⟨fr.own, by have := fr.h0; rw [nest_out nq] at this; exact this, fun j t e o => fr.no j t (unN_own e o) o⟩
    · exact h.elim
end Pl
/-! what nobody has a name for, kept while something else goes on (for lists of lists being made) -/
namespace Pl
open PySem PySem.Spec PyProof.Rows L2
variable {c : Cn} {E : WX} {np : Nat} {W : Fm} {F H F' H' m : Hp} {σ σ' : L2.St} {ρ ρ' : Env}
/-- what stands at the addresses of m is out of reach -/
def Fm.keep (W : Fm) (m : Hp) : Fm := { W with B := fun a => W.B a ∧ m a = none, H0 := fun a => match m a with
  | some o => some o
  | none => W.H0 a }
theorem keep_none {a : Addr} (h : m a = none) : (W.keep m).H0 a = W.H0 a := by
  show (match m a with | some o => some o | none => W.H0 a) = _
  rw [h]
theorem keep_some {a : Addr} {o : HO} (h : m a = some o) : (W.keep m).H0 a = some o := by
  show (match m a with | some o => some o | none => W.H0 a) = _
  rw [h]
/-- m stands in the heap, and nobody has it -/
structure Kept (W : Fm) (F H m : Hp) (σ : L2.St) (ρ : Env) : Prop where
  at' : ∀ a o, m a = some o → H a = some o
  nt : ∀ a o, m a = some o → ∀ ps, o ≠ .tbl ps
  nu : ∀ a o, m a = some o → ∀ xs, o ≠ .tup xs
  fr : ∀ a o, m a = some o → F a = none
  h0 : ∀ a o, m a = some o → W.H0 a = none
  no : ∀ (j : Nat) (t : Slot) (a : Addr), ρ[j]? = some t → t.own = true → σ[j]? = some (some (.ref a)) → m a = none
theorem Rel.enter (R : Rel c W F H σ ρ) (hn : noN ρ = true) (k : Kept W F H m σ ρ) : Rel c (W.keep m) F H σ ρ := by
  refine ⟨R.sub, R.nt, R.tab, R.len, fun i s es => ?_, R.dis, fun a ha => ?_, R.pa, fun i s q hi es os eq => ?_, fun a ha => ?_, fun a u nb ha nu => ?_, R.f0, fun a th ha => ?_⟩
  · have h := R.here i s es
    cases os : s.own with
    | false => cases s <;> first | exact h | exact absurd es (noN_at hn rfl) | cases os
    | true =>
      obtain ⟨q, e1, e2, e3⟩ := h.own_at os
      exact SlotOk.of_own e1 e2 ⟨e3, k.no i s q es os e1⟩
  · cases z : m a with
    | some o => rw [keep_some z] at ha; cases ha
    | none => rw [keep_none z] at ha; exact ⟨R.wb a ha, z⟩
  · rw [keep_none (k.no i s q es os eq)]
    exact R.lo i s q hi es os eq
  · cases z : m a with
    | some o => rw [bl_of (k.at' a o z) (k.nt a o z)] at ha; cases ha
    | none => rw [keep_none z]; exact R.st a ha
  · cases z : m a with
    | some o =>
      rw [keep_some z] at ha
      cases ha
      exact k.at' a _ z
    | none =>
      rw [keep_none z] at ha
      exact R.kp a u (fun b => nb ⟨b, z⟩) ha nu
  · cases z : m a with
    | some o => exact th0 (k.fr a o z)
    | none => rw [keep_none z] at ha; exact R.nf a th ha
/-- and out again; W0: the frame's own promises -/
theorem Rel.leave (R : Rel c (W.keep m) F' H' σ' ρ') (hn : noN ρ' = true) (wb : ∀ a, W.H0 a = none → W.B a) (k : Kept W F H m σ ρ) (f0 : Same W.F0 F) : Rel c W F' H' σ' ρ' ∧ Kept W F' H' m σ' ρ' := by
  have no : ∀ (j : Nat) (t : Slot) (a : Addr), ρ'[j]? = some t → t.own = true → σ'[j]? = some (some (.ref a)) → m a = none := fun j t a e ot z => by
    obtain ⟨q, e1, e2, e3⟩ := (R.here j t e).own_at ot
    rw [z] at e1
    cases e1
    exact e3.2
  have hp : ∀ a o, m a = some o → H' a = some o := fun a o z => R.kp a o (fun b => by rw [b.2] at z; cases z) (keep_some z) (k.nt a o z)
  refine ⟨⟨R.sub, R.nt, R.tab, R.len, fun i s es => ?_, R.dis, wb, R.pa, fun i s q hi es os eq => ?_, fun a ha => ?_, fun a u nb ha nu => ?_, R.f0, fun a th ha => ?_⟩, ⟨hp, k.nt, k.nu, fun a o z => ?_, k.h0, no⟩⟩
  · have h := R.here i s es
    cases os : s.own with
    | false => cases s <;> first | exact h | exact absurd es (noN_at hn rfl) | cases os
    | true =>
      obtain ⟨q, e1, e2, e3⟩ := h.own_at os
      exact SlotOk.of_own e1 e2 e3.1
  · have l := R.lo i s q hi es os eq
    rw [keep_none (no i s q es os eq)] at l
    exact l
  · have l := R.st a ha
    cases z : m a with
    | some o => exact k.h0 a o z
    | none => rw [keep_none z] at l; exact l
  · cases z : m a with
    | some o => rw [k.h0 a o z] at ha; cases ha
    | none => exact R.kp a u (fun b => nb b.1) (by rw [keep_none z]; exact ha) nu
  · cases z : m a with
    | some o => exact absurd (k.h0 a o z) ha
    | none => exact R.nf a th (by rw [keep_none z]; exact ha)
  · have t : Th W.F0 a := fun u q => absurd (f0 _ _ q) (by rw [k.fr a o z]; intro w; cases w)
    have th : Th F' a := R.nf a t (by rw [keep_some z]; intro w; cases w)
    exact th.none R.sub (hp a o z) (k.nu a o z)
end Pl
/-! row.append(x) -/
namespace Pl
open PySem PySem.Spec PyProof.Rows L2
variable {c : Cn} {E : WX} {np : Nat}
def sAppA (j i : Nat) (f : M D) : S := fun ρ => match ρ[j]?, ρ[i]? with
  | some (.al n), some (.oo yss) => if n < yss.length then (f.bind fun d ρ => match ρ[i]? with
    | some (.oo xss) => if noOO (ρ.set i .u) = true then match xss[n]? with
      | some xs => if xs.length < 100000 then .ok .nx (ρ.set i (.oo (xss.set n (xs ++ [d])))) else .bad
      | none => .bad
      else .bad
    | _ => .bad) ρ else .bad
  | _, _ => .bad
theorem sx_appA {i j : Nat} {te : TE} {f : M D} (he : Ex c E te f) : Sx c E np (tDrop (tBM c.K "list" rAppend (tVar j) (tCons te tNil))) (sAppA j i f) := by
  intro W F H σ ρ D hn R h
  unfold sAppA at h
  split at h
  · rename_i n yss e e0
    split at h
    · rename_i hn'
      obtain ⟨p, rs, r, a, hp, er⟩ := R.here j _ e
      obtain ⟨p0, rs0, a0, hp0, kn0, ow0⟩ := R.here i _ e0
      rw [hp] at hp0
      cases hp0
      obtain ⟨ws, w1, _, _⟩ := ow0.inn n r yss[n] er (List.getElem?_eq_getElem hn')
      refine ⟨.ref r, a, .inl ⟨rfl, ws, .of w1⟩, he W F H σ ρ _ R ((SPost.bind (Rep c.K) h).mono fun y H2 ⟨d, ρ2, F2, R2, s2, r2, h2⟩ => ?_)⟩
      revert h2
      cases e2 : ρ2[i]? with
      | none => exact fun h2 => h2.elim
      | some s' =>
        cases s' with
        | oo xss =>
          intro h2
          have h2 : SPost c W F2 E D (if noOO (ρ2.set i .u) = true then match xss[n]? with
            | some xs => if xs.length < 100000 then .ok .nx (ρ2.set i (.oo (xss.set n (xs ++ [d])))) else .bad
            | none => .bad
            else .bad) := h2
          split at h2
          · rename_i ho
            cases ex : xss[n]? with
            | none => rw [ex] at h2; exact h2.elim
            | some xs =>
              rw [ex] at h2
              dsimp only at h2
              split at h2
              · rename_i hl
                obtain ⟨p', rs', a', hp', kn, ow⟩ := R2.here i _ e2
                rw [hp] at hp'
                cases hp'
                obtain ⟨vs, q1, q2, q3⟩ := ow.inn n r xs er ex
                refine ⟨r, vs, y, rfl, rfl, q1, by rw [← q2.len]; exact h100' hl, ?_⟩
                exact h2 F2 _ σ (R2.writeN e2 ho hp er (q2.app (.cons r2 .nil))) (Same.refl _)
              · exact h2.elim
          · exact h2.elim
        | _ => exact fun h2 => h2.elim
    · exact h.elim
  · exact h.elim
end Pl
/-! [a new list for x in xs] -/
namespace Pl
open PySem PySem.Spec PyProof.Rows L2
variable {c : Cn} {E : WX} {np : Nat}
def lcN (gd : D → Env → Option Env) (te : M (List D)) (vs : List Nat) : List D → Env → Rs (List (List D))
  | [], ρ => .ok [] ρ
  | x :: xs, ρ => if noN (wipeE ρ vs) = true then match gd x (wipeE ρ vs) with
    | none => .bad
    | some ρ1 => match te ρ1 with
      | .ok ds ρ2 => if noN ρ2 = true then match lcN gd te vs xs ρ2 with
        | .ok r ρ3 => .ok (ds :: r) ρ3
        | _ => .bad
        else .bad
      | _ => .bad
    else .bad
def eLcN (it : M (List D)) (gd : D → Env → Option Env) (te : M (List D)) (vs : List Nat) : M (List (List D)) := fun ρ => match it ρ with
  | .ok xs ρ1 => if calmE ρ1 vs = true then match lcN gd te vs xs ρ1 with
    | .ok xss ρ' => if xss.length ≤ 100000 then .ok xss (restE ρ1 ρ' vs) else .bad
    | _ => .bad
    else .bad
  | .ex e ρ1 => .ex e ρ1
  | .bad => .bad
theorem en_lc {wi : TI} {fi : M (List D)} {g : TG} {is vs : List Nat} {gd : D → Env → Option Env} {te : TE} {fe : M (List D)} (hi : Ix c E wi fi) (hg : Gx c g is gd) (hv : ∀ j ∈ is, j ∈ vs) (he : Ef c E0w te fe) : En c E (tLc wi g tYes te vs) (eLcN fi gd fe vs) := by
  intro W F H σ ρ Q R h
  refine hi W F H σ ρ _ R ?_
  unfold eLcN at h
  revert h
  cases fi ρ with
  | bad => exact fun h => h
  | ex e ρ1 => exact fun h F' H' cls od R' s x => h F' H' cls od R' s x
  | ok ds ρ1 =>
    intro h F1 H1 J R1 s1 w
    dsimp only at h
    obtain ⟨hc, es, ρ', hl, hz, q⟩ : calmE ρ1 vs = true ∧ ∃ es ρ', lcN gd fe vs ds ρ1 = .ok es ρ' ∧ es.length ≤ 100000 ∧ PostN c W F σ E (.ok es (restE ρ1 ρ' vs)) Q := by
      split at h
      · rename_i hc
        revert h
        cases hl : lcN gd fe vs ds ρ1 with
        | ok es ρ' =>
          intro h
          have h : PostN c W F σ E (if es.length ≤ 100000 then .ok es (restE ρ1 ρ' vs) else .bad) Q := h
          split at h
          · exact ⟨hc, es, ρ', rfl, by assumption, h⟩
          · exact h.elim
        | ex e ρ' => exact fun q => q.elim
        | bad => exact fun q => q.elim
      · exact h.elim
    intro D hD
    have h0 : W.H0 D = none := R1.st D (bl_none hD)
    have hB : W.B D := R1.wb D h0
    let In : Nat → Hp → Prop := fun i H2 => ∃ F2 ρ2 acc rs rest, Rel c W F2 H2 (wipe σ vs) (wipeE ρ2 vs) ∧ Same F1 F2 ∧ i ≤ ds.length ∧ OwnN c F2 H2 D rs acc ∧ (∀ a ∈ D :: rs, W.H0 a = none) ∧
      (∀ (j : Nat) (t : Slot) (a : Addr), (wipeE ρ2 vs)[j]? = some t → t.own = true → (wipe σ vs)[j]? = some (some (.ref a)) → a ∉ D :: rs) ∧ lcN gd fe vs (ds.drop i) ρ2 = .ok rest ρ' ∧ acc ++ rest = es
    have start : In 0 (upd H1 D (.lst [])) := by
      refine ⟨F1, ρ1, [], [], es, (R1.lay hD RepL.nil).1.wiped vs, Same.refl _, Nat.zero_le _, ⟨upd_same, R1.sub.free hD, rfl, by simp, fun k r xs e => by simp at e⟩, fun a m => ?_, fun j t a e o z => ?_, hl, rfl⟩
      · rw [List.mem_singleton.mp m]; exact h0
      · intro m
        rw [List.mem_singleton.mp m] at z
        exact nobody_wiped (R1.nobody hD) j t e o z
    refine ⟨fun i m H2 => m = ds.length - i ∧ In i H2, ⟨_, rfl, start⟩, ?_⟩
    rintro i m H2 ⟨rfl, F2, ρ2, acc, rs, rest, R2, s2, hle, ow, z0, no, hr, hes⟩
    by_cases hlt : i < ds.length
    · refine .inr ⟨w.go i H2 (s2.trans R2.sub) hlt, In (i + 1), fun H' h' => ⟨_, by omega, rfl, h'⟩, fun x H3 y => ?_⟩
      let m : Hp := fun a => if a ∈ D :: rs then H2 a else none
      have mi : ∀ a, a ∈ D :: rs → m a = H2 a := fun a z => if_pos z
      have mo : ∀ a, a ∉ D :: rs → m a = none := fun a z => if_neg z
      have ms : ∀ a o, m a = some o → a ∈ D :: rs ∧ H2 a = some o := fun a o e => by
        by_cases z : a ∈ D :: rs
        · exact ⟨z, by rw [← mi a z]; exact e⟩
        · rw [mo a z] at e; cases e
      have lst : ∀ a o, m a = some o → ∃ us, o = .lst us := fun a o e => by
        obtain ⟨z, e⟩ := ms a o e
        obtain ⟨_, us, eu⟩ := ow.at a z
        rw [e] at eu
        exact ⟨us, Option.some.inj eu⟩
      have n1 : ∀ a o, m a = some o → ∀ ps, o ≠ .tbl ps := fun a o e ps z => by
        obtain ⟨us, u⟩ := lst a o e
        rw [u] at z
        cases z
      have n2 : ∀ a o, m a = some o → ∀ xs, o ≠ .tup xs := fun a o e xs z => by
        obtain ⟨us, u⟩ := lst a o e
        rw [u] at z
        cases z
      have K2 : Kept W F2 H2 m (wipe σ vs) (wipeE ρ2 vs) := { at' := fun a o e => (ms a o e).2, nt := n1, nu := n2, fr := fun a o e => (ow.at a (ms a o e).1).1, h0 := fun a o e => z0 a (ms a o e).1, no := fun j t a e o z => mo a (no j t a e o z) }
      obtain ⟨d0, e0⟩ : ∃ d0, ds[i]? = some d0 := ⟨_, List.getElem?_eq_getElem hlt⟩
      have ed : ds.drop i = d0 :: ds.drop (i + 1) := by
        rw [List.getElem?_eq_getElem hlt] at e0
        rw [List.drop_eq_getElem_cons hlt, Option.some.inj e0]
      rw [ed] at hr
      unfold lcN at hr
      split at hr
      · rename_i hn
        have R2' := R2.enter hn K2
        obtain ⟨d, F3, e, gr, r⟩ := w.turn s2 R2' hlt y
        rw [e0] at e
        cases e
        have R3 := R2'.grow gr
        cases e4 : gd d0 (wipeE ρ2 vs) with
        | none => rw [e4] at hr; cases hr
        | some ρ3 =>
          rw [e4] at hr
          dsimp only at hr
          refine hg _ F3 H3 (wipe σ vs) (wipeE ρ2 vs) d0 x ρ3 _ R3 r e4 fun F4 H4 σ4 R4 s4 l4 k4 => ?_
          have ew : wipe σ4 vs = wipe σ vs := wipe_ext (by rw [l4, wipe_length]) fun j hj => by rw [k4 j fun z => hj (hv j z), wipe_get hj]
          refine ⟨ew, ?_⟩
          unfold tYes
          dsimp only
          rw [if_pos rfl]
          refine he _ F4 H4 σ4 ρ3 _ R4 ?_
          revert hr
          cases fe ρ3 with
          | ex e ρ6 => exact fun hr => by cases hr
          | bad => exact fun hr => by cases hr
          | ok z ρ6 =>
            intro hr F6 H6 v R6 s6 fr
            dsimp only at hr
            split at hr
            · rename_i hn6
              obtain ⟨rest', h1, h2⟩ : ∃ rest', lcN gd fe vs (ds.drop (i + 1)) ρ6 = .ok rest' ρ' ∧ rest = z :: rest' := by
                revert hr
                cases lcN gd fe vs (ds.drop (i + 1)) ρ6 with
                | ok r4 ρ4 =>
                  intro hr
                  cases hr
                  exact ⟨r4, rfl, rfl⟩
                | ex e ρ4 => exact fun hr => by cases hr
                | bad => exact fun hr => by cases hr
              subst h2
              obtain ⟨R7, K7⟩ := R6.leave hn6 R2.wb K2 R2.f0
              have mq : m v = none := by
                cases hm : m v with
                | none => rfl
                | some o => have := fr.h0; rw [keep_some hm] at this; cases this
              have hq : W.H0 v = none := by have := fr.h0; rw [keep_none mq] at this; exact this
              have has : ∀ a, a ∈ D :: rs → ∃ us, m a = some (.lst us) := fun a z => by
                obtain ⟨_, us, e⟩ := ow.at a z
                exact ⟨us, by rw [mi a z]; exact e⟩
              have nq : v ∉ D :: rs := fun z => by
                obtain ⟨us, e⟩ := has v z
                rw [e] at mq
                cases mq
              have ow6 : OwnN c F6 H6 D rs acc := ow.mono (gr.fs.trans (s4.trans s6)) (fun a z => by
                obtain ⟨us, e⟩ := has a z
                exact K7.fr a _ e) fun a us z e => K7.at' a _ (by rw [mi a z]; exact e)
              have eq : rs.map V.ref ++ [V.ref v] = (rs ++ [v]).map V.ref := by simp
              have nD := List.nodup_cons.mp ow.nd
              have vD : v ≠ D := fun z => nq (by rw [z]; exact List.mem_cons_self)
              obtain ⟨us, u1, u2, u3⟩ := fr.own
              have owN : OwnN c F6 (upd H6 D (.lst ((rs ++ [v]).map V.ref))) D (rs ++ [v]) (acc ++ [z]) := by
                refine ⟨upd_same, ow6.fp, by rw [List.length_append, List.length_append, ow6.len]; rfl, List.nodup_cons.mpr ⟨fun w => ?_, List.nodup_append.mpr ⟨nD.2, by simp, fun a ha b hb e => ?_⟩⟩, fun k r xs e1 e2 => ?_⟩
                · rcases List.mem_append.mp w with w | w
                  · exact nD.1 w
                  · exact vD (List.mem_singleton.mp w).symm
                · rw [List.mem_singleton.mp hb] at e
                  exact nq (by rw [← e]; exact List.mem_cons_of_mem _ ha)
                · by_cases kl : k < rs.length
                  · rw [List.getElem?_append_left kl] at e1
                    rw [List.getElem?_append_left (by rw [← ow6.len]; exact kl)] at e2
                    obtain ⟨ws, w1, w2, w3⟩ := ow6.inn k r xs e1 e2
                    have rD : r ≠ D := fun z => nD.1 (by rw [← z]; exact List.mem_of_getElem? e1)
                    exact ⟨ws, by rw [upd_ne rD]; exact w1, w2, w3⟩
                  · rw [List.getElem?_append_right (by omega)] at e1
                    rw [List.getElem?_append_right (by rw [← ow6.len]; omega), ← ow6.len] at e2
                    cases kk : k - rs.length with
                    | zero =>
                      rw [kk] at e1 e2
                      cases e1
                      cases e2
                      exact ⟨us, by rw [upd_ne vD]; exact u1, u2, u3⟩
                    | succ l => rw [kk] at e1; simp at e1
              have R8 := R7.wiped vs
              rw [ew] at R8
              have no7 : ∀ (j : Nat) (t : Slot) (a : Addr), (wipeE ρ6 vs)[j]? = some t → t.own = true → (wipe σ vs)[j]? = some (some (.ref a)) → a ∉ D :: (rs ++ [v]) := fun j t a e o z w => by
                rw [← ew] at z
                have cs : a ∈ D :: rs ∨ a = v := by
                  rcases List.mem_cons.mp w with w | w
                  · exact .inl (by rw [w]; exact List.mem_cons_self)
                  · rcases List.mem_append.mp w with w | w
                    · exact .inl (List.mem_cons_of_mem _ w)
                    · exact .inr (List.mem_singleton.mp w)
                rcases cs with w | w
                · obtain ⟨ws, ee⟩ := has a w
                  exact nobody_wiped (p := a) (fun j t e o q => by have := K7.no j t a e o q; rw [ee] at this; cases this) j t e o z
                · rw [w] at z
                  exact nobody_wiped fr.no j t e o z
              refine ⟨rs.map V.ref, ow6.out, ?_, ?_⟩
              · have h3 : acc.length + (rest'.length + 1) ≤ 100000 := by
                  rw [← hes, List.length_append, List.length_cons] at hz
                  exact hz
                rw [List.length_map, ow6.len]
                exact Nat.lt_of_lt_of_le (by omega) h100
              · show In (i + 1) (upd H6 D (.lst (rs.map V.ref ++ [V.ref v])))
                rw [eq]
                refine ⟨F6, ρ6, acc ++ [z], rs ++ [v], rest', R8.write ow6.out (fun _ z => by cases z) (fun _ z => by cases z) (fun _ z => by cases z) ow6.fp hB (fun j t e o a => absurd List.mem_cons_self (no7 j t D e o a)), ((s2.trans gr.fs).trans s4).trans s6, hlt, owN, fun a w => ?_, no7, h1, ?_⟩
                · rcases List.mem_cons.mp w with w | w
                  · rw [w]; exact h0
                  · rcases List.mem_append.mp w with w | w
                    · exact z0 a (List.mem_cons_of_mem _ w)
                    · rw [List.mem_singleton.mp w]; exact hq
                · rw [← hes, List.append_assoc]
                  rfl
            · cases hr
      · cases hr
    · have e : i = ds.length := by omega
      subst e
      rw [List.drop_length] at hr
      cases hr
      refine .inl ⟨w.stop _ H2 (s2.trans R2.sub) (Nat.le_refl _), ?_⟩
      rw [List.append_nil] at hes
      subst hes
      refine q F2 H2 D rs (R1.back hc s2 R2) (s1.trans s2) ow z0 fun j t a e o z => ?_
      obtain ⟨q1, w1⟩ := rest_own (σ := σ) hc e o
      exact no j t a q1 o (by rw [w1]; exact z)
end Pl
/-! lists of lists come to rest -/
namespace Pl
open PySem PySem.Spec PyProof.Rows L2
variable {c : Cn} {E : WX} {np : Nat} {W : Fm} {F F' H H' : Hp} {σ σ' : L2.St} {ρ ρ' : Env}
theorem chillAll : ∀ (rs : List Addr) (xss : List (List D)) (F : Hp), rs.Nodup → Rel c W F H σ ρ → rs.length = xss.length → (∀ (k : Nat) (r : Addr) (xs : List D), rs[k]? = some r → xss[k]? = some xs → OwnL c F H r xs) → (∀ a ∈ rs, W.H0 a = none) → (∀ (j : Nat) (t : Slot) (a : Addr), ρ[j]? = some t → t.own = true → σ[j]? = some (some (.ref a)) → a ∉ rs) → ∃ F', Same F F' ∧ Rel c W F' H σ ρ ∧ (∀ a, a ∉ rs → F' a = F a) ∧ RepL c.K F' (xss.map D.lst) (rs.map V.ref)
  | [], xss, F, _, R, hl, _, _, _ => by
    cases xss with
    | nil => exact ⟨F, Same.refl _, R, fun _ _ => rfl, rfl⟩
    | cons => cases hl
  | r :: rs, [], F, _, R, hl, _, _, _ => by cases hl
  | r :: rs, xs :: xss, F, nd, R, hl, inn, h0, no => by
    have nd := List.nodup_cons.mp nd
    obtain ⟨vs, q1, q2, q3⟩ := inn 0 r xs rfl rfl
    obtain ⟨s1, R1⟩ := R.chill q1 (fun _ z => by cases z) q3 (h0 r List.mem_cons_self) fun j t e o z => no j t r e o z List.mem_cons_self
    obtain ⟨F2, s2, R2, out, rep⟩ := chillAll rs xss _ nd.2 R1 (by simpa using hl) (fun k r' ys e1 e2 => by
      obtain ⟨ws, w1, w2, w3⟩ := inn (k + 1) r' ys (by simpa using e1) (by simpa using e2)
      have n : r' ≠ r := fun z => nd.1 (by rw [← z]; exact List.mem_of_getElem? e1)
      exact ⟨ws, w1, w2.mono s1, by rw [upd_ne n]; exact w3⟩) (fun a m => h0 a (List.mem_cons_of_mem _ m)) fun j t a e o z m => no j t a e o z (List.mem_cons_of_mem _ m)
    refine ⟨F2, s1.trans s2, R2, fun a m => ?_, .ref r, rs.map V.ref, rfl, ⟨r, vs, rfl, by rw [out r nd.1, upd_same], (q2.mono s1).mono s2⟩, rep⟩
    rw [out a fun z => m (List.mem_cons_of_mem _ z), upd_ne fun z => m (by rw [z]; exact List.mem_cons_self)]
theorem Rel.freezeN {p : Addr} {rs : List Addr} {xss : List (List D)} (R : Rel c W F H σ ρ) (ow : OwnN c F H p rs xss) (h0 : ∀ a ∈ p :: rs, W.H0 a = none) (no : ∀ (j : Nat) (t : Slot) (a : Addr), ρ[j]? = some t → t.own = true → σ[j]? = some (some (.ref a)) → a ∉ p :: rs) : ∃ F', Same F F' ∧ Rel c W F' H σ ρ ∧ Rep c.K F' (.lst (xss.map D.lst)) (.ref p) := by
  have nd := List.nodup_cons.mp ow.nd
  obtain ⟨F1, s1, R1, out, rep⟩ := chillAll rs xss F nd.2 R ow.len ow.inn (fun a m => h0 a (List.mem_cons_of_mem _ m)) fun j t a e o z m => no j t a e o z (List.mem_cons_of_mem _ m)
  obtain ⟨s2, R2⟩ := R1.chill ow.out (fun _ z => by cases z) (by rw [out p nd.1]; exact ow.fp) (h0 p List.mem_cons_self) fun j t e o z => no j t p e o z List.mem_cons_self
  exact ⟨_, s1.trans s2, R2, p, _, rfl, upd_same, rep.mono s2⟩
theorem set_self {α : Type} {l : List α} {i : Nat} {x : α} (h : l[i]? = some x) : l.set i x = l := by
  refine List.ext_getElem? fun n => ?_
  by_cases z : i = n
  · subst z
    have hi := (List.getElem?_eq_some_iff.mp h).1
    rw [List.getElem?_set_self hi, h]
  · rw [List.getElem?_set_ne z]
/-- rows = f; s; from here on they are data: r -/
def sNest2 (i : Nat) (f : M (List (List D))) (s r : S) : S := fun ρ => match f ρ with
  | .ok xss ρ1 => if noN ρ1 = true then (match s (ρ1.set i (.oo xss)) with
    | .ok .nx ρ2 => (match ρ2[i]? with
      | some (.oo yss) => r ((unN ρ2).set i (.d (.lst (yss.map D.lst))))
      | _ => .bad)
    | .ok k ρ2 => .ok k (unN ρ2)
    | .ex e ρ2 => .ex e (unN ρ2)
    | .bad => .bad) else .bad
  | .ex e ρ1 => .ex e ρ1
  | .bad => .bad
theorem sx_nest2 {i : Nat} {tm : TE} {fm : M (List (List D))} {tb tr : TS} {s r : S} (hm : En c E tm fm) (hs : Sx c E np tb s) (hr : Sx c E np tr r) : Sx c E np (tSeq (tAsg tm (gName i)) (tSeq tb tr)) (sNest2 i fm s r) := by
  intro W F H σ ρ D hn R h
  refine hm W F H σ ρ _ R ?_
  unfold sNest2 at h
  revert h
  cases fm ρ with
  | bad => exact fun h => h
  | ex e ρ1 => exact fun h F' H' cls od R' s x => h F' H' σ cls od R' s x
  | ok xss ρ1 =>
    intro h F1 H1 p rs R1 s1 ow h0 no
    dsimp only at h
    split at h
    · rename_i ho
      have R2 : Rel c (W.nest p rs) F1 H1 (σ.set i (some (.ref p))) (ρ1.set i (.oo xss)) := (R1.nest ho ow no).nameN rfl (fun a m => ⟨fun z => z.2 m, #[], nest_in m⟩) ow
      refine hs (W.nest p rs) F1 H1 _ _ { D with nx := fun σ1 H1 => tr D σ1 H1 } hn R2 ?_
      have out : ∀ {F' H' : Hp} {σ' : L2.St} {ρ2 : Env}, Rel c (W.nest p rs) F' H' σ' ρ2 → Rel c W F' H' σ' (unN ρ2) := fun R' => R'.unN.unnest (noN_unN _) R1.wb h0
      revert h
      cases s (ρ1.set i (.oo xss)) with
      | bad => exact fun h => h
      | ex e ρ2 => exact fun h F' H' σ' cls od R' s' x => h F' H' σ' cls od (out R') (s1.trans s') x
      | ok k ρ2 =>
        cases k with
        | nx =>
          intro h F' H' σ' R' s'
          dsimp only at h
          split at h
          · rename_i yss e
            obtain ⟨p', rs', a, hp, kn, ow'⟩ := R'.here i _ e
            cases hp
            have no' : ∀ (j : Nat) (t : Slot) (a : Addr), (unN ρ2)[j]? = some t → t.own = true → σ'[j]? = some (some (.ref a)) → a ∉ p :: rs := fun j t a e o z => by
              obtain ⟨q, e1, e2, e3⟩ := (R'.here j t (unN_own e o)).own_at o
              rw [z] at e1
              cases e1
              exact e3.2
            obtain ⟨F2, s2, R3, rp⟩ := (out R').freezeN ow' h0 no'
            have R4 := R3.store rp i
            rw [set_self a] at R4
            exact hr W F2 H' σ' _ D hn R4 (SPost.up ((s1.trans s').trans s2) h)
          · exact h.elim
        | ct => exact fun h F' H' σ' R' s' => h F' H' σ' (out R') (s1.trans s')
        | bk => exact fun h F' H' σ' R' s' => h F' H' σ' (out R') (s1.trans s')
        | rt d => exact fun h F' H' σ' v R' s' r => h F' H' σ' v (out R') (s1.trans s') r
        | rn ds =>
          intro h F' H' σ' q R' s' fr
          have nq : q ∉ p :: rs := fun z => by
            have := fr.h0
            rw [nest_in z] at this
            cases this
          exact h F' H' σ' q (out R') (s1.trans s') ⟨fr.own, by have := fr.h0; rw [nest_out nq] at this; exact this, fun j t e o => fr.no j t (unN_own e o) o⟩
    · exact h.elim
end Pl
/-! a def with one name and *rest -/
namespace Pl
open PySem PySem.Spec PyProof.Rows L2
def runStar1 (n : Nat) (g : S) : FnM := fun ps => match ps with
  | .d x :: r => if r.all (fun s => !s.own) = true then match runStar.dataOf r with
    | some ds => if ds.length ≤ 100000 then runBody 2 n g [.d x, .d (.tup ds)] else .bad
    | none => .bad
    else .bad
  | _ => .bad
section
variable {P : Program} {w : World} {K : PySem.W.Frag} {mg : Str → Option Value} {base : Heap} {T : List (Addr × Str)} {b : Bool}
theorem fn_rest1 {x qual pa pv : Str} {st : Stmt} {f : Addr} {fd : FuncData} {N : List Str} {k n : Nat} {g : S} (Fu : Fun K x qual st f fd) (Sc : FnScope N [pa, pv] (defScope st)) (hn : N.length = 2 + n) (bi : ∀ (v : Value) (rest : List Value), bindArgs fd ⟨v :: rest, []⟩ = (newTuple rest >>= fun t => pure [(pa, v), (pv, t)]))
    (hbody : ∀ (cdv : Value) (A : Around) (outer : List PySem.Env) (s : Shared) (H : Hp) (E : XK), Room k (A.deeper (envOfC qual (defScope st) s.heap.objs.size f cdv)) → Gd b A →
      ∃ t, PSs (cxOf (L2.CX P w) P w K mg base N qual (defScope st) f cdv A outer s H E) (defBody st) t ∧ Sx ⟨K, mg, T, none⟩ (fun cls od _ H => E cls od H) 2 t g) : FnS b P w K mg base (k + 1) f (spM ⟨K, mg, T, none⟩ (runStar1 n g)) := by
  obtain ⟨oc, od, kV, doc, pm, an, cdv, ct, osl, efd, look, rec⟩ := Fu.ex
  subst efd
  refine ⟨fun A outer s H us vs Q E hr hgu e0 rv hsp => ?_⟩
  obtain ⟨F, qs, fz, tab, par, hm⟩ := hsp
  unfold runStar1 at hm
  split at hm
  rotate_left
  · exact hm.elim
  rename_i x0 r0
  split at hm
  rotate_left
  · exact hm.elim
  rename_i hq
  have noq : ∀ (j : Nat) (s : Slot), (Slot.d x0 :: r0)[j]? = some s → s.own = false := fun j s e => by
    cases j with
    | zero => cases e; rfl
    | succ j =>
      have := List.all_eq_true.mp hq s (List.mem_of_getElem? (i := j) (by simpa using e))
      simpa using this
  obtain ⟨y, vs', rfl⟩ : ∃ y vs', vs = y :: vs' := by
    cases vs with
    | nil => have := par.len; cases this
    | cons y vs' => exact ⟨y, vs', rfl⟩
  obtain ⟨u, us', rfl, ru, rv'⟩ : ∃ u us', us = u :: us' ∧ RelV y u ∧ Vals vs' us' := by
    cases rv with
    | cons p q => exact ⟨_, _, rfl, p, q⟩
  have rx0 : Rep K F x0 y := by
    obtain ⟨v, e1, e2⟩ := par.dat 0 x0 rfl
    cases e1
    exact e2
  have len' : r0.length = vs'.length := by have := par.len; simpa using this
  have own' : ∀ (j : Nat) (s : Slot), r0[j]? = some s → s.own = false := fun j s e => noq (j + 1) s (by simpa using e)
  have par' : ParOk ⟨K, mg, T, none⟩ F H r0 vs' := {
    len := len'
    dat := fun j d e => par.dat (j + 1) d (by simpa using e)
    own := fun j s e o => absurd (own' j s e) (by rw [o]; simp)
    dis := fun j k s t p e1 _ o1 => absurd (own' j s e1) (by rw [o1]; simp)
    noe := fun j z e => par.noe (j + 1) z (by simpa using e)
    nop := fun j s e => par.nop (j + 1) s (by simpa using e) }
  cases ed : runStar.dataOf r0 with
  | none => rw [ed] at hm; exact hm.elim
  | some ds =>
    rw [ed] at hm
    have hm : Out ⟨K, mg, T, none⟩ F H (Slot.d x0 :: r0) (y :: vs') Q E (if ds.length ≤ 100000 then runBody 2 n g [.d x0, .d (.tup ds)] else .bad) := hm
    split at hm
    rotate_left
    · exact hm.elim
    rename_i hl
    have rp : RepL K F ds vs' := data_rep ed par'
    have lv : us'.length ≤ sizeLine := by rw [← rv'.length, ← rp.len]; exact Nat.le_trans hl h100
    have free : H s.heap.objs.size = none := e0.hok.fresh (Nat.le_refl _)
    refine StX.run_bnd (N := N) (ps := [pa, pv]) look rec Sc hr e0 (G := fun xs H2 => ∃ p, H p = none ∧ xs = [y, V.ref p] ∧ H2 = upd H p (.tup vs')) (fun A' Ex Q' go => ?_) fun s2 H2 xs ⟨p, hp, ex, eH⟩ hr' => ?_
    · rw [bi u us']
      refine wpAny_bind (wpAny_newTuple (wpAny_pure ?_) lv)
      have new : ObjOk P w (upd H s.heap.objs.size (.tup vs')) (s.heap.push ({ cls := .type "tuple", data := .seq us'.toArray } : Obj)) s.heap.objs.size (.tup vs') := ⟨by rw [rv'.length]; exact lv, us', rv', ⟨_, Heap.get?_push_size _ rfl, rfl, _, rfl⟩⟩
      have un := StX.un_laid (fs := frs outer) (s := s) (o := ({ cls := .type "tuple", data := .seq us'.toArray } : Obj)) (u := .tup vs') free
      exact go _ _ [y, V.ref s.heap.objs.size] [u, Value.ref s.heap.objs.size] (StX.env0_laid e0 new) un rfl (fun e s' => StX.cxUp outer s H _ _ E e s' un (fun b o q => Heap.get?_push_of_some _ q) rfl) (.cons ru (.cons rfl .nil)) rfl ⟨_, free, rfl, rfl⟩
    · subst ex eH
      have gr := fz.new (o := .tup vs') hp fun _ z => by cases z
      obtain ⟨t, ht, hx⟩ := hbody cdv A outer s2 (upd H p (.tup vs')) E hr' hgu
      have nop : ∀ (j : Nat) (s : Slot), [Slot.d x0, Slot.d (.tup ds)][j]? = some s → s.own = false := fun j s e => by
        cases j with
        | zero => cases e; rfl
        | succ j => cases j with
          | zero => cases e; rfl
          | succ j => simp at e
      have par2 : ParOk ⟨K, mg, T, none⟩ (upd F p (.tup vs')) (upd H p (.tup vs')) [.d x0, .d (.tup ds)] [y, .ref p] := by
        refine ⟨rfl, fun j d e => ?_, fun j s e o => ?_, fun j k s t q e1 _ o1 => ?_, fun j x e => ?_, fun j s e => ?_⟩
        · cases j with
          | zero => cases e; exact ⟨_, rfl, rx0.mono gr.fs⟩
          | succ j => cases j with
            | zero => cases e; exact ⟨_, rfl, p, vs', rfl, .inl upd_same, rp.mono gr.fs⟩
            | succ j => simp at e
        · rw [nop j s e] at o; cases o
        · rw [nop j s e1] at o1; cases o1
        · cases j with
          | zero => cases e
          | succ j => cases j with
            | zero => cases e
            | succ j => simp at e
        · cases j with
          | zero => cases e; rfl
          | succ j => cases j with
            | zero => cases e; rfl
            | succ j => simp at e
      have hm2 := hm.before (ps := [.d x0, .d (.tup ds)]) (vs := [y, .ref p]) gr nop noq
      exact ⟨t, ht, out_end hx (by rw [hn] <;> rfl) ⟨gr.sub, gr.nt⟩ (tab.ext gr.hs) par2 hm2⟩
end
end Pl
/-! for over a tuple or a list, whichever it is -/
namespace Pl
open PySem PySem.Spec PyProof.Rows L2
def iSq (K : PySem.W.Frag) (tl : TE) : TI := fun σ H R => tl σ H fun x H1 => (∃ a, x = .ref a ∧ (∃ xs, SqL K H1 a xs) ∧ R (Itl K a) H1) ∨ ∃ a, x = .ref a ∧ (∃ xs, SqT K H1 a xs) ∧ R (Itt K a) H1
section
variable {X : Cx} {tg : Expr}
theorem pi_sq {l : Expr} {tl : TE} (hl : PE X l tl) : PI X tg l (iSq X.K tl) := by
  refine ⟨fun pins s σ H R I h => ?_⟩
  refine thn (hl.run pins s σ H _ I h) fun v s1 ⟨x, H1, I1, r1, q1⟩ => ?_
  rcases q1 with ⟨a, e, ⟨xs, hq⟩, q⟩ | ⟨a, e, ⟨xs, hq⟩, q⟩
  · subst e
    cases r1
    obtain ⟨its, rv, p, hz⟩ := I1.list hq
    refine wpAny_pyIter_list p.isList ?_
    refine ⟨s1.heap.objs.size, [s1.heap.objs.size], _, _, H1, rfl, I1.kept (t' := s1.toks) fun b o e => Heap.get?_push_of_some _ e, turn_list a _, ⟨_, Heap.get?_push_size _ rfl, rfl, rfl⟩, fun b hb => ?_, q⟩
    have e : b = s1.heap.objs.size := by simpa using hb
    subst e
    exact I1.fpOk (Nat.le_refl _) (I1.hok.fresh (Nat.le_refl _))
  · subst e
    cases r1
    obtain ⟨its, rv, p, hz⟩ := I1.tuple hq
    refine wpAny_pyIter_tuple (show s1.heap.IsTuple a its.toArray from p) ?_
    refine ⟨s1.heap.objs.size, [s1.heap.objs.size], _, _, H1, rfl, I1.kept (t' := s1.toks) fun b o e => Heap.get?_push_of_some _ e, turn_tuple a _, ⟨_, Heap.get?_push_size _ rfl, rfl, rfl⟩, fun b hb => ?_, q⟩
    have e : b = s1.heap.objs.size := by simpa using hb
    subst e
    exact I1.fpOk (Nat.le_refl _) (I1.hok.fresh (Nat.le_refl _))
end
def asSeq : D → Option (List D)
  | .tup ds => some ds
  | .lst ds => some ds
  | _ => none
variable {c : Cn} {E : WX} {tl : TE} {f : M D}
theorem ix_sq (hl : Ex c E tl f) : Ix c E (iSq c.K tl) (itBy asSeq f) := by
  intro W F H σ ρ Q R h
  refine hl W F H σ ρ _ R ((h.bind (Rep c.K)).mono fun v H1 ⟨d, ρ1, F1, R1, s1, r1, h1⟩ => ?_)
  obtain ⟨ds, e, k⟩ := Post.lift h1
  cases d with
  | lst es =>
    cases e
    obtain ⟨a, xs, rfl, h2, h3⟩ := r1
    refine .inl ⟨a, rfl, ⟨xs, .of (R1.sub _ _ h2)⟩, k F1 H1 _ R1 (Same.refl _) ?_⟩
    refine walk_D (L2.walk_list (K := c.K) (a := a) (xs := xs)) h3.len (fun H s => .of (s _ _ h2)) (fun i H x H' s hi ⟨e1, e2⟩ => ?_) fun i H ⟨ys, q, hle⟩ hi => ⟨ys, q, Nat.le_trans hle hi⟩
    obtain ⟨d, e3, r⟩ := h3.of_get e2
    exact ⟨d, e3, .inl ⟨e1, r⟩⟩
  | tup es =>
    cases e
    obtain ⟨a, xs, rfl, h2, h3⟩ := r1
    refine .inr ⟨a, rfl, ⟨xs, sqT_mono R1.sub h2.sq⟩, k F1 H1 _ R1 (Same.refl _) ?_⟩
    refine walk_D (L2.walk_tup (K := c.K) (a := a) (xs := xs)) h3.len (fun H s => sqT_mono s h2.sq) (fun i H x H' s hi ⟨e1, e2⟩ => ?_) fun i H ⟨ys, q, hle⟩ hi => ⟨ys, q, Nat.le_trans hle hi⟩
    obtain ⟨d, e3, r⟩ := h3.of_get e2
    exact ⟨d, e3, .inl ⟨e1, r⟩⟩
  | _ => cases e
end Pl
/-! zip of two, each a list or a tuple -/
namespace Pl
open PySem PySem.Spec PyProof.Rows L2
/-- a tuple (true) or a list -/
def SqB (K : PySem.W.Frag) (H : Hp) (a : Addr) (xs : List V) : Bool → Prop
  | true => SqT K H a xs
  | false => SqL K H a xs
def ItB (h : Heap) (it l : Addr) (i : Nat) : Bool → Prop
  | true => h.IsTupleIter it l i
  | false => h.IsListIter it l i
def ArB (h : Heap) (l : Addr) (items : Array Value) : Bool → Prop
  | true => h.IsTuple l items
  | false => h.IsList l items
def objB (l : Addr) : Bool → Obj
  | true => { cls := .type "tuple_iterator", data := .fields #[.ref l, .int 0 0] }
  | false => { cls := .type "list_iterator", data := .fields #[.ref l, .int 0 0] }
theorem ItB.live {h : Heap} {it l : Addr} {i : Nat} {b : Bool} (st : ItB h it l i b) : ∃ o, h.get? it = some o ∧ ∀ v, o.data ≠ .cell v := by
  cases b <;> (obtain ⟨o, e, _, d⟩ := st; exact ⟨o, e, fun v q => by rw [d] at q; cases q⟩)
theorem ItB.go {h h' : Heap} {it l : Addr} {i : Nat} {b : Bool} (st : ItB h it l i b) (k : ∀ o, h.get? it = some o → h'.get? it = some o) : ItB h' it l i b := by
  cases b
  · exact Heap.IsListIter.at st k
  · exact Heap.IsTupleIter.at st k
theorem ItB.new {h : Heap} {it l : Addr} {b : Bool} (e : h.get? it = some (objB l b)) : ItB h it l 0 b := by
  cases b
  · exact ⟨_, e, rfl, rfl⟩
  · exact ⟨_, e, rfl, rfl⟩
theorem begB (l : Addr) (items : Array Value) (b : Bool) : Begins (.ref l) (objB l b) fun h => ArB h l items b := by
  cases b
  · exact begins_list l items
  · exact begins_tuple l items
theorem drawB {prog : Program} {w : World} {A : Around} (hh : A.handled = none) (it l : Addr) (hne : l ≠ it) (items : Array Value) (b : Bool) :
    Draws prog w A it [it, l] items.size (fun i v => items[i]? = some v) (fun i h => ItB h it l i b ∧ ArB h l items b) := by
  cases b
  · exact .list hh it l hne items
  · exact .tuple hh it l hne items
section
variable {X : Cx} {pins : List (Addr × Obj)} {σ : L2.St} {H : Hp} {s : Shared}
theorem SqB.get (I : Inv X pins σ H s) {a : Addr} {xs : List V} {b : Bool} (h : SqB X.K H a xs b) : ∃ its : List Value, Vals xs its ∧ ArB s.heap a its.toArray b ∧ a < s.heap.objs.size := by
  cases b
  · obtain ⟨its, rv, p, _⟩ := I.list h
    exact ⟨its, rv, p.isList, p.lt⟩
  · obtain ⟨its, rv, p, _⟩ := I.tuple h
    obtain ⟨o, e, _⟩ := id p
    exact ⟨its, rv, p, Heap.lt_size e⟩
theorem SqB.inj (I : Inv X pins σ H s) {a : Addr} {xs ys : List V} {b : Bool} (h : SqB X.K H a xs b) (k : SqB X.K H a ys b) : xs = ys := by
  cases b
  · exact I.list_inj h k
  · exact I.tuple_inj h k
end
/-- both as they stand at each turn, of these lengths -/
def ItzB (K : PySem.W.Frag) (a b : Addr) (p q : Bool) (n m : Nat) : It :=
  ⟨fun i H => ∃ (xs ys : List V) (x y : V), SqB K H a xs p ∧ SqB K H b ys q ∧ xs.length = n ∧ ys.length = m ∧ xs[i]? = some x ∧ ys[i]? = some y,
    fun i H v H' => ∃ T x y, v = .ref T ∧ H T = none ∧ H' = upd H T (.tup [x, y]) ∧ (∀ xs, SqB K H a xs p → xs[i]? = some x) ∧ ∀ ys, SqB K H b ys q → ys[i]? = some y,
    fun i H => ∃ xs ys : List V, SqB K H a xs p ∧ SqB K H b ys q ∧ xs.length = n ∧ ys.length = m ∧ (n ≤ i ∨ m ≤ i)⟩
theorem sep_of {z TI TO i1 i2 a b : Addr} (D : ZipApart z TI TO i1 i2 a b) : ZipSep2 z TI TO i1 i2 [i1, a] [i2, b] := by
  have no : ∀ {x y w : Addr}, x ≠ y → x ≠ w → x ∉ [y, w] := fun h k m => by
    rcases List.mem_cons.mp m with e | m
    · exact h e
    · exact k (List.mem_singleton.mp m)
  exact { TIz := D.TIz, TOz := D.TOz, TITO := D.TITO, TIi1 := D.TIi1, mem1 := List.mem_cons_self, zf1 := no D.i1z.symm D.l1z.symm, Tf1 := no D.TOi1 D.l1TO.symm, TIi2 := D.TIi2, mem2 := List.mem_cons_self, zf2 := no D.i2z.symm D.l2z.symm, Tf2 := no D.TOi2 D.l2TO.symm, sep1_2 := no D.i12 D.l2i1.symm, sep2_1 := no D.i12.symm D.l1i2.symm }
theorem turn_zipB {P : Program} {w : World} {K : PySem.W.Frag} {elts : List Expr} {kk : Nat} {tpos : Pos} {a b z TI TO i1 i2 : Addr} {p q : Bool} {n m : Nat} (D : ZipApart z TI TO i1 i2 a b) :
    Turn P w K (.Tuple elts kk tpos) (ItzB K a b p q n m) [z, TI, TO, i1, i2] z (fun i h => (i ≤ n ∧ i ≤ m) ∧ IsZip h z TI TO .none ∧ IsPair h TI (.ref i1) (.ref i2) ∧ (∃ x y, IsPair h TO x y) ∧ ItB h i1 a i p ∧ ItB h i2 b i q) where
  mem := by simp
  obj := fun i h st c hc => by
    obtain ⟨_, hz, hTI, ⟨x, y, hTO⟩, h1, h2⟩ := st
    simp only [List.mem_cons, List.not_mem_nil, or_false] at hc
    rcases hc with rfl | rfl | rfl | rfl | rfl
    · exact ⟨_, hz, fun v q => nomatch q⟩
    · exact ⟨_, hTI, fun v q => nomatch q⟩
    · exact ⟨_, hTO, fun v q => nomatch q⟩
    · exact h1.live
    · exact h2.live
  keep := fun i h h' st k => by
    obtain ⟨le, hz, hTI, ⟨x, y, hTO⟩, h1, h2⟩ := st
    exact ⟨le, k z (by simp) _ hz, k TI (by simp) _ hTI, ⟨x, y, k TO (by simp) _ hTO⟩, h1.go (k i1 (by simp)), h2.go (k i2 (by simp))⟩
  item := by
    intro X hP hw hK hc i pins s σ H E I hf st hg
    subst hP hw hK
    obtain ⟨le, hz, hTI, ⟨x0, y0, hTO⟩, h1, h2⟩ := st
    obtain ⟨xs, ys, x, y, sx, sy, lx, ly, hx, hy⟩ := hg
    obtain ⟨its, rv, ar, la⟩ := sx.get I
    obtain ⟨jts, rw', br, lb⟩ := sy.get I
    obtain ⟨u, hu, ru⟩ := rv.get hx
    obtain ⟨u2, hu2, ru2⟩ := rw'.get hy
    have hd : X.A.in1.handled = none := I.ok.hd hc
    have zl : z < s.heap.objs.size := Heap.lt_size hz
    have il : i < its.toArray.size ∧ i < jts.toArray.size := by
      have a1 := (List.getElem?_eq_some_iff.mp hu).1
      have a2 := (List.getElem?_eq_some_iff.mp hu2).1
      exact ⟨by simpa using a1, by simpa using a2⟩
    have un : i < n ∧ i < m := by
      have a1 := (List.getElem?_eq_some_iff.mp hx).1
      have a2 := (List.getElem?_eq_some_iff.mp hy).1
      omega
    refine wpAny_pyNext_zipD2_item (sep_of D) (drawB hd i1 a D.l1i1 its.toArray p) (drawB hd i2 b D.l2i2 jts.toArray q) hz hTI hTO ⟨h1, ar⟩ ⟨h2, br⟩ il.1 il.2 fun v1 v2 h' tk e1 e2 z' TO' n1 n2 nT nsz keep => ?_
    have e1 : v1 = u := by
      have e1 : its.toArray[i]? = some v1 := e1
      rw [List.getElem?_toArray, hu] at e1
      injection e1 with e1; exact e1.symm
    have e2 : v2 = u2 := by
      have e2 : jts.toArray[i]? = some v2 := e2
      rw [List.getElem?_toArray, hu2] at e2
      injection e2 with e2; exact e2.symm
    subst e1 e2
    refine ⟨_, rfl, wpAny_letOwnedTupleGo_zip (s := { s with heap := h', toks := tk }) z' fun h2' z'' same => ?_⟩
    have T2 : h2'.get? s.heap.objs.size = some { cls := .type "tuple", data := .seq #[v1, v2] } := (same.2 _ (Nat.ne_of_gt zl)).trans nT
    have ok : ObjOk X.prog X.w (upd H s.heap.objs.size (.tup [x, y])) h2' s.heap.objs.size (.tup [x, y]) := ⟨by show 2 ≤ sizeLine; decide, [v1, v2], .cons ru (.cons ru2 .nil), ⟨_, T2, rfl, _, rfl⟩⟩
    have away : ∀ c o, c ∉ [z, TI, TO, i1, i2] → s.heap.get? c = some o → h2'.get? c = some o := fun c o hb e => by
      simp only [List.mem_cons, List.not_mem_nil, or_false, not_or] at hb
      exact (same.2 c hb.1).trans (keep c o hb.1 hb.2.2.1 hb.2.2.2.1 hb.2.2.2.2 e)
    have I1 : Inv X pins σ (upd H s.heap.objs.size (.tup [x, y])) { s with heap := h2', toks := tk } := I.turnedNew (t' := tk) (ch := [z, TI, TO, i1, i2]) (fun c o hb e => away c o hb e) hf (Nat.le_refl _) ok
    refine ⟨.ref s.heap.objs.size, _, I1, rfl, ⟨_, x, y, rfl, I.hok.fresh (Nat.le_refl _), rfl, fun l hl => by rw [hl.inj I sx]; exact hx, fun l hl => by rw [hl.inj I sy]; exact hy⟩, ⟨⟨un.1, un.2⟩, z'', ?_, ⟨v1, v2, ?_⟩, ?_, ?_⟩, fun c hcm => ?_⟩
    · exact (same.2 _ D.TIz).trans (keep _ _ D.TIz D.TITO D.TIi1 D.TIi2 hTI)
    · exact (same.2 _ D.TOz).trans TO'
    · exact n1.1.go fun o e => (same.2 _ D.i1z).trans e
    · exact n2.1.go fun o e => (same.2 _ D.i2z).trans e
    · have lt : c < s.heap.objs.size := by
        simp only [List.mem_cons, List.not_mem_nil, or_false] at hcm
        rcases hcm with rfl | rfl | rfl | rfl | rfl
        · exact zl
        · exact Heap.lt_size hTI
        · exact Heap.lt_size hTO
        · obtain ⟨o, e, _⟩ := h1.live; exact Heap.lt_size e
        · obtain ⟨o, e, _⟩ := h2.live; exact Heap.lt_size e
      rw [upd_ne (Nat.ne_of_lt lt)]
      exact (hf c hcm).1
  done := by
    intro X hP hw hK hc i pins s σ H E I hf st hg
    subst hP hw hK
    obtain ⟨le, hz, hTI, ⟨x0, y0, hTO⟩, h1, h2⟩ := st
    obtain ⟨xs, ys, sx, sy, lx, ly, hend⟩ := hg
    obtain ⟨its, rv, ar, _⟩ := sx.get I
    obtain ⟨jts, rw', br, _⟩ := sy.get I
    have hd : X.A.in1.handled = none := I.ok.hd hc
    have l1 : its.toArray.size = n := by rw [List.size_toArray, ← rv.length, lx]
    have l2 : jts.toArray.size = m := by rw [List.size_toArray, ← rw'.length, ly]
    refine wpAny_pyNext_zipD2_end (sep_of D) (drawB hd i1 a D.l1i1 its.toArray p) (drawB hd i2 b D.l2i2 jts.toArray q) hz hTI hTO ⟨h1, ar⟩ ⟨h2, br⟩ (by omega) (by omega) (by omega) fun h' tk keep => ⟨rfl, I.turnedL (t' := tk) (ch := [z, TI, TO, i1, i2]) (fun c o hb e => ?_) hf⟩
    simp only [List.mem_cons, List.not_mem_nil, or_false, not_or] at hb
    exact keep c o hb.1 hb.2.2.1 hb.2.2.2.1 hb.2.2.2.2 e
  self := fun A i s Q E st h => wpAny_pyIter_zip st.2.1 h
def iZipB (K : PySem.W.Frag) (ta : TA) : TI := fun σ H R => ta σ H fun vs H1 => ∃ a b p q xs ys, vs = [.ref a, .ref b] ∧ SqB K H1 a xs p ∧ SqB K H1 b ys q ∧ R (ItzB K a b p q xs.length ys.length) H1
theorem pi_zipB {X : Cx} {e e2 : Expr} {ta : TA} {p pos tpos : Pos} {elts : List Expr} {kk : Nat} (hg : Gl X "zip") (hm : X.mg "zip" = none) (ha : PA X [e, e2] ta)
    (hs : starEach [e, e2] X.env = (false, eval e X.env) :: starEach [e2] X.env := by rfl) (hpl : (backTo pos (starEach [e2] X.env)).any (·.1) = false := by rfl) :
    PI X (.Tuple elts kk tpos) (.Call (.Name "zip" p) [e, e2] [] pos) (iZipB X.K ta) := by
  refine ⟨fun pins s σ H R I h => ?_⟩
  refine Call_ (ld_blt I hg hm PyProof.Rows.boot_zip (PyProof.Rows.callWith_type1 (thn (ha.run pos pins s σ H _ I h) fun us s1 ⟨vs, H1, I1, r1, k1⟩ => ?_) hs hpl))
  obtain ⟨a, b, p, q, xs, ys, rfl, sx, sy, k1⟩ := k1
  obtain ⟨u, w, rfl, ra, rb⟩ := vals2 r1
  cases ra
  cases rb
  obtain ⟨its, rv, ar, la⟩ := sx.get I1
  obtain ⟨jts, rw', br, lb⟩ := sy.get I1
  refine zip_begins2 (begB a its.toArray p) (begB b jts.toArray q) ar br fun h' hz hTI hTO h1 h2 hsz hk => wpAny_pyIter_zip hz ?_
  refine ⟨_, [s1.heap.objs.size + 4, s1.heap.objs.size + 2, s1.heap.objs.size + 3, s1.heap.objs.size, s1.heap.objs.size + 1], _, _, H1, rfl, I1.kept (t' := s1.toks) hk, turn_zipB (PySem.W.ktu_apart s1.heap.objs.size a b la lb), ⟨⟨Nat.zero_le _, Nat.zero_le _⟩, hz, hTI, ⟨_, _, hTO⟩, .new h1, .new h2⟩, fun c hcm => ?_, k1⟩
  have hle : s1.heap.objs.size ≤ c := by
    simp only [List.mem_cons, List.not_mem_nil, or_false] at hcm
    rcases hcm with rfl | rfl | rfl | rfl | rfl <;> first | exact Nat.le_refl _ | exact Nat.le_add_right _ _
  exact I1.fpOk hle (I1.hok.fresh hle)
def zipBD : List D → Option (List D)
  | [x, y] => match asSeq x, asSeq y with
    | some ds, some es => some (paired ds es)
    | _, _ => none
  | _ => none
theorem seq_rep {c : Cn} {F H : Hp} {d : D} {ds : List D} {v : V} (e : asSeq d = some ds) (s : Same F H) (r : Rep c.K F d v) : ∃ a b xs, v = .ref a ∧ SqB c.K H a xs b ∧ RepL c.K F ds xs ∧ ∀ H', Same F H' → SqB c.K H' a xs b := by
  cases d with
  | lst es =>
    cases e
    obtain ⟨a, xs, rfl, h2, h3⟩ := r
    exact ⟨a, false, xs, rfl, .of (s _ _ h2), h3, fun H' s' => .of (s' _ _ h2)⟩
  | tup es =>
    cases e
    obtain ⟨a, xs, rfl, h2, h3⟩ := r
    exact ⟨a, true, xs, rfl, sqT_mono s h2.sq, h3, fun H' s' => sqT_mono s' h2.sq⟩
  | _ => cases e
theorem walk_zipB {K : PySem.W.Frag} {a b : Addr} {p q : Bool} {xs ys : List V} {n : Nat} (hn : n = min xs.length ys.length) : L2.Walk (ItzB K a b p q xs.length ys.length) n (fun H => SqB K H a xs p ∧ SqB K H b ys q) (L2.YPair (fun i => xs[i]?) (fun i => ys[i]?)) := by
  subst hn
  refine ⟨fun i _ hi h => ?_, fun _ h => ⟨xs, ys, h.1, h.2, rfl, rfl, by omega⟩, fun i H v H' _ h y => ?_⟩
  · exact ⟨xs, ys, xs[i], ys[i], h.1, h.2, rfl, rfl, List.getElem?_eq_getElem _, List.getElem?_eq_getElem _⟩
  · obtain ⟨T, x, z, h1, h2, h3, h4, h5⟩ := y
    exact ⟨T, x, z, h1, h2, h3, h4 xs h.1, h5 ys h.2⟩
variable {c : Cn} {E : WX} {tA : TA} {fA : M (List D)}
theorem ix_zipB (ha : Ax c E tA fA) : Ix c E (iZipB c.K tA) (itBs zipBD fA) := by
  intro W F H σ ρ Q R h
  refine ha W F H σ ρ _ R ((h.bind (RepL c.K)).mono fun vs H1 ⟨ds, ρ1, F1, R1, s1, r1, h1⟩ => ?_)
  obtain ⟨zs, e, k⟩ := Post.lift h1
  unfold zipBD at e
  split at e
  · rename_i d1 d2
    split at e
    · rename_i ds es q1 q2
      obtain ⟨v, w, rfl, r2, r3⟩ := repL2 r1
      cases e
      obtain ⟨a, p, xs, rfl, sx, h3, fx⟩ := seq_rep q1 R1.sub r2
      obtain ⟨b, q, ys, rfl, sy, h5, fy⟩ := seq_rep q2 R1.sub r3
      refine ⟨a, b, p, q, xs, ys, rfl, sx, sy, k F1 H1 _ R1 (Same.refl _) ?_⟩
      refine walk_D (walk_zipB (K := c.K) (a := a) (b := b) (xs := xs) (ys := ys) rfl) (by unfold paired; rw [List.length_map, List.length_range, h3.len, h5.len]) (fun H s => ⟨fx H s, fy H s⟩) (fun i H x H' s hi ⟨T, y, z, e1, e2, e3, e4, e5⟩ => ?_) fun i H ⟨x1, x2, w1, w2, w3, w4, w5⟩ hi => ⟨x1, x2, w1, w2, w3, w4, by omega⟩
      obtain ⟨d, e6, r⟩ := h3.of_get e4
      obtain ⟨d', e7, r'⟩ := h5.of_get e5
      refine ⟨.tup [d, d'], ?_, .inr ⟨T, _, _, e2, e3, e1, rfl, .cons r (.cons r' .nil)⟩⟩
      unfold paired
      rw [List.getElem?_map, List.getElem?_range (by rw [h3.len, h5.len]; exact hi)]
      show some (D.tup [ds.getD i .non, es.getD i .non]) = _
      rw [getD_of e6, getD_of e7]
    · cases e
  · cases e
end Pl
/-! errors of one's own with a field, over any base -/
namespace Pl
open PySem PySem.Spec PyProof.Rows L2
/-- a class of errors whose __init__ keeps what it is given as f -/
structure OexG (K : PySem.W.Frag) (C : Addr) (f : Str) : Prop where
  b : ∃ (B newId initId : String) (bm : List Value), ExcBaseFacts B newId initId bm ∧ StoreFacts B bm "object.__setattr__" "object" ∧ PySem.W.excInitIn K C bm newId = true ∧ PySem.W.excOver K C bm = true
  sa : PySem.W.findIn K (.ref C) "__setattr__" = some (some (.builtin "object.__setattr__"))
  hd : PySem.W.hasDictIn K C = true
  ta : PySem.W.takerIn K C f = some none
  exC : PySem.W.subIn K (.ref C) (.type "BaseException") = some true
  tyC : PySem.W.typeIn K (.ref C) = some (.type "type")
  kC : PySem.W.keepIn K (.ref C) = true
section
variable {X : Cx} {pins : List (Addr × Obj)} {σ : L2.St} {H : Hp} {s : Shared} {a C : Addr} {f : Str} {y : V} {u : Value} {Q : Unit → Shared → Prop} {E : Value → Shared → Prop} {A : Around}
theorem ost_G (T : OexG X.K C f) (I : Inv X pins σ H s) (e : H a = some (exo a C none)) (ry : RelV y u)
    (h : ∀ dx s', H dx = none → dx ≠ a → Inv X pins σ (upd (upd H dx (exd dx [(f, y)])) a (exo a C (some dx))) s' → Q () s') : wpAny (model X.prog X.w) A (setAttr (.ref a) f u) Q E s := by
  obtain ⟨B, newId, initId, bm, _, SF, _, ov⟩ := T.b
  obtain ⟨t1, ho⟩ := exo_at I.hok e
  obtain ⟨cd, hc, hdd⟩ := PySem.W.any_some T.hd
  have kin : X.K.In s.heap := I.kIn
  obtain ⟨hp, g, d, t, os⟩ := s
  refine PySem.W.set_plain kin (ox := { cls := .ref C, dict := none, data := .fields #[.ref t1, .none, .none, .none, .bool false, .none] }) (od := none) ⟨ho, rfl, rfl, trivial⟩ T.sa ?_
  refine PySem.W.osa_openX (od := none) SF kin ⟨ho, rfl, rfl, trivial⟩ ov T.ta fun b => ?_
  refine wpAny_bind (wpAny_pure (wpAny_bind (PySem.W.instanceDict_exc ho (PySem.W.looks_clsIn kin hc) hdd ?_)))
  have old : ∀ {c : Addr} {o : Obj}, hp.get? c = some o → c ≠ hp.objs.size := fun {c o} q => Nat.ne_of_lt (Heap.lt_size q)
  have ho2 : (hp.push (PySem.W.dictOf [] 0)).get? a = some _ := Heap.get?_push_of_some _ ho
  refine PySem.HandSPX.store_in_new (dx := hp.objs.size) ?_ fun h' tk' ns same => ?_
  · exact ⟨_, #[], _, (Heap.get?_update_ne _ _ _ _ (old ho).symm).trans (Heap.get?_push_at rfl rfl), rfl, fun e he => absurd he (by simp), fun _ => rfl⟩
  · have hx : h'.get? a = some ({ cls := .ref C, dict := some hp.objs.size, data := .fields #[.ref t1, .none, .none, .none, .bool false, .none] } : Obj) := (same.2 a (old ho)).trans (Heap.get?_update_self _ ho2 rfl)
    have far : ∀ c o, c ≠ a → hp.get? c = some o → h'.get? c = some o := fun c o hb q => (same.2 c (old q)).trans ((Heap.get?_update_ne _ _ _ _ hb).trans (Heap.get?_push_of_some _ q))
    have fresh : H hp.objs.size = none := I.hok.fresh (Nat.le_refl _)
    have away : ∀ {c : Addr}, H c = none → c ≠ a := fun {c} n z => by rw [z, e] at n; cases n
    have un : Un X.fs [] H (upd (upd H hp.objs.size (exd hp.objs.size [(f, y)])) a (exo a C (some hp.objs.size))) hp h' := {
      keep := fun c o q n _ _ => far c o (away n) q
      slot := fun c o q n _ _ => ⟨o.slots, far c o (away n) q⟩
      free := fun c o q n _ => by rw [upd_ne (away n), upd_ne (old q)]; exact n
      there := fun c o q _ => by
        by_cases hb : c = a
        · exact ⟨_, by rw [hb]; exact hx⟩
        · exact ⟨o, far c o hb q⟩
      tups := fun c xs q => by rw [upd_ne (at_ne e q exo_tup), upd_ne (ne_of_none q fresh)]; exact q
      frzs := fun c o v q => by rw [upd_ne (at_ne e q exo_frz), upd_ne (ne_of_none q fresh)]; exact q
      tbls := fun c ps q => ⟨#[], by rw [upd_ne (at_ne e q exo_tbl), upd_ne (ne_of_none q fresh), q]; simp⟩ }
    refine h hp.objs.size _ fresh (old ho).symm (I.un (t' := tk') un fun c o q => ?_)
    by_cases hb : c = a
    · subst hb
      rw [upd_same] at q
      cases q
      exact exo_ok hx
    · rw [upd_ne hb] at q
      by_cases hd : c = hp.objs.size
      · subst hd
        rw [upd_same] at q
        cases q
        exact exd_ok ns (relO_put (fs := []) ry fun g => True.intro)
      · rw [upd_ne hd] at q
        refine (I.hok c o q).stay (fun b v hc z => far b v ?_ z) (fun b hc => ?_) fun b xs hc => ?_
        · rcases hc with hc | hc
          · rw [hc]; exact hb
          · exact at_ne e hc exo_own
        · rw [upd_ne (at_ne e hc exo_own), upd_ne (ne_of_none hc fresh)]; exact hc
        · rw [upd_ne (at_ne e hc exo_tup), upd_ne (ne_of_none hc fresh)]; exact hc
end
/-- self.f = e, on an error that is being made -/
def tOstG (K : PySem.W.Frag) (f : Str) (to te : TE) : TS := fun D σ H => te σ H fun y H1 => to σ H1 fun x H2 => ∃ a C : Addr, x = .ref a ∧ OexG K C f ∧ H2 a = some (exo a C none) ∧ ∀ dx, H2 dx = none → dx ≠ a → D.nx σ (upd (upd H2 dx (exd dx [(f, y)])) a (exo a C (some dx)))
/-- what such an __init__ does -/
def initSp (K : PySem.W.Frag) (f : Str) : Sp := fun vs H Q E => ∃ (a C : Addr) (y : V), vs = [.ref a, y] ∧ OexG K C f ∧ H a = some (exo a C none) ∧ ∀ dx, H dx = none → dx ≠ a → Q .non (upd (upd H dx (exd dx [(f, y)])) a (exo a C (some dx)))
theorem initSp_len {K : PySem.W.Frag} {f : Str} {p q : Str} : ∀ vs H Q E, initSp K f vs H Q E → vs.length = [p, q].length := fun vs H Q E ⟨_, _, _, e, _⟩ => by rw [e]; rfl
/-- x(e) -/
def tMkV (C : Addr) (f : Str) (te : TE) : L2.St → Hp → XK → Prop := fun σ H Q => te σ H fun y H1 => ∀ d, H1 d = none → Q (.ref C) (some d) (upd H1 d (.xd [(f, y)]))
section
variable {X : Cx} {o e : Expr} {to te : TE} {f : Str} {p p' pos : Pos}
theorem ps_ostG (ho : PE X o to) (he : PE X e te) (hs : swapsWith e (some (.Attribute o f p')) pos.line X.env = pure false := by rfl) : PS X (.Assign [.Attribute o f p'] e pos) (tOstG X.K f to te) := by
  refine ⟨fun pins s σ H D I h => ?_⟩
  refine plainObj_wpAny_Assign_Attribute (thn (he.run pins s σ H _ I h) fun v s1 ⟨y, H1, I1, r1, q1⟩ => thn (ho.run pins s1 σ H1 _ I1 q1) fun u s2 ⟨x, H2, I2, r2, a, C, ex, T, ea, q⟩ => ?_) hs
  subst ex
  obtain rfl : u = Value.ref a := r2
  exact ost_G T I2 ea r1 fun dx s' n ne J => ⟨σ, _, J, q dx n ne⟩
theorem pmk_G {x : Str} {C fI : Addr} {k : Nat} {fd : FuncData} {sf pf : Str} (T : OexG X.K C f) (iC : PySem.W.findIn X.K (.ref C) "__init__" = some (some (.ref fI))) (tI : PySem.W.typeIn X.K (.ref fI) = some (.type "function"))
    (G : FnG false X.prog X.w X.K X.mg X.base k fI fd [sf, pf] (initSp X.K f)) (hr : Room (k + 1) X.A) (bi : Binds X.K fd [sf, pf] []) (hg : Gl X x) (hm : X.mg x = some (.ref C)) (he : PE X e te)
    (hdb : (x == ("__debug__" : Str)) = false := by decide) (h2 : starEach [e] X.env = (false, eval e X.env) :: starEach [] X.env := by rfl) (hpl : (backTo pos (starEach [] X.env)).any (·.1) = false := by rfl) :
    PMk X (.Call (.Name x p) [e] [] pos) (tMkV C f te) := by
  intro pins s σ H Q I h
  obtain ⟨B, newId, initId, bm0, FB, _, ei, _⟩ := T.b
  refine wpAny_Call_Name_kw (ld_glob I hg hm ?_ hdb)
  refine PySem.W.callWith_K (h₀ := X.base) I.ok.mod.kin T.kC (thn ((pa_cons he pa_nil (hs := h2)).run pos pins s σ H (fun vs H1 => match vs with | [y] => ∀ d, H1 d = none → Q (.ref C) (some d) (upd H1 d (.xd [(f, y)])) | _ => False) I h) fun us s1 ⟨vs, H1, I1, r1, q1⟩ => ⟨I1.kIn, ?_⟩) h2 hpl
  show wpAny _ _ (call (.ref C) us) _ _ _
  obtain ⟨y, rfl⟩ : ∃ y, vs = [y] := by
    match vs, q1 with
    | [y], _ => exact ⟨y, rfl⟩
  obtain ⟨u, rfl, ry⟩ := vals1 r1
  obtain ⟨nm, N, qn, bs, bm, hdct, sn, sub, ab, col, dd, k0, k1, k2, k3, k5, hC, hT⟩ := PySem.W.excInit_of I1.kIn ei
  have kin1 : X.K.In s1.heap := I1.kIn
  obtain ⟨hp, g, dr, tk, os⟩ := s1
  have hsz : hp.objs.size ≤ hp.objs.size + 1 := Nat.le_succ _
  have hn : H1 (hp.objs.size + 1) = none := I1.hok.fresh hsz
  have kk : ∀ b o, hp.get? b = some o → ((hp.push (PySem.W.kdv_tup [u])).push (PySem.HandSPX.excO C hp.objs.size)).get? b = some o := fun b o e => Heap.get?_push_of_some _ (Heap.get?_push_of_some _ e)
  have hget : ((hp.push (PySem.W.kdv_tup [u])).push (PySem.HandSPX.excO C hp.objs.size)).get? (hp.objs.size + 1) = some (PySem.HandSPX.excO C hp.objs.size) := by heap_get
  have I2 : Inv X pins σ (upd H1 (hp.objs.size + 1) (exo (hp.objs.size + 1) C none)) ⟨(hp.push (PySem.W.kdv_tup [u])).push (PySem.HandSPX.excO C hp.objs.size), g, dr, tk, os⟩ := I1.laid (t' := tk) kk hsz (exo_ok hget)
  have bound := bi ⟨(hp.push (PySem.W.kdv_tup [u])).push (PySem.HandSPX.excO C hp.objs.size), g, dr, tk, os⟩ [Value.ref (hp.objs.size + 1), u] I2.kIn rfl
  have sp : initSp X.K f [V.ref (hp.objs.size + 1), y] (upd H1 (hp.objs.size + 1) (exo (hp.objs.size + 1) C none)) (fun v H2 => v = .non ∧ ∃ d, H1 d = none ∧ d ≠ hp.objs.size + 1 ∧ H2 = upd (upd (upd H1 (hp.objs.size + 1) (exo (hp.objs.size + 1) C none)) d (exd d [(f, y)])) (hp.objs.size + 1) (exo (hp.objs.size + 1) C (some d))) (WE E0w σ) :=
    ⟨_, C, y, rfl, T, upd_same, fun d hd ne => ⟨rfl, d, by rw [upd_ne ne] at hd; exact hd, ne, rfl⟩⟩
  have r2 : Vals [V.ref (hp.objs.size + 1), y] [Value.ref (hp.objs.size + 1), u] := .cons rfl (.cons ry .nil)
  refine wpAny_call (PySem.HandSPX.call_own FB hT hC (PySem.W.looks_findIn kin1 iC) (fun self => PySem.W.bind_fn kin1 self tI) (by show 1 ≤ sizeLine; rw [sizeLine_eq]; omega)
    (codeAny_mono (G.goes _ X.stack _ _ ⟨[Value.ref (hp.objs.size + 1), u], []⟩ [Value.ref (hp.objs.size + 1), u] _ _ (WE E0w σ) (hr.make C [u] []) nofun (I2.env0.make C [u] []) bound r2 sp) fun r s' hq => ?_))
  cases r with
  | error er => exact passAt takes0w σ pins _ _ er s' I2 hq
  | ok fl =>
    cases fl with
    | ret v =>
      obtain ⟨v', H2, os2, bare2, un2, hok2, rv, ev, d, hd, hne, e2⟩ := hq
      subst ev
      subst e2
      obtain ⟨h2', g2, d2, t2, os'⟩ := s'
      obtain ⟨t0, G', J, kG, ge, hoe, na⟩ := mk_end0 (d2 := d2) (t2 := t2) I1 hsz kk un2 hok2 os2 bare2 upd_same (by rw [upd_ne hne, upd_same]) hd
      have same : upd (del (upd (upd (upd H1 (hp.objs.size + 1) (exo (hp.objs.size + 1) C none)) d (exd d [(f, y)])) (hp.objs.size + 1) (exo (hp.objs.size + 1) C (some d))) (hp.objs.size + 1)) d (.xd [(f, y)]) = upd H1 d (.xd [(f, y)]) := by
        funext c
        by_cases c1 : c = d
        · rw [c1, upd_same, upd_same]
        · rw [upd_ne c1, upd_ne c1]
          by_cases c2 : c = hp.objs.size + 1
          · rw [c2, del_same, hn]
          · rw [del_ne c2, upd_ne c2, upd_ne c1, upd_ne c2]
      rw [same] at J na
      exact ⟨rv, _, _, _, ⟨G', g2, d2, t2, os'⟩, _, .ref C, some d, rfl, J, kG, ge, hoe, ⟨rfl, rfl⟩, rfl, rfl, na, rfl, bare2, raises_own T.exC T.tyC, q1 d hd⟩
    | next => exact False.elim hq
    | brk => exact False.elim hq
    | cont => exact False.elim hq
end
end Pl
/-! such errors raised, and read where they are caught -/
namespace Pl
open PySem PySem.Spec PyProof.Rows L2
structure XVal (P : Program) (w : World) (K : PySem.W.Frag) (mg : Str → Option Value) (base : Heap) (x f : Str) (C : Addr) : Prop where
  g : mg x = some (.ref C)
  T : OexG K C f
  i : ∃ (fI : Addr) (fd : FuncData) (sf pf : Str), PySem.W.findIn K (.ref C) "__init__" = some (some (.ref fI)) ∧ PySem.W.typeIn K (.ref fI) = some (.type "function") ∧ FnG false P w K mg base 1 fI fd [sf, pf] (initSp K f) ∧ Binds K fd [sf, pf] []
section
variable {X : Cx} {W : WX} {x f : Str} {C : Addr} {e : Expr} {te : TE} {p pos pos' : Pos}
theorem ps_raiseV (hc : X.calm = true) (tk : Takes X W) (h : XVal X.prog X.w X.K X.mg X.base x f C) (hr : Room 2 X.A) (hg : Gl X x) (he : PE X e te) (hdb : (x == ("__debug__" : Str)) = false := by decide)
    (h2 : starEach [e] X.env = (false, eval e X.env) :: starEach [] X.env := by rfl) (hpl : (backTo pos (starEach [] X.env)).any (·.1) = false := by rfl) :
    PS X (.Raise (some (.Call (.Name x p) [e] [] pos)) none pos') (fun _ σ H => tMkV C f te σ H fun cls d H' => W cls d σ H') := by
  obtain ⟨fI, fd, sf, pf, h1, h3, G, bi⟩ := h.i
  exact L2.ps_raise hc tk (pmk_G h.T h1 h3 G hr bi hg h.g he hdb h2 hpl)
end
def sRaiseV (x f : Str) (fe : M D) : S := fe.bind fun d ρ => .ex ⟨x, some (f, d)⟩ ρ
section
variable {c : Cn} {E : WX} {np : Nat}
theorem sx_raiseV {x f : Str} {C : Addr} {te : TE} {fe : M D} (g : c.mg x = some (.ref C)) (he : Ex c E te fe) : Sx c E np (fun _ σ H => tMkV C f te σ H fun cls d H' => E cls d σ H') (sRaiseV x f fe) := by
  intro W F H σ ρ D hn R h
  refine he W F H σ ρ _ R ((SPost.bind (Rep c.K) h).mono fun y H1 ⟨d, ρ1, F1, R1, s1, r1, h1⟩ dd hd => ?_)
  have gr := R1.fz.new (o := .xd [(f, y)]) hd fun _ z => by cases z
  exact h1 _ _ σ (.ref C) (some dd) (R1.grow gr) gr.fs ⟨.inl g, dd, y, rfl, upd_same, r1.mono gr.fs⟩
/-- e.f, where e is such an error of the class y -/
def eXf (j : Nat) (y f : Str) : M D := fun ρ => match ρ[j]? with
  | some (.e x) => match x.val with
    | some (g, d) => if x.cls = y ∧ g = f then .ok d ρ else .bad
    | none => .bad
  | _ => .bad
theorem ex_xf {ad : Addr} {cls : Value} {d : Option Addr} {j : Nat} {y f : Str} {C : Addr} (g : c.mg y = some (.ref C)) : Ex (c.wi (some (ad, cls, d))) E (tXf ad cls d C f (tVar j)) (eXf j y f) := by
  intro W F H σ ρ Q R h
  unfold eXf at h
  cases er : ρ[j]? with
  | none => rw [er] at h; exact h.elim
  | some s =>
    rw [er] at h
    cases s with
    | e x =>
      have h : Post (c.wi (some (ad, cls, d))) W F σ E (Rep c.K) (match x.val with
        | some (g, d) => if x.cls = y ∧ g = f then .ok d ρ else .bad
        | none => .bad) Q := h
      obtain ⟨a, cls', od, e1, e2, x1, x2⟩ := R.here j _ er
      cases e2
      cases ev : x.val with
      | none => rw [ev] at h; exact h.elim
      | some gd =>
        obtain ⟨g', dv⟩ := gd
        rw [ev] at x2
        have h : Post (c.wi (some (ad, cls, d))) W F σ E (Rep c.K) (if x.cls = y ∧ g' = f then .ok dv ρ else .bad) Q := by rw [ev] at h; exact h
        by_cases q : x.cls = y ∧ g' = f
        · have h9 : Post (c.wi (some (ad, cls, d))) W F σ E (Rep c.K) (.ok dv ρ) Q := by rw [if_pos q] at h; exact h
          obtain ⟨q1, q2⟩ := q
          subst q1 q2
          obtain ⟨dd, v, h1, h2, h3⟩ := x2
          have ec : cls = .ref C := NameV.one (mg := c.mg) (y := x.cls) x1 (.inl g)
          exact ⟨.ref ad, e1, rfl, ec, dd, [(g', v)], v, h1, R.sub _ _ h2, by simp [List.lookup], h9 F H v R (Same.refl _) h3⟩
        · rw [if_neg q] at h
          exact h.elim
    | _ => exact h.elim
end
/-- the defs of a class -/
def clsB : Stmt → List Stmt
  | .ClassDef (body := b) .. => b
  | _ => []
/-! ### what the written part is asked -/
def ixBase : List Value := [.type "IndexError", .type "LookupError", .type "Exception", .type "BaseException", .type "object"]
def ovBase : List Value := [.type "OverflowError", .type "ArithmeticError", .type "Exception", .type "BaseException", .type "object"]
def arBase : List Value := [.type "ArithmeticError", .type "Exception", .type "BaseException", .type "object"]
def luBase : List Value := [.type "LookupError", .type "Exception", .type "BaseException", .type "object"]
def rtBase : List Value := [.type "RuntimeError", .type "Exception", .type "BaseException", .type "object"]
/-- the bases there are: IndexError, OverflowError, ArithmeticError, LookupError, RuntimeError -/
inductive XBase where | ix | ov | ar | lu | rt
def XBase.tail : XBase → List Value | .ix => ixBase | .ov => ovBase | .ar => arBase | .lu => luBase | .rt => rtBase
def XBase.newId : XBase → String | .ix => "IndexError.__new__" | .ov => "OverflowError.__new__" | .ar => "ArithmeticError.__new__" | .lu => "LookupError.__new__" | .rt => "RuntimeError.__new__"
def oexB (K : PySem.W.Frag) (C fI : Addr) (f : Str) (b : XBase) : Bool := PySem.W.excInitIn K C b.tail b.newId && (PySem.W.excOver K C b.tail && (decide (PySem.W.findIn K (.ref C) "__setattr__" = some (some (.builtin "object.__setattr__"))) && (PySem.W.hasDictIn K C && (decide (PySem.W.takerIn K C f = some none) && (decide (PySem.W.subIn K (.ref C) (.type "BaseException") = some true) &&
  (decide (PySem.W.typeIn K (.ref C) = some (.type "type")) && (PySem.W.keepIn K (.ref C) && (decide (PySem.W.findIn K (.ref C) "__init__" = some (some (.ref fI))) && (decide (PySem.W.typeIn K (.ref fI) = some (.type "function")) && xfB K C && decide (PySem.W.findIn K (.ref C) f = some none))))))))))
theorem oex_of {K : PySem.W.Frag} {C fI : Addr} {f : Str} {b : XBase} (h : oexB K C fI f b = true) : OexG K C f ∧ PySem.W.findIn K (.ref C) "__init__" = some (some (.ref fI)) ∧ PySem.W.typeIn K (.ref fI) = some (.type "function") ∧ XfC K C ∧ PySem.W.findIn K (.ref C) f = some none := by
  obtain ⟨h1, h⟩ := He.ba h
  obtain ⟨h2, h⟩ := He.ba h
  obtain ⟨h3, h⟩ := He.ba h
  obtain ⟨h4, h⟩ := He.ba h
  obtain ⟨h5, h⟩ := He.ba h
  obtain ⟨h6, h⟩ := He.ba h
  obtain ⟨h7, h⟩ := He.ba h
  obtain ⟨h8, h⟩ := He.ba h
  obtain ⟨h9, h⟩ := He.ba h
  obtain ⟨h, h12⟩ := He.ba h
  obtain ⟨h10, h11⟩ := He.ba h
  refine ⟨⟨?_, of_decide_eq_true h3, h4, of_decide_eq_true h5, of_decide_eq_true h6, of_decide_eq_true h7, h8⟩, of_decide_eq_true h9, of_decide_eq_true h10, xfB_ok h11, of_decide_eq_true h12⟩
  cases b
  · exact ⟨_, _, _, _, PySem.F.excBase_IndexError, PySem.F.store_IndexError, h1, h2⟩
  · exact ⟨_, _, _, _, PySem.F.excBase_OverflowError, PySem.F.store_OverflowError, h1, h2⟩
  · exact ⟨_, _, _, _, PySem.F.excBase_ArithmeticError, PySem.F.store_ArithmeticError, h1, h2⟩
  · exact ⟨_, _, _, _, PySem.F.excBase_LookupError, PySem.F.store_LookupError, h1, h2⟩
  · exact ⟨_, _, _, _, PySem.F.excBase_RuntimeError, PySem.F.store_RuntimeError, h1, h2⟩
end Pl
/-! a comprehension out of which an error comes -/
namespace Pl
open PySem PySem.Spec PyProof.Rows L2
section
variable {M : Model} {A : Around} {E : Value → Shared → Prop} {env : PySem.Env} {outer : List PySem.Env} {base : Heap} {Z : Obj → Prop} {e L C : Addr} {s : Shared}
/-- the frame notes an error that another block held -/
theorem looks_other {Q : Unit → Shared → Prop} (hZ : PySem.HandSPX.Steady Z) (hfr : A.frames = some (env :: outer)) (hf : env.frame = some L) (ne : C ≠ L) (hh : PySem.HandSPX.HeldZ base (env :: outer) e Z C s.heap)
    (hQ : ∀ h', PySem.HandSPX.HeldZ base (env :: outer) e Z L h' → s.heap.UpToSlots h' → Q () { s with heap := h' }) : wpAny M A (noteFrame (.ref e) env) Q E s := by
  obtain ⟨st, no, fr, oe, vs, T, oT, ts, he, hz, hd, h1, nT, Te, hT, dT, h3⟩ := hh
  unfold noteFrame
  simp only [hf]
  refine wpAny_bind (wpAny_field he hd h1 ?_)
  rw [if_pos (show (Value.ref T != Value.none) = true from by simp)]
  refine wpAny_bind (wpAny_field hT dT h3 ?_)
  rw [if_neg (show ¬ ((rawInt C == rawInt L) = true) from by
    intro q
    have q := eq_of_beq q
    unfold rawInt at q
    injection q with q
    exact ne (by first | exact q | exact Int.ofNat.inj q | exact Int.ofNat_inj.mp q))]
  refine wpAny_bind (wpAny_setField hT dT (Array.getElem?_eq_some_iff.mp h3).1 ?_)
  have far : ∀ b, b ≠ T → (s.heap.update T (Obj.mapFields (·.setIfInBounds 3 Value.none))).get? b = s.heap.get? b := fun b hb => Heap.get?_update_other _ _ (Ne.symm hb)
  have notT : ∀ b o, s.heap.get? b = some o → (∀ vs, o.data ≠ .fields vs) → b ≠ T := fun b o hb nf q => by
    rw [q, hT] at hb; injection hb with hb; subst hb; exact nf ts dT
  refine PySem.HandSPX.wpAny_entryZ hZ hfr (fr.of_keeps fun b o hb nf => ⟨o, (far b (notT b o hb nf)).trans hb, rfl⟩) hf ((far e (Ne.symm Te)).trans he)
    (fun b o hb => (far b fun q => by rw [q, nT] at hb; cases hb).trans (st b o hb)) no hd (Array.getElem?_eq_some_iff.mp h1).1 hz fun h' hN => ?_
  obtain ⟨x1, x2, x3, x4⟩ := hN
  exact hQ h' ⟨x1, no, x2, x3⟩ fun b o hb nf => x4 b o ((far b (notT b o hb nf)).trans hb) nf
/-- whatever its state, it is noted -/
theorem sky_note {a : Addr} {B : Heap} {Q : Unit → Shared → Prop} (hZ : PySem.HandSPX.Steady Z) (hfr : A.frames = some (env :: outer)) (hf : env.frame = some L) (ne : C ≠ L) (x : Sky B (env :: outer) a Z C s.heap)
    (hQ : ∀ h', PySem.HandSPX.HeldZ B (env :: outer) a Z L h' → s.heap.UpToSlots h' → Q () { s with heap := h' }) : wpAny M A (noteFrame (.ref a) env) Q E s := by
  rcases x with ⟨hB, hn, hl, oe, vs, he, hz, hd, h1⟩ | fl | hh
  · exact PySem.HandSPX.look_newZ hZ hfr hl hf he hB hn hd h1 hz hQ
  · exact PySem.HandSPX.looks_onZ hZ hfr hf fl hQ
  · exact looks_other hZ hfr hf ne hh hQ
end
/-- one object of a heap put in another's place -/
theorem swap_at {h : Heap} {C : Addr} {o o' : Obj} (e : h.get? C = some o) (nf : o'.isFreed = false) : ∃ h' : Heap, h'.get? C = some o' ∧ ∀ b, b ≠ C → h'.get? b = h.get? b :=
  ⟨h.update C fun _ => o', Heap.get?_update_self _ e nf, fun b hb => Heap.get?_update_other _ _ (Ne.symm hb)⟩
theorem frames_base {h B B' : Heap} (k : ∀ b, B.get? b = none → B'.get? b = none) : ∀ {l : List PySem.Env}, h.FunFrames B l → h.FunFrames B' l
  | [], _ => trivial
  | _ :: _, ⟨a, ⟨L, o, hf, hb, ho, hd⟩, r⟩ => ⟨a, ⟨L, o, hf, k L hb, ho, hd⟩, frames_base k r⟩
theorem traced_swap {h h' B B' : Heap} {C e : Addr} {Z : Obj → Prop} {fl : Value} {m : Str → Option Value} (hn : h.Ns C m) (sb : Heap.SameBut C h h') (k : ∀ b, B.get? b = none → B'.get? b = none) (t : PySem.HandSPX.TracedZ h B e Z fl) : PySem.HandSPX.TracedZ h' B' e Z fl := by
  obtain ⟨oe, vs, T, oT, ts, he, hz, hd, h1, nT, Te, hT, dT, h3⟩ := t
  obtain ⟨oC, es, ep, hC, dC, _⟩ := hn
  have nC : ∀ {b : Addr} {o : Obj} {ws : Array Value}, h.get? b = some o → o.data = .fields ws → b ≠ C := fun {b o ws} hb d q => by
    rw [q, hC] at hb; injection hb with hb; subst hb; rw [dC] at d; cases d
  exact ⟨oe, vs, T, oT, ts, (sb.2 e (nC he hd)).trans he, hz, hd, h1, k T nT, Te, (sb.2 T (nC hT dT)).trans hT, dT, h3⟩
abbrev Cx.blkE (X : Cx) (s : Shared) (H : Hp) (scope : Scope) (cenv : PySem.Env) (fp : List Addr) (xe : Value → Shared → Prop) : Cx := { X.blk s H scope cenv fp with xe := xe }
section
variable {X : Cx} {W : WX} {pins : List (Addr × Obj)} {σ : L2.St} {H : Hp} {s : Shared}
/-- the error of a comprehension's element, taken outside -/
theorem comp_err {scope : Scope} {ce : PySem.Env} {fp : List Addr} {xe : Value → Shared → Prop} {use : Option (Value → Sem Unit)} {Q : Value → Shared → Prop} {acc : Value} (I3 : Inv X pins σ H s) (tk : Takes X W) (hs : X.stack = X.env :: X.outer) (hf : X.env.frame = some X.env.locals)
    (cf : ce.frame = X.env.frame) (cl : s.heap.objs.size ≤ ce.locals) (f3 : ∀ b ∈ fp, FpOk X pins H b ∧ b < s.heap.objs.size) (u : Value) (s' : Shared) (x : XE (Cx.blkE X s H scope ce fp xe) (fun cls d _ H' => W cls d σ H') u s') :
    notedBy (model X.prog X.w) X.A ce (fun e s'' => compEnds (model X.prog X.w) X.A X.xe use Q acc ce (.error e) s'') u s' := by
  obtain ⟨a, B, sI, pins', σ', H', cls, d, rfl, I, nb, up, sky, na, os, ag, w⟩ := x
  show wpAny _ _ (noteFrame (.ref a) ce) _ _ _
  rw [noteFrame_env (.ref a) cf]
  have hC : H ce.locals = none := I3.hok.fresh cl
  have fC := I3.fpOk cl hC
  have sky : Sky B (X.env :: X.outer) a (Zc cls d) ce.locals s'.heap := by rw [← hs]; exact sky
  have hfr : X.A.frames = some (X.env :: X.outer) := by rw [I3.ok.frames, hs]
  refine sky_note Zc.steady hfr hf fC.2.1 sky fun h1 held up1 => ?_
  obtain ⟨m, hn, _⟩ := I.loc
  have hn : sI.heap.Ns ce.locals m := hn
  have n1 : h1.Ns ce.locals m := (up.trans up1).ns hn
  show compEnds _ _ _ _ _ _ _ (.error (Value.ref a)) _
  have fails : CompFails (model X.prog X.w) X.A X.xe ce (.ref a) { s' with heap := h1 } := by
    refine ⟨m, n1, fun h2 m2 n2 sb => ?_⟩
    obtain ⟨oC, es, ep, e2, d2, _⟩ := id n2
    obtain ⟨oI, _, _, eI, dI, _⟩ := id hn
    have nfr : oC.isFreed = false := by
      obtain ⟨c, dd, dt, sl⟩ := oC
      cases d2; rfl
    have out : ∀ b ∈ frs X.stack, b ≠ ce.locals := fun b hb q => by
      have := I3.stkSub b hb
      rw [q] at this
      rcases List.mem_cons.mp this with z | z
      · exact fC.2.1 z
      · exact fC.2.2.1 z
    have eB : B.get? ce.locals = some oI := nb _ _ eI fun hb => out _ hb rfl
    obtain ⟨B', b1, b2⟩ := swap_at eB nfr
    obtain ⟨G, g1, g2⟩ := swap_at eI nfr
    have kB : ∀ b, B.get? b = none → B'.get? b = none := fun b hb => by
      rw [b2 b fun q => by rw [q, eB] at hb; cases hb]; exact hb
    have held2 : PySem.HandSPX.HeldZ B' (X.env :: X.outer) a (Zc cls d) X.env.locals h2 := by
      obtain ⟨k1, k2, k3, k4⟩ := held
      refine ⟨fun b o hb => ?_, kB a k2, frames_base kB (Heap.FunFrames.sameBut sb n2 k3), traced_swap n1 sb kB k4⟩
      by_cases q : b = ce.locals
      · rw [q, b1] at hb; rw [q, ← hb]; exact e2
      · rw [b2 b q] at hb; exact (sb.2 b q).trans (k1 b o hb)
    unfold PySem.passOn
    obtain ⟨oe, vs, T, oT, ts, he, hz, hd, h1', _⟩ := id held2.2.2.2
    refine wpAny_bind (wpAny_field he hd h1' ?_)
    rw [if_neg (show ¬ ((Value.ref T == Value.none) = true) from by simp), cf, hf]
    refine wpAny_bind (PySem.HandSPX.setFlight_onZ held2 fun h3 held3 up3 => wpAny_throw (tk _ _ ?_))
    have J : Inv X pins σ H' sI := I3.call' (ch := fp) I.os I.base I.hok I.bare fun b hb => ⟨(f3 b hb).1.2.2.2.1, (f3 b hb).1.2.1, (f3 b hb).1.2.2.2.2.1, (f3 b hb).1.2.2.2.2.2⟩
    have freeC : H' ce.locals = none := I.free
    have J2 : Inv X pins σ H' { sI with heap := G, toks := sI.toks } := J.turned (fun b o hb e => (g2 b hb).trans e) freeC fC.2.1 fC.2.2.2.1 fC.2.2.2.2.1 fC.2.2.2.2.2
    refine ⟨a, B', { sI with heap := G }, pins, σ, H', cls, d, rfl, J2, fun b o hb nb' => ?_, fun b o hb nf => ?_, ?_, na, os, ag, w⟩
    · by_cases q : b = ce.locals
      · have hb : G.get? b = some o := hb
        rw [q, g1] at hb; rw [q, ← hb]; exact b1
      · have hb : G.get? b = some o := hb
        rw [g2 b q] at hb; rw [b2 b q]; exact nb b o hb nb'
    · have hb : G.get? b = some o := hb
      by_cases q : b = ce.locals
      · rw [q, g1] at hb
        cases hb
        rw [q]; exact up3 _ _ e2 nf
      · rw [g2 b q] at hb
        obtain ⟨sl, k⟩ := (up.trans up1) b o hb nf
        obtain ⟨sl2, k2⟩ := up3 b _ ((sb.2 b q).trans k) nf
        exact ⟨sl2, k2⟩
    · rw [hs]; exact .inr (.inr held3)
  cases use <;> exact fails
end
end Pl
/-! [e for x in xs if t], where e may raise -/
namespace Pl
open PySem PySem.Spec PyProof.Rows L2
/-- the reading: te is told what an error of the element meets -/
def tLcE (W : WX) (wi : TI) (g : TG) (tt : TT) (te : WX → TE) (vs : List Nat) : TE := fun σ H Q => wi σ H fun J H1 => ∀ D, H1 D = none → ∃ M : Nat → Nat → Hp → Prop, (∃ m, M 0 m (upd H1 D (.lst []))) ∧ ∀ i m H, M i m H →
  (J.stop i H ∧ Q (.ref D) H) ∨ (J.go i H ∧ ∃ Nx : Hp → Prop, (∀ H', Nx H' → ∃ m', m' < m ∧ M (i + 1) m' H') ∧ ∀ x H', J.yld i H x H' → g x (wipe σ vs) H' fun σ2 H2 => wipe σ2 vs = wipe σ vs ∧ tt σ2 H2 fun b H3 =>
    if b = true then te (fun cls d _ H' => W cls d σ H') σ2 H3 fun y H4 => ∃ acc, H4 D = some (.lst acc) ∧ acc.length < sizeLine ∧ Nx (upd H4 D (.lst (acc ++ [y]))) else Nx H3)
section
variable {X : Cx} {W : WX} {elt tg iter : Expr} {ifs : List Expr} {scope : Scope} {own : List (Str × Nat)} {pos : Pos} {wi : TI} {g : TG} {tt : TT} {te : WX → TE}
theorem inv_xe {s0 : Shared} {H0 : Hp} {ce : PySem.Env} {fp : List Addr} {xe : Value → Shared → Prop} {pins : List (Addr × Obj)} {σ : L2.St} {H : Hp} {s : Shared} (I : Inv (X.blk s0 H0 scope ce fp) pins σ H s) : Inv (Cx.blkE X s0 H0 scope ce fp xe) pins σ H s :=
  ⟨I.ok.toTry [] xe, I.os, I.bare, I.base, I.loc, I.cell, I.free, I.freeC, I.pin, I.hok, I.len⟩
theorem inv_un {s0 : Shared} {H0 : Hp} {ce : PySem.Env} {fp : List Addr} {xe : Value → Shared → Prop} {pins : List (Addr × Obj)} {σ : L2.St} {H : Hp} {s : Shared} (ok : (X.blk s0 H0 scope ce fp).Ok) (I : Inv (Cx.blkE X s0 H0 scope ce fp xe) pins σ H s) : Inv (X.blk s0 H0 scope ce fp) pins σ H s :=
  ⟨ok, I.os, I.bare, I.base, I.loc, I.cell, I.free, I.freeC, I.pin, I.hok, I.len⟩
theorem pe_lcE (hc : X.calm = true) (tk : Takes X W) (hs : X.stack = X.env :: X.outer) (hf : X.env.frame = some X.env.locals) (hN : X.N.Nodup) (hi : PI X tg iter wi) (ok : BlkOk X.N X.env.scope scope own)
    (hg : ∀ (s : Shared) (H : Hp) (C : Addr) (cl : List (Str × Addr)) (fp : List Addr), PG (X.blk s H scope (compEnvC scope cl C X.env) fp) tg g) (ht : ∀ (s : Shared) (H : Hp) (C : Addr) (cl : List (Str × Addr)) (fp : List Addr), PTs (X.blk s H scope (compEnvC scope cl C X.env) fp) ifs tt)
    (he : ∀ (s : Shared) (H : Hp) (C : Addr) (cl : List (Str × Addr)) (fp : List Addr) (xe : Value → Shared → Prop) (W' : WX), Takes (Cx.blkE X s H scope (compEnvC scope cl C X.env) fp xe) W' → PE (Cx.blkE X s H scope (compEnvC scope cl C X.env) fp xe) elt (te W')) (hfo : ∀ x, foldedSetIterable iter X.env x = pure x := by intro _; rfl) :
    PE X (.ListComp elt [⟨tg, iter, ifs, 0⟩] scope pos) (tLcE W wi g tt te (own.map (·.2))) := by
  refine ⟨fun pins s σ H Q I h => ?_⟩
  rw [eval_ListComp]
  have free : ∀ y ∈ scope.names, y.2 = .free → ∃ c, X.env.cells.lookup y.1 = some c := fun y hy e => (ok.free y hy e).elim (fun k => I.ok.has _ (.inl k)) fun k => I.ok.has _ (.inr k)
  refine comprehension_at (use := none) rfl hfo (closure_ok free) ok.kind (fun y hy e => by rw [ok.uniq y hy, e]) (thn (hi.run pins s σ H _ I h) fun xv s1 hx => thn hx fun itv s2 h2 => ?_)
  obtain ⟨it, fp, tn, J, H2, rfl, I2, T, st2, f2, q⟩ := h2
  refine wpAny_newObj_type (newEnv_comp ?_) (by show 0 ≤ sizeLine; decide)
  generalize hD : s2.heap.objs.size = D
  have newD : H2 D = none := I2.hok.fresh (Nat.le_of_eq hD)
  obtain ⟨M, ⟨m0, w0⟩, turn⟩ := q D newD
  generalize hs3 : ({ s2 with heap := s2.heap.push { cls := .type "list", data := .seq ([] : List Value).toArray } } : Shared) = s3
  have h3 : s3.heap = s2.heap.push { cls := .type "list", data := .seq ([] : List Value).toArray } := by rw [← hs3]
  have I3 : Inv X pins σ (upd H2 D (.lst [])) s3 := by
    rw [← hs3]
    refine I2.laid (t' := s2.toks) (fun b o e => Heap.get?_push_of_some _ e) (Nat.le_of_eq hD) ⟨Nat.zero_le _, [], 0, .nil, ?_⟩
    rw [← hD]
    exact Heap.get?_push_size _ rfl
  have f3 : ∀ b ∈ fp, FpOk X pins (upd H2 D (.lst [])) b ∧ b < s3.heap.objs.size := fun b hb => by
    obtain ⟨o, e, _⟩ := T.obj _ _ st2 b hb
    have lt := Heap.lt_size e
    refine ⟨⟨?_, (f2 b hb).2⟩, by rw [h3, Heap.size_push]; exact Nat.lt_succ_of_lt lt⟩
    rw [upd_ne (by rw [← hD]; exact Nat.ne_of_lt lt)]
    exact (f2 b hb).1
  have st3 : tn 0 s3.heap := T.keep _ _ _ st2 fun b _ o e => by rw [h3]; exact Heap.get?_push_of_some _ e
  have I4 := block_start I3 ok hN f3
  generalize hcl : cellsFrom (s3.heap.objs.size + 1) scope.names (cloFrom X.env.cells scope.names []) = cl at I4
  have pg := hg s3 (upd H2 D (.lst [])) s3.heap.objs.size cl fp
  have pt := ht s3 (upd H2 D (.lst [])) s3.heap.objs.size cl fp
  have pe := he s3 (upd H2 D (.lst [])) s3.heap.objs.size cl fp
  show codeAny _ _ (.compStart (.ListComp elt [⟨tg, iter, ifs, 0⟩] scope pos) 0 (.ref it) (.ref D) (compEnvC scope cl s3.heap.objs.size X.env))
    (compEnds (model X.prog X.w) X.A X.xe none (EP X pins σ Q) (.ref D) (compEnvC scope cl s3.heap.objs.size X.env)) { s3 with heap := pushCells (s3.heap.push { cls := .type "dict", data := .dict #[] }) scope.names }
  have none3 : ∀ b ∈ fp, (upd H2 D (.lst [])) b = none := fun b hb => (f3 b hb).1.1
  generalize hce : compEnvC scope cl s3.heap.objs.size X.env = ce at I4 pg pt pe ⊢
  have cL : ce.locals = s3.heap.objs.size := by subst hce; rfl
  have cF : ce.frame = X.env.frame := by subst hce; rfl
  generalize hH3 : upd H2 D (.lst []) = H3 at I3 I4 pg pt pe w0 none3 f3
  have errs : ∀ u s', XE (Cx.blkE X s3 H3 scope ce fp (notedBy (model X.prog X.w) X.A ce fun e s'' => compEnds (model X.prog X.w) X.A X.xe none (EP X pins σ Q) (.ref D) ce (.error e) s'')) (fun cls d _ H' => W cls d σ H') u s' → _ :=
    fun u s' x => comp_err (use := none) (Q := EP X pins σ Q) (acc := .ref D) I3 tk hs hf cF (Nat.le_of_eq cL.symm) f3 u s' x
  have pe' := pe _ _ errs
  generalize hs4 : ({ s3 with heap := pushCells (s3.heap.push { cls := .type "dict", data := .dict #[] }) scope.names } : Shared) = s4 at I4 ⊢
  have okB := I4.ok
  have st4 : tn 0 s4.heap := T.keep _ _ _ st3 fun b _ o e => by rw [← hs4]; exact pushCells_keeps _ _ _ _ (Heap.get?_push_of_some _ e)
  have stat : ∀ {σ' : L2.St} {H' : Hp} {s' : Shared}, Inv (X.blk s3 H3 scope ce fp) [] σ' H' s' → (∀ b ∈ fp, H' b = none) → ∀ b ∈ fp, FpOk (X.blk s3 H3 scope ce fp) [] H' b := fun {σ' H' s'} I' hn b hb =>
    ⟨hn b hb, (I'.ok.exf b hb).1, I'.ok.exfs b hb, .inl hb, fun x c e => (I'.ok.exf b hb).2 x c e, fun p hp => absurd (show p ∈ ([] : List (Addr × Obj)) ++ [] from hp) (by simp)⟩
  have loop : codeAny (model X.prog X.w) X.A (.compLoop (.ListComp elt [⟨tg, iter, ifs, 0⟩] scope pos) 0 (.ref it) (.ref D) ce) (compEnds (model X.prog X.w) X.A X.xe none (EP X pins σ Q) (.ref D) ce) s4 := by
    refine compLoop_any (fun n s' => ∃ i H', Inv (X.blk s3 H3 scope ce fp) [] (wipe σ (own.map (·.2))) H' s' ∧ tn i s'.heap ∧ (∀ b ∈ fp, H' b = none) ∧ M i n H') ?_ m0 ⟨0, H3, I4, st4, none3, w0⟩
    rintro n s5 ⟨i, H5, I5, st5, n5, w5⟩
    rcases turn i n H5 w5 with ⟨stop, qq⟩ | ⟨go, Nx, hNx, step⟩
    · refine thnF (T.done (X.blk s3 H3 scope ce fp) rfl rfl rfl hc i [] s5 _ H5 (fun _ _ => False) I5 (stat I5 n5) st5 stop) fun r s6 ⟨hr, I6⟩ => ?_
      subst hr
      have I7 : Inv X pins σ H5 s6 := I3.call' (ch := fp) I6.os I6.base I6.hok I6.bare fun b hb => ⟨(f3 b hb).1.2.2.2.1, (f3 b hb).1.2.1, (f3 b hb).1.2.2.2.2.1, (f3 b hb).1.2.2.2.2.2⟩
      have nC : H5 ce.locals = none := I6.free
      obtain ⟨m, hn, _⟩ := I6.loc
      have fC := I3.fpOk (Nat.le_of_eq cL.symm) nC
      exact ⟨m, hn, fun h'' sb => ⟨.ref D, H5, I7.turned (t' := s6.toks) (fun b o hb e => (sb.2 b hb).trans e) fC.1 fC.2.1 fC.2.2.2.1 fC.2.2.2.2.1 fC.2.2.2.2.2, rfl, qq⟩⟩
    · refine thnF (T.item (X.blk s3 H3 scope ce fp) rfl rfl rfl hc i [] s5 _ H5 (fun _ _ => False) I5 (stat I5 n5) st5 go) fun r s6 ⟨u, hr, h6⟩ => ?_
      subst hr
      refine thnF h6 fun _ s7 ⟨x, H7, I7, r7, y7, st7, n7⟩ => ?_
      have I7' := I7.pinned (stat I7 n7) (T.obj _ _ st7)
      refine thnF (pg.run _ s7 _ H7 x u _ I7' r7 (step x H7 y7)) fun _ s8 ⟨σ8, H8, I8, hw8, q8⟩ => ?_
      refine thnF (pt.run _ s8 σ8 H8 _ I8 q8) fun b s9 ⟨H9, I9, q9⟩ => ?_
      have fin : ∀ {s' : Shared} {H' : Hp}, Inv (X.blk s3 H3 scope ce fp) ([] ++ pinsAt fp s7.heap) σ8 H' s' → Nx H' → ∃ m, m < n ∧ ∃ i H', Inv (X.blk s3 H3 scope ce fp) [] (wipe σ (own.map (·.2))) H' s' ∧ tn i s'.heap ∧ (∀ b ∈ fp, H' b = none) ∧ M i m H' := fun {s' H'} I' nx => by
        obtain ⟨m', hm, w'⟩ := hNx H' nx
        have pinned : ∀ b ∈ fp, ∀ o, s7.heap.get? b = some o → s'.heap.get? b = some o ∧ H' b = none := fun b hb o e =>
          let z := I'.pin (b, o) (List.mem_append_right _ (List.mem_append_right _ (mem_pinsAt hb e)))
          ⟨z.1, z.2.1⟩
        refine ⟨m', hm, i + 1, H', (I'.unpinned (pins := [])).weak (by rw [← hw8, wipe_length]) (fun j v e => ?_), T.keep _ _ _ st7 fun b hb o e => (pinned b hb o e).1, fun b hb => ?_, w'⟩
        · rw [← hw8] at e
          exact (wipe_some e).1
        · obtain ⟨o, e, _⟩ := T.obj _ _ st7 b hb
          exact (pinned b hb o e).2
      cases b with
      | false =>
        simp only [Bool.false_eq_true, if_false] at q9 ⊢
        exact fin I9 q9
      | true =>
        simp only [if_true] at q9 ⊢
        refine wpAny_mono (pe'.run _ s9 σ8 H9 _ (inv_xe I9) q9) (fun z s10 ⟨yv, H10, I10, r10, acc, hD10, hz10, nx⟩ => ?_) fun _ _ z => z
        have I10 := inv_un okB I10
        exact app_ok (X := X.blk s3 H3 scope ce fp) I10 hD10 hz10 r10 fun s11 I11 => fin I11 nx
  exact codeAny_compStart_list loop (T.self X.A 0 _ _ _ st4 loop)
end
end Pl
/-! the same over data -/
namespace Pl
open PySem PySem.Spec PyProof.Rows L2
variable {c : Cn} {E : WX} {np : Nat} {W : Fm} {F H : Hp} {σ : L2.St} {ρ : Env}
def addR (acc : List D) : Rs (List D) → Rs (List D)
  | .ok ds ρ => .ok (acc ++ ds) ρ
  | .ex e ρ => .ex e ρ
  | .bad => .bad
def lcX (gd : D → Env → Option Env) (tt : M Bool) (te : M D) (vs : List Nat) : List D → Env → Rs (List D)
  | [], ρ => .ok [] ρ
  | x :: xs, ρ => match gd x (wipeE ρ vs) with
    | none => .bad
    | some ρ1 => match tt ρ1 with
      | .ok false ρ2 => lcX gd tt te vs xs ρ2
      | .ok true ρ2 => match te ρ2 with
        | .ok d ρ3 => addR [d] (lcX gd tt te vs xs ρ3)
        | .ex e ρ3 => .ex e ρ3
        | .bad => .bad
      | _ => .bad
def lcXe (r : Rs (List D)) (ρ : Env) (vs : List Nat) : Rs (List D) := match r with
  | .ok ds ρ' => .ok ds (restE ρ ρ' vs)
  | .ex e ρ' => .ex e (restE ρ ρ' vs)
  | .bad => .bad
def eLcX (it : M (List D)) (gd : D → Env → Option Env) (tt : M Bool) (te : M D) (vs : List Nat) : M (List D) := it.bind fun xs ρ =>
  if calmE ρ vs = true then (if xs.length ≤ 100000 then lcXe (lcX gd tt te vs xs ρ) ρ vs else .bad) else .bad
theorem addR_nil (r : Rs (List D)) : addR [] r = r := by cases r <;> rfl
theorem addR_add (a b : List D) (r : Rs (List D)) : addR a (addR b r) = addR (a ++ b) r := by
  cases r with
  | ok ds ρ => show Rs.ok (a ++ (b ++ ds)) ρ = Rs.ok (a ++ b ++ ds) ρ; rw [List.append_assoc]
  | _ => rfl
theorem ef_lcX {wi : TI} {fi : M (List D)} {g : TG} {is vs : List Nat} {gd : D → Env → Option Env} {tt : TT} {ft : M Bool} {te : WX → TE} {fe : M D} (hi : Ix c E wi fi) (hg : Gx c g is gd) (hv : ∀ j ∈ is, j ∈ vs) (ht : Tx c E0w tt ft) (he : ∀ σ : L2.St, Ex c (fun cls d _ H' => E cls d σ H') (te fun cls d _ H' => E cls d σ H') fe) :
    Ef c E (tLcE E wi g tt te vs) (eLcX fi gd ft fe vs) := by
  intro W F H σ ρ Q R h
  refine hi W F H σ ρ _ R ((h.bind (fun F' ds J => WalkD c.K J F' ds)).mono fun J H1 ⟨ds, ρ1, F1, R1, s1, w, q⟩ => ?_)
  obtain ⟨hc, hz, q⟩ : calmE ρ1 vs = true ∧ ds.length ≤ 100000 ∧ PostF c W F1 σ E (lcXe (lcX gd ft fe vs ds ρ1) ρ1 vs) Q := by
    split at q
    · have q : PostF c W F1 σ E (if ds.length ≤ 100000 then lcXe (lcX gd ft fe vs ds ρ1) ρ1 vs else .bad) Q := q
      split at q
      · exact ⟨by assumption, by assumption, q⟩
      · exact q.elim
    · exact q.elim
  generalize hr0 : lcX gd ft fe vs ds ρ1 = R0 at q
  intro D hD
  have h0 : W.H0 D = none := R1.st D (bl_none hD)
  have hB : W.B D := R1.wb D h0
  have hF0 : W.F0 D = none := by
    cases e : W.F0 D with
    | none => rfl
    | some o =>
      have := R1.sub D o (R1.f0 D o e)
      rw [hD] at this
      cases this
  have nt : ∀ (vs : List V) ps, HO.lst vs ≠ .tbl ps := fun _ _ z => by cases z
  have nx : ∀ (vs : List V) φ, HO.lst vs ≠ .ext φ := fun _ _ z => by cases z
  have notBad : R0 ≠ .bad := fun e => by rw [e] at q; exact q
  let In : Nat → Hp → Prop := fun i H2 => ∃ F2 ρ2 acc us, Rel c W F2 H2 (wipe σ vs) (wipeE ρ2 vs) ∧ Same F1 F2 ∧ i ≤ ds.length ∧ acc.length ≤ i ∧ H2 D = some (.lst us) ∧ RepL c.K F2 acc us ∧ F2 D = none ∧
    (∀ (j : Nat) (t : Slot), (wipeE ρ2 vs)[j]? = some t → t.own = true → (wipe σ vs)[j]? ≠ some (some (.ref D))) ∧ addR acc (lcX gd ft fe vs (ds.drop i) ρ2) = R0
  refine ⟨fun i m H2 => m = ds.length - i ∧ In i H2, ⟨_, rfl, F1, ρ1, [], [], (R1.lay hD RepL.nil).1.wiped vs, Same.refl _, Nat.zero_le _, Nat.le_refl _, upd_same, rfl, R1.sub.free hD, nobody_wiped (R1.nobody hD), by rw [addR_nil]; exact hr0⟩, ?_⟩
  rintro i m H2 ⟨rfl, F2, ρ2, acc, us, R2, s2, hle, hal, eD, ra, fD, no, hr⟩
  by_cases hlt : i < ds.length
  · refine .inr ⟨w.go i H2 (s2.trans R2.sub) hlt, In (i + 1), fun H' h' => ⟨_, by omega, rfl, h'⟩, fun x H3 y => ?_⟩
    have R2' := R2.ward eD (fun _ z => by cases z) fD h0 no
    obtain ⟨d, F3, e, gr, r⟩ := w.turn s2 R2' hlt y
    have ed : ds.drop i = d :: ds.drop (i + 1) := by
      rw [List.getElem?_eq_getElem hlt] at e
      rw [List.drop_eq_getElem_cons hlt, Option.some.inj e]
    rw [ed] at hr
    unfold lcX at hr
    have R3 := R2'.grow gr
    cases e4 : gd d (wipeE ρ2 vs) with
    | none => rw [e4] at hr; exact absurd hr.symm notBad
    | some ρ3 =>
      rw [e4] at hr
      refine hg _ F3 H3 (wipe σ vs) (wipeE ρ2 vs) d x ρ3 _ R3 r e4 fun F4 H4 σ4 R4 s4 l4 k4 => ?_
      have ew : wipe σ4 vs = wipe σ vs := wipe_ext (by rw [l4, wipe_length]) fun j hj => by rw [k4 j fun z => hj (hv j z), wipe_get hj]
      refine ⟨ew, ht _ F4 H4 σ4 ρ3 _ R4 ?_⟩
      have hr : addR acc (match ft ρ3 with
        | .ok false ρ2 => lcX gd ft fe vs (ds.drop (i + 1)) ρ2
        | .ok true ρ2 => match fe ρ2 with
          | .ok d ρ3 => addR [d] (lcX gd ft fe vs (ds.drop (i + 1)) ρ3)
          | .ex e ρ3 => .ex e ρ3
          | .bad => .bad
        | _ => .bad) = R0 := hr
      revert hr
      cases ft ρ3 with
      | ex e ρ5 => exact fun hr => absurd hr.symm notBad
      | bad => exact fun hr => absurd hr.symm notBad
      | ok k ρ5 =>
        cases k with
        | false =>
          intro hr F5 H5 b R5 s5 eb
          subst eb
          rw [if_neg Bool.false_ne_true]
          obtain ⟨R6, e6, f6, n6⟩ := R5.unward (nt us) (fun _ z => by cases z) h0 hF0 hB
          have R7 := R6.wiped vs
          rw [ew] at R7
          have n7 := nobody_wiped (vs := vs) n6
          rw [ew] at n7
          exact ⟨F5, ρ5, acc, us, R7, ((s2.trans gr.fs).trans s4).trans s5, hlt, Nat.le_succ_of_le hal, e6, ((ra.mono gr.fs).mono s4).mono s5, f6, n7, hr⟩
        | true =>
          intro hr F5 H5 b R5 s5 eb
          subst eb
          rw [if_pos rfl]
          refine he σ _ F5 H5 σ4 ρ5 _ R5 ?_
          have hr : addR acc (match fe ρ5 with
            | .ok d ρ3 => addR [d] (lcX gd ft fe vs (ds.drop (i + 1)) ρ3)
            | .ex e ρ3 => .ex e ρ3
            | .bad => .bad) = R0 := hr
          revert hr
          cases fe ρ5 with
          | bad => exact fun hr => absurd hr.symm notBad
          | ex e ρ6 =>
            intro hr F6 H6 cls od R6 s6 xr
            have hr : R0 = .ex e ρ6 := hr.symm
            rw [hr] at q
            obtain ⟨R7, e7, f7, n7⟩ := R6.unward (nt us) (fun _ z => by cases z) h0 hF0 hB
            have R8 := R7.wiped vs
            rw [ew] at R8
            have sa := (((s2.trans gr.fs).trans s4).trans s5).trans s6
            exact q F6 H6 cls od (R1.back hc sa R8) sa xr
          | ok z ρ6 =>
            intro hr F6 H6 v R6 s6 rv
            have hr : addR acc (addR [z] (lcX gd ft fe vs (ds.drop (i + 1)) ρ6)) = R0 := hr
            rw [addR_add] at hr
            obtain ⟨R7, e7, f7, n7⟩ := R6.unward (nt us) (fun _ z => by cases z) h0 hF0 hB
            have R8 := R7.wiped vs
            rw [ew] at R8
            have n8 := nobody_wiped (vs := vs) n7
            rw [ew] at n8
            have ra' : RepL c.K F6 acc us := (((ra.mono gr.fs).mono s4).mono s5).mono s6
            refine ⟨us, e7, ?_, F6, ρ6, acc ++ [z], us ++ [v], R8.write e7 (nt us) (nx us) (nt _) f7 hB (fun j t q ot a => absurd a (n8 j t q ot)), (((s2.trans gr.fs).trans s4).trans s5).trans s6, hlt, by rw [List.length_append, List.length_singleton]; omega, upd_same, ra'.app (.cons rv .nil), f7, n8, hr⟩
            rw [← ra'.len]
            exact Nat.lt_of_lt_of_le (by omega) h100
  · have e : i = ds.length := by omega
    subst e
    rw [List.drop_length] at hr
    refine .inl ⟨w.stop _ H2 (s2.trans R2.sub) (Nat.le_refl _), ?_⟩
    have hr : R0 = .ok acc ρ2 := by rw [← hr]; show Rs.ok (acc ++ []) ρ2 = _; rw [List.append_nil]
    rw [hr] at q
    refine q F2 H2 D (R1.back hc s2 R2) s2 ⟨⟨us, eD, ra, fD⟩, h0, fun j t e o => ?_⟩
    obtain ⟨q1, w1⟩ := rest_own (σ := σ) hc e o
    rw [← w1]
    exact no j t q1 o
end Pl
/-! Mirrors run by simp: what each piece does to an environment, as equations that leave no binder behind. -/
namespace Pl
open PySem PySem.Spec PyProof.Rows L2
variable {α β : Type}
/-! ### what stands behind a result -/
def kBind (r : Rs α) (f : α → M β) : Rs β := match r with
  | .ok a ρ => f a ρ
  | .ex e ρ => .ex e ρ
  | .bad => .bad
def kLift (o : Option α) (ρ : Env) : Rs α := match o with
  | some a => .ok a ρ
  | none => .bad
def kVar (s : Option Slot) (ρ : Env) : Rs D := match s with
  | some (.d x) => .ok x ρ
  | _ => .bad
def kOp1 (r : Rs D) (b : M D) (g : D → D → Option β) : Rs β := match r with
  | .ok x ρ => match b ρ with
    | .ok y ρ2 => kLift (g x y) ρ2
    | .ex e ρ2 => .ex e ρ2
    | .bad => .bad
  | .ex e ρ => .ex e ρ
  | .bad => .bad
def kOp2 (x : D) (r : Rs D) (g : D → D → Option β) : Rs β := match r with
  | .ok y ρ => kLift (g x y) ρ
  | .ex e ρ => .ex e ρ
  | .bad => .bad
def kUn (r : Rs α) (g : α → Option β) : Rs β := match r with
  | .ok x ρ => kLift (g x) ρ
  | .ex e ρ => .ex e ρ
  | .bad => .bad
def kIf (r : Rs Bool) (a b : M β) : Rs β := match r with
  | .ok k ρ => if k = true then a ρ else b ρ
  | .ex e ρ => .ex e ρ
  | .bad => .bad
def kIfD (r : Rs D) (a b : M β) : Rs β := match r with
  | .ok (.bl k) ρ => if k = true then a ρ else b ρ
  | .ok _ _ => .bad
  | .ex e ρ => .ex e ρ
  | .bad => .bad
def kCons1 (r : Rs α) (b : M (List β)) (c : α → β) : Rs (List β) := match r with
  | .ok x ρ => match b ρ with
    | .ok xs ρ2 => .ok (c x :: xs) ρ2
    | .ex e ρ2 => .ex e ρ2
    | .bad => .bad
  | .ex e ρ => .ex e ρ
  | .bad => .bad
def kCons2 (x : β) (r : Rs (List β)) : Rs (List β) := match r with
  | .ok xs ρ2 => .ok (x :: xs) ρ2
  | .ex e ρ2 => .ex e ρ2
  | .bad => .bad
def kMap (r : Rs α) (f : α → β) : Rs β := match r with
  | .ok x ρ => .ok (f x) ρ
  | .ex e ρ => .ex e ρ
  | .bad => .bad
def kSeq (r : Rs Ct) (t : S) : Rs Ct := match r with
  | .ok .nx ρ => t ρ
  | .ok k ρ => .ok k ρ
  | .ex e ρ => .ex e ρ
  | .bad => .bad
def kSt (o : Option Env) : Rs Ct := match o with
  | some ρ => .ok .nx ρ
  | none => .bad
def kAsg (r : Rs D) (gd : D → Env → Option Env) : Rs Ct := match r with
  | .ok d ρ => kSt (gd d ρ)
  | .ex e ρ => .ex e ρ
  | .bad => .bad
def kNew (r : Rs (List D)) (i : Nat) : Rs Ct := match r with
  | .ok ds ρ => .ok .nx (ρ.set i (.o ds))
  | .ex e ρ => .ex e ρ
  | .bad => .bad
def kFor (r : Rs (List D)) (gd : D → Env → Option Env) (body : S) : Rs Ct := match r with
  | .ok xs ρ => forL gd body xs ρ
  | .ex e ρ => .ex e ρ
  | .bad => .bad
def kTurn (o : Option Env) (body : S) (k : S) : Rs Ct := match o with
  | some ρ => again (body ρ) k
  | none => .bad
def kDo (o : Option Env) (g : List D → Env → Option Env) (ds : List D) : Option Env := match o with
  | some ρ => g ds ρ
  | none => none
def kApp (s : Option Slot) (i : Nat) (r : M D) (ρ0 : Env) : Rs Ct := match s with
  | some (.o _) => match r ρ0 with
    | .ok d ρ => match ρ[i]? with
      | some (.o ds) => if ds.length < 100000 then .ok .nx (ρ.set i (.o (ds ++ [d]))) else .bad
      | _ => .bad
    | .ex e ρ => .ex e ρ
    | .bad => .bad
  | _ => .bad
def kApp2 (r : Rs D) (i : Nat) : Rs Ct := match r with
  | .ok d ρ => match ρ[i]? with
    | some (.o ds) => if ds.length < 100000 then .ok .nx (ρ.set i (.o (ds ++ [d]))) else .bad
    | _ => .bad
  | .ex e ρ => .ex e ρ
  | .bad => .bad
def kApp3 (s : Option Slot) (i : Nat) (d : D) (ρ : Env) : Rs Ct := match s with
  | some (.o ds) => if ds.length < 100000 then .ok .nx (ρ.set i (.o (ds ++ [d]))) else .bad
  | _ => .bad
def kIxO2 (r : Rs D) (i : Nat) : Rs D := match r with
  | .ok e ρ => match ρ[i]? with
    | some (.o ds) => kLift (atO ds e) ρ
    | _ => .bad
  | .ex e ρ => .ex e ρ
  | .bad => .bad
def kIxO (s : Option Slot) (i : Nat) (b : M D) (ρ0 : Env) : Rs D := match s with
  | some t => if t.own = true then kIxO2 (b ρ0) i else .bad
  | _ => .bad
def kIxO3 (s : Option Slot) (e : D) (ρ : Env) : Rs D := match s with
  | some (.o ds) => kLift (atO ds e) ρ
  | _ => .bad
def kFz (s : Option Slot) (i : Nat) (g : S) (ρ : Env) : Rs Ct := match s with
  | some (.o ds) => g (ρ.set i (.d (.lst ds)))
  | some (.q kvs) => g (ρ.set i (.d (.dct (kvs.map (·.1)) (kvs.map (·.2)))))
  | _ => .bad
def kCall3 (r : Rs An) (as : List Arg) (ρ : Env) : Rs D := match r with
  | .ok (.v d) outs => .ok d (putBack ρ as outs)
  | .ok (.n ds) outs => .ok (.lst ds) (putBack ρ as outs)
  | .ex e outs => .ex e (putBack ρ as outs)
  | .bad => .bad
def kCall2 (ps : Option (List Slot)) (as : List Arg) (ρ : Env) (m : FnM) : Rs D := match ps with
  | none => .bad
  | some ps => if free2 (ownIx as) = true then kCall3 (m ps) as ρ else .bad
def kCall (r : Rs (List Arg)) (m : FnM) : Rs D := match r with
  | .ok as ρ => kCall2 (slotsOf ρ as) as ρ m
  | .ex e ρ => .ex e ρ
  | .bad => .bad
def kCallN3 (r : Rs An) (as : List Arg) (ρ : Env) : Rs (List D) := match r with
  | .ok (.n ds) outs => .ok ds (putBack ρ as outs)
  | .ok (.v _) _ => .bad
  | .ex e outs => .ex e (putBack ρ as outs)
  | .bad => .bad
def kCallN2 (ps : Option (List Slot)) (as : List Arg) (ρ : Env) (m : FnM) : Rs (List D) := match ps with
  | none => .bad
  | some ps => if free2 (ownIx as) = true then kCallN3 (m ps) as ρ else .bad
def kCallN (r : Rs (List Arg)) (m : FnM) : Rs (List D) := match r with
  | .ok as ρ => kCallN2 (slotsOf ρ as) as ρ m
  | .ex e ρ => .ex e ρ
  | .bad => .bad
def kArgO (s : Option Slot) (i : Nat) (r : M (List Arg)) (ρ : Env) : Rs (List Arg) := match s with
  | some t => if t.own = true then kMap (r ρ) (fun xs => .o i :: xs) else .bad
  | none => .bad
def kPar (r : Rs (List D)) (i j : Nat) : Rs Ct := match r with
  | .ok [d, e] ρ => .ok .nx ((ρ.set i (.d d)).set j (.d e))
  | .ok _ _ => .bad
  | .ex e ρ => .ex e ρ
  | .bad => .bad
def kParN1 (r : Rs D) (fb : M (List D)) (i j : Nat) : Rs Ct := match r with
  | .ok d ρ => match fb ρ with
    | .ok ds ρ2 => .ok .nx ((ρ2.set i (.d d)).set j (.o ds))
    | .ex e ρ => .ex e ρ
    | .bad => .bad
  | .ex e ρ => .ex e ρ
  | .bad => .bad
def kParN2 (d : D) (r : Rs (List D)) (i j : Nat) : Rs Ct := match r with
  | .ok ds ρ2 => .ok .nx ((ρ2.set i (.d d)).set j (.o ds))
  | .ex e ρ => .ex e ρ
  | .bad => .bad
def kRun (n : Nat) (ps : List Slot) (r : Rs Ct) : Rs An := match r with
  | .ok .nx ρ => if keepOk ps ρ = true then .ok (.v .non) (ρ.take n) else .bad
  | .ok (.rt d) ρ => if keepOk ps ρ = true then .ok (.v d) (ρ.take n) else .bad
  | .ok (.rn ds) ρ => if keepOk ps ρ = true then .ok (.n ds) (ρ.take n) else .bad
  | .ex e ρ => if keepOk ps ρ = true then .ex e (ρ.take n) else .bad
  | _ => .bad
def kSl1 (r : Rs D) (lo hi : M (Option Int)) : Rs D := match r with
  | .ok d ρ => match lo ρ with
    | .ok l ρ1 => match hi ρ1 with
      | .ok h ρ2 => kLift (slD d l h) ρ2
      | .ex e ρ => .ex e ρ
      | .bad => .bad
    | .ex e ρ => .ex e ρ
    | .bad => .bad
  | .ex e ρ => .ex e ρ
  | .bad => .bad
def kSl2 (d : D) (r : Rs (Option Int)) (hi : M (Option Int)) : Rs D := match r with
    | .ok l ρ1 => match hi ρ1 with
      | .ok h ρ2 => kLift (slD d l h) ρ2
      | .ex e ρ => .ex e ρ
      | .bad => .bad
    | .ex e ρ => .ex e ρ
    | .bad => .bad
def kSl3 (d : D) (l : Option Int) (r : Rs (Option Int)) : Rs D := match r with
      | .ok h ρ2 => kLift (slD d l h) ρ2
      | .ex e ρ => .ex e ρ
      | .bad => .bad
def kCh1 (r : Rs D) (g g' : D → D → Option D) (b d : M D) : Rs D := match r with
  | .ok x ρ => match b ρ with
    | .ok y ρ1 => match g x y with
      | some (.bl k) => if k = true then kOp2 y (d ρ1) g' else .ok (.bl false) ρ1
      | _ => .bad
    | .ex e ρ => .ex e ρ
    | .bad => .bad
  | .ex e ρ => .ex e ρ
  | .bad => .bad
def kCh2 (x : D) (r : Rs D) (g g' : D → D → Option D) (d : M D) : Rs D := match r with
    | .ok y ρ1 => match g x y with
      | some (.bl k) => if k = true then kOp2 y (d ρ1) g' else .ok (.bl false) ρ1
      | _ => .bad
    | .ex e ρ => .ex e ρ
    | .bad => .bad
def kCh3 (o : Option D) (y : D) (g' : D → D → Option D) (d : M D) (ρ1 : Env) : Rs D := match o with
      | some (.bl k) => if k = true then kOp2 y (d ρ1) g' else .ok (.bl false) ρ1
      | _ => .bad
def kBm1 (r : Rs D) (as : M (List D)) (g : Str → List D → Option D) : Rs D := match r with
  | .ok (.str a) ρ => kUn (as ρ) (g a)
  | .ok _ _ => .bad
  | .ex e ρ => .ex e ρ
  | .bad => .bad
def kIB (r : Rs D) (as : M (List D)) : Rs D := match r with
  | .ok (.lst ds) ρ => kUn (as ρ) (indexBD ds)
  | .ok _ _ => .bad
  | .ex e ρ => .ex e ρ
  | .bad => .bad
def kLam (r : Rs An) (ρ : Env) : Rs D := match r with
  | .ok (.v d) _ => .ok d ρ
  | _ => .bad
def few (xs : List D) : Option (List D) := if xs.length ≤ 100000 then some xs else none
def kLcE (r : Rs (List D)) (ρ : Env) (vs : List Nat) : Rs (List D) := match r with
    | .ok ds ρ' => if ds.length ≤ 100000 then .ok ds (restE ρ ρ' vs) else .bad
    | _ => .bad
def kLc (r : Rs (List D)) (gd : D → Env → Option Env) (tt : M Bool) (te : M D) (vs : List Nat) : Rs (List D) := match r with
  | .ok xs ρ => if calmE ρ vs = true then kLcE (lcL gd tt te vs xs ρ) ρ vs else .bad
  | .ex e ρ => .ex e ρ
  | .bad => .bad
def kLc4 (d : D) (r : Rs (List D)) : Rs (List D) := match r with
  | .ok ds ρ4 => .ok (d :: ds) ρ4
  | _ => .bad
def kLc3 (r : Rs D) (k : Env → Rs (List D)) : Rs (List D) := match r with
  | .ok d ρ3 => kLc4 d (k ρ3)
  | _ => .bad
def kLc2 (r : Rs Bool) (te : M D) (k : Env → Rs (List D)) : Rs (List D) := match r with
  | .ok b ρ2 => if b = true then kLc3 (te ρ2) k else k ρ2
  | _ => .bad
def kLc1 (o : Option Env) (tt : M Bool) (te : M D) (k : Env → Rs (List D)) : Rs (List D) := match o with
  | none => .bad
  | some ρ1 => kLc2 (tt ρ1) te k
def kSetO5 (o : Option Nat) (ds : List D) (d : D) (i : Nat) (ρ2 : Env) : Rs Ct := match o with
  | some j => .ok .nx (ρ2.set i (.o (ds.set j d)))
  | none => .bad
def kSetO4 (s : Option Slot) (k d : D) (i : Nat) (ρ2 : Env) : Rs Ct := match s, k with
  | some (.o ds), .int k => kSetO5 (ixN ds.length k) ds d i ρ2
  | _, _ => .bad
def kSetO3 (r : Rs D) (d : D) (i : Nat) : Rs Ct := match r with
  | .ok k ρ2 => kSetO4 ρ2[i]? k d i ρ2
  | .ex e ρ => .ex e ρ
  | .bad => .bad
def kSetO2 (s : Option Slot) (d : D) (i : Nat) (fk : M D) (ρ : Env) : Rs Ct := match s with
  | some t => if t.own = true then kSetO3 (fk ρ) d i else .bad
  | none => .bad
def kSetO1 (r : Rs D) (i : Nat) (fk : M D) : Rs Ct := match r with
  | .ok d ρ => kSetO2 ρ[i]? d i fk ρ
  | .ex e ρ => .ex e ρ
  | .bad => .bad
theorem bind_k {m : M α} {f : α → M β} {ρ : Env} : M.bind m f ρ = kBind (m ρ) f := rfl
section
variable {ρ ρ' : Env} {i j n : Nat} {d e x y z : D} {ds es xs : List D} {a b t : M D} {as bs : M (List D)} {g g' : D → D → Option D} {u : D → Option D} {s s' : S} {gd : D → Env → Option Env} {gs : List D → Env → Option Env} {c cc : M Bool} {k : Bool} {E : Exn}
/-- THE RULES -/
theorem ev : (∀ (x : D) ρ, eCon x ρ = .ok x ρ) ∧ (∀ i ρ, eVar i ρ = kVar ρ[i]? ρ) ∧ (∀ x ρ, kVar (some (.d x)) ρ = .ok x ρ) ∧ (∀ {α : Type} (o : α) ρ, kLift (some o) ρ = .ok o ρ) ∧ (∀ {α : Type} ρ, kLift (none : Option α) ρ = .bad) ∧ (∀ {α : Type} (o : Option α) ρ, M.lift o ρ = kLift o ρ) ∧ (∀ {α : Type} (o : α) ρ, M.pure o ρ = .ok o ρ) ∧ (∀ {α β : Type} (m : M α) (f : α → M β) ρ, M.bind m f ρ = kBind (m ρ) f) ∧ (∀ {α β : Type} (o : α) (f : α → M β) ρ, kBind (.ok o ρ) f = f o ρ) ∧ (∀ {α β : Type} E (f : α → M β) ρ, kBind (.ex E ρ) f = .ex E ρ) ∧ (∀ {α β : Type} (f : α → M β), kBind .bad f = .bad) := by
  refine ⟨by intros; rfl, by intros; rfl, by intros; rfl, by intros; rfl, by intros; rfl, fun {_} o _ => ?_, by intros; rfl, by intros; rfl, by intros; rfl, by intros; rfl, by intros; rfl⟩
  cases o <;> rfl
theorem evo : (∀ g a b ρ, eOp g a b ρ = kOp1 (a ρ) b g) ∧ (∀ {β : Type} x ρ b (g : D → D → Option β), kOp1 (.ok x ρ) b g = kOp2 x (b ρ) g) ∧ (∀ {β : Type} E ρ b (g : D → D → Option β), kOp1 (.ex E ρ) b g = .ex E ρ) ∧ (∀ {β : Type} x y ρ (g : D → D → Option β), kOp2 x (.ok y ρ) g = kLift (g x y) ρ) ∧ (∀ {β : Type} x E ρ (g : D → D → Option β), kOp2 x (.ex E ρ) g = .ex E ρ) ∧ (∀ g a b ρ, eOpN g a b ρ = kOp1 (a ρ) b g) ∧ (∀ u a ρ, eUn u a ρ = kUn (a ρ) u) ∧ (∀ {α β : Type} (x : α) ρ (u : α → Option β), kUn (.ok x ρ) u = kLift (u x) ρ) ∧ (∀ {α β : Type} E ρ (u : α → Option β), kUn (.ex E ρ) u = .ex E ρ) ∧ (∀ u a ρ, tTru u a ρ = kUn (a ρ) u) ∧ (∀ k, isBl (.bl k) = some k) ∧ (∀ u as ρ, eCall u as ρ = kUn (as ρ) u) ∧ (∀ u as ρ, eN u as ρ = kUn (as ρ) u) ∧ (∀ u as ρ, itBs u as ρ = kUn (as ρ) u) ∧ (∀ u a ρ, itBy u a ρ = kUn (a ρ) u) ∧ (∀ as ρ, eTup as ρ = kUn (as ρ) fun xs => if xs.length ≤ 100000 then some (.tup xs) else none) ∧ (∀ as ρ, eLst as ρ = kUn (as ρ) fun xs => if xs.length ≤ 100000 then some (.lst xs) else none) ∧ (∀ as ρ, eNew as ρ = kUn (as ρ) few) ∧ (∀ as ρ, eFr as ρ = kMap (as ρ) .lst) ∧ (∀ {α β : Type} (x : α) ρ (f : α → β), kMap (.ok x ρ) f = .ok (f x) ρ) ∧ (∀ {α β : Type} E ρ (f : α → β), kMap (.ex E ρ) f = .ex E ρ) := by
  refine ⟨fun g a b ρ => ?_, by intros; rfl, by intros; rfl, by intros; rfl, by intros; rfl, fun g a b ρ => ?_, fun u a ρ => ?_, by intros; rfl, by intros; rfl, fun u a ρ => ?_, by intros; rfl, fun u a ρ => ?_, fun u a ρ => ?_, fun u a ρ => ?_, fun u a ρ => ?_, fun a ρ => ?_, fun a ρ => ?_, fun a ρ => ?_, fun a ρ => ?_, by intros; rfl, by intros; rfl⟩
  · unfold eOp M.bind kOp1
    cases a ρ with
    | ok x ρ => dsimp only <;> cases b ρ <;> try rfl
                dsimp only; rename_i y ρ2; cases g x y <;> rfl
    | _ => rfl
  · unfold eOpN M.bind kOp1
    cases a ρ with
    | ok x ρ => dsimp only <;> cases b ρ <;> try rfl
                dsimp only; rename_i y ρ2; cases g x y <;> rfl
    | _ => rfl
  · unfold eUn M.bind kUn; cases a ρ with
    | ok x ρ => dsimp only <;> cases u x <;> rfl
    | _ => rfl
  · unfold tTru M.bind kUn; cases a ρ with
    | ok x ρ => dsimp only <;> cases u x <;> rfl
    | _ => rfl
  · unfold eCall M.bind kUn; cases a ρ with
    | ok x ρ => dsimp only <;> cases u x <;> rfl
    | _ => rfl
  · unfold eN M.bind kUn; cases a ρ with
    | ok x ρ => dsimp only <;> cases u x <;> rfl
    | _ => rfl
  · unfold itBs M.bind kUn; cases a ρ with
    | ok x ρ => dsimp only <;> cases u x <;> rfl
    | _ => rfl
  · unfold itBy M.bind kUn; cases a ρ with
    | ok x ρ => dsimp only <;> cases u x <;> rfl
    | _ => rfl
  · unfold eTup M.bind kUn; cases a ρ with
    | ok x ρ => dsimp only; split <;> rfl
    | _ => rfl
  · unfold eLst M.bind kUn; cases a ρ with
    | ok x ρ => dsimp only; split <;> rfl
    | _ => rfl
  · unfold eNew M.bind kUn few; cases a ρ with
    | ok x ρ => dsimp only; split <;> rfl
    | _ => rfl
  · unfold eFr M.bind kMap; cases a ρ <;> rfl
theorem evb : (∀ c a b ρ, eIf c a b ρ = kIf (c ρ) a b) ∧ (∀ {β : Type} k ρ (a b : M β), kIf (.ok k ρ) a b = if k = true then a ρ else b ρ) ∧ (∀ {β : Type} E ρ (a b : M β), kIf (.ex E ρ) a b = .ex E ρ) ∧ (∀ c s s' ρ, sIf c s s' ρ = kIf (c ρ) s s') ∧ (∀ c cc ρ, tAndB c cc ρ = kIf (c ρ) cc (M.pure false)) ∧ (∀ c cc ρ, tOrB c cc ρ = kIf (c ρ) (M.pure true) cc) ∧ (∀ c ρ, tNotB c ρ = kMap (c ρ) (!·)) ∧ (∀ a b ρ, eAnd a b ρ = kIfD (a ρ) b (M.pure (.bl false))) ∧ (∀ a b ρ, eOr a b ρ = kIfD (a ρ) (M.pure (.bl true)) b) ∧ (∀ {β : Type} k ρ (a b : M β), kIfD (.ok (.bl k) ρ) a b = if k = true then a ρ else b ρ) ∧ (∀ {β : Type} E ρ (a b : M β), kIfD (.ex E ρ) a b = .ex E ρ) ∧ (∀ a ρ, eNot a ρ = kIfD (a ρ) (M.pure (.bl false)) (M.pure (.bl true))) ∧ (∀ g g' a b d ρ, eChain g g' a b d ρ = kCh1 (a ρ) g g' b d) ∧ (∀ x ρ g g' b d, kCh1 (.ok x ρ) g g' b d = kCh2 x (b ρ) g g' d) ∧ (∀ x y ρ g g' d, kCh2 x (.ok y ρ) g g' d = kCh3 (g x y) y g' d ρ) ∧ (∀ k y g' d ρ, kCh3 (some (.bl k)) y g' d ρ = if k = true then kOp2 y (d ρ) g' else .ok (.bl false) ρ) := by
  refine ⟨fun c a b ρ => ?_, by intros; rfl, by intros; rfl, fun c a b ρ => ?_, fun c a ρ => ?_, fun c a ρ => ?_, fun c ρ => ?_, fun a b ρ => ?_, fun a b ρ => ?_, by intros; rfl, by intros; rfl, fun a ρ => ?_, fun g g' a b d ρ => ?_, by intros; rfl, by intros; rfl, by intros; rfl⟩
  · unfold eIf M.bind kIf; cases c ρ with
    | ok k ρ => cases k <;> rfl
    | _ => rfl
  · unfold sIf M.bind kIf; cases c ρ with
    | ok k ρ => cases k <;> rfl
    | _ => rfl
  · unfold tAndB M.bind kIf; cases c ρ with
    | ok k ρ => cases k <;> rfl
    | _ => rfl
  · unfold tOrB M.bind kIf; cases c ρ with
    | ok k ρ => cases k <;> rfl
    | _ => rfl
  · unfold tNotB M.bind kMap; cases c ρ <;> rfl
  · unfold eAnd M.bind kIfD; cases a ρ with
    | ok x ρ => cases x with
      | bl k => cases k <;> rfl
      | _ => rfl
    | _ => rfl
  · unfold eOr M.bind kIfD; cases a ρ with
    | ok x ρ => cases x with
      | bl k => cases k <;> rfl
      | _ => rfl
    | _ => rfl
  · unfold eNot M.bind kIfD; cases a ρ with
    | ok x ρ => cases x with
      | bl k => cases k <;> rfl
      | _ => rfl
    | _ => rfl
  · unfold eChain M.bind kCh1; cases a ρ with
    | ok x ρ =>
      dsimp only
      all_goals cases b ρ with
      | ok y ρ1 =>
        dsimp only
        all_goals cases g x y with
        | none => rfl
        | some o => cases o with
          | bl k => cases k with
            | false => rfl
            | true =>
              simp only [M.lift, M.pure, isBl, if_true, kOp2]
              cases d ρ1 with
              | ok w ρ3 => dsimp only <;> cases g' y w <;> rfl
              | _ => rfl
          | _ => rfl
      | _ => rfl
    | _ => rfl
theorem evs : (∀ s t ρ, sSeq s t ρ = kSeq (s ρ) t) ∧ (∀ ρ t, kSeq (.ok .nx ρ) t = t ρ) ∧ (∀ d ρ t, kSeq (.ok (.rt d) ρ) t = .ok (.rt d) ρ) ∧ (∀ d ρ t, kSeq (.ok (.rn d) ρ) t = .ok (.rn d) ρ) ∧ (∀ ρ t, kSeq (.ok .bk ρ) t = .ok .bk ρ) ∧ (∀ ρ t, kSeq (.ok .ct ρ) t = .ok .ct ρ) ∧ (∀ E ρ t, kSeq (.ex E ρ) t = .ex E ρ) ∧
    (∀ gd a ρ, sAsg gd a ρ = kAsg (a ρ) gd) ∧ (∀ d ρ gd, kAsg (.ok d ρ) gd = kSt (gd d ρ)) ∧ (∀ E ρ gd, kAsg (.ex E ρ) gd = .ex E ρ) ∧ (∀ ρ, kSt (some ρ) = .ok .nx ρ) ∧ (∀ i d ρ, nmD i d ρ = some (ρ.set i (.d d))) ∧
    (∀ ρ, sNext ρ = .ok .nx ρ) ∧ (∀ a ρ, sRet a ρ = kMap (a ρ) .rt) ∧ (∀ a ρ, sDrop a ρ = kMap (a ρ) fun _ => .nx) ∧ (∀ as ρ, sRetN as ρ = kMap (as ρ) .rn) ∧ (∀ i as ρ, sNew i as ρ = kNew (as ρ) i) ∧ (∀ ds ρ i, kNew (.ok ds ρ) i = .ok .nx (ρ.set i (.o ds))) ∧
    (∀ x ρ, sRaise x ρ = .ex ⟨x, none⟩ ρ) ∧
    (∀ as gd s ρ, sFor as gd s ρ = kFor (as ρ) gd s) ∧ (∀ ds ρ gd s, kFor (.ok ds ρ) gd s = forL gd s ds ρ) ∧ (∀ gd s ρ, forL gd s [] ρ = .ok .nx ρ) ∧
    (∀ i s ρ, sFz i s ρ = kFz ρ[i]? i s ρ) ∧ (∀ ds i s ρ, kFz (some (.o ds)) i s ρ = s (ρ.set i (.d (.lst ds)))) := by
  refine ⟨fun s t ρ => ?_, fun _ _ => rfl, fun _ _ _ => rfl, fun _ _ _ => rfl, fun _ _ => rfl, fun _ _ => rfl, fun _ _ _ => rfl, fun gd a ρ => ?_, fun _ _ _ => rfl, fun _ _ _ => rfl, fun _ => rfl, fun _ _ _ => rfl, fun _ => rfl, fun a ρ => ?_, fun a ρ => ?_, fun a ρ => ?_, fun i a ρ => ?_, fun _ _ _ => rfl, fun _ _ => rfl, fun as gd s ρ => ?_, fun _ _ _ _ => rfl, fun _ _ _ => rfl, fun i s ρ => ?_, fun _ _ _ _ => rfl⟩
  · unfold sSeq M.bind kSeq; cases s ρ with
    | ok k ρ => cases k <;> rfl
    | _ => rfl
  · unfold sAsg M.bind kAsg kSt; cases a ρ with
    | ok d ρ => dsimp only <;> cases gd d ρ <;> rfl
    | _ => rfl
  · unfold sRet M.bind kMap; cases a ρ <;> rfl
  · unfold sDrop M.bind kMap; cases a ρ <;> rfl
  · unfold sRetN M.bind kMap; cases a ρ <;> rfl
  · unfold sNew M.bind kNew; cases a ρ <;> rfl
  · unfold sFor M.bind kFor; cases as ρ <;> rfl
  · unfold sFz kFz frz; cases ρ[i]? with
    | none => rfl
    | some t => cases t <;> rfl
theorem evt : (∀ n gs ds ρ, tupD n gs (.tup ds) ρ = if ds.length = n then gs ds ρ else none) ∧ (∀ n gs ds ρ, lstD n gs (.lst ds) ρ = if ds.length = n then gs ds ρ else none) ∧ (∀ gd gs d ds ρ, consD gd gs (d :: ds) ρ = kDo (gd d ρ) gs ds) ∧ (∀ ρ gs ds, kDo (some ρ) gs ds = gs ds ρ) ∧ (∀ ρ, nilD [] ρ = some ρ) ∧
    (∀ as i j ρ, sPar i j as ρ = kPar (as ρ) i j) ∧ (∀ d e ρ i j, kPar (.ok [d, e] ρ) i j = .ok .nx ((ρ.set i (.d d)).set j (.d e))) ∧ (∀ i j a as ρ, sParN i j a as ρ = kParN1 (a ρ) as i j) ∧ (∀ d ρ as i j, kParN1 (.ok d ρ) as i j = kParN2 d (as ρ) i j) ∧ (∀ d ds ρ i j, kParN2 d (.ok ds ρ) i j = .ok .nx ((ρ.set i (.d d)).set j (.o ds))) ∧
    (∀ i a ρ, sAppL i a ρ = kApp ρ[i]? i a ρ) ∧ (∀ ds i a ρ, kApp (some (.o ds)) i a ρ = kApp2 (a ρ) i) ∧ (∀ d ρ i, kApp2 (.ok d ρ) i = kApp3 ρ[i]? i d ρ) ∧ (∀ ds i d ρ, kApp3 (some (.o ds)) i d ρ = if ds.length < 100000 then .ok .nx (ρ.set i (.o (ds ++ [d]))) else .bad) ∧
    (∀ i a ρ, eIxO i a ρ = kIxO ρ[i]? i a ρ) ∧ (∀ ds i a ρ, kIxO (some (.o ds)) i a ρ = kIxO2 (a ρ) i) ∧ (∀ d ρ i, kIxO2 (.ok d ρ) i = kIxO3 ρ[i]? d ρ) ∧ (∀ ds d ρ, kIxO3 (some (.o ds)) d ρ = kLift (atO ds d) ρ) := by
  refine ⟨fun _ _ _ _ => rfl, fun _ _ _ _ => rfl, fun gd gs d ds ρ => ?_, fun _ _ _ => rfl, fun _ => rfl, fun as i j ρ => ?_, fun _ _ _ _ _ => rfl, fun i j a as ρ => ?_, fun _ _ _ _ _ => rfl, fun _ _ _ _ _ => rfl, fun i a ρ => ?_, fun _ _ _ _ => rfl, fun d ρ i => ?_, fun _ _ _ _ => rfl, fun i a ρ => ?_, fun _ _ _ _ => rfl, fun d ρ i => ?_, fun _ _ _ => rfl⟩
  · show (gd d ρ).bind (gs ds) = kDo (gd d ρ) gs ds
    cases gd d ρ <;> rfl
  · unfold sPar M.bind kPar; cases as ρ with
    | ok xs ρ => match xs with
      | [] => rfl
      | [_] => rfl
      | [_, _] => rfl
      | _ :: _ :: _ :: _ => rfl
    | _ => rfl
  · unfold sParN M.bind kParN1; cases a ρ with
    | ok d ρ => dsimp only <;> cases as ρ <;> rfl
    | _ => rfl
  · unfold sAppL isLs kApp M.bind; cases h : ρ[i]? with
    | none => rfl
    | some t => cases t with
      | o ds => rw [if_pos rfl]; cases a ρ with
        | ok d ρ1 => dsimp only <;> cases ρ1[i]? <;> rfl
        | _ => rfl
      | _ => rfl
  · show (match ρ[i]? with | some (.o ds) => if ds.length < 100000 then Rs.ok Ct.nx (ρ.set i (.o (ds ++ [d]))) else .bad | _ => .bad) = kApp3 ρ[i]? i d ρ
    unfold kApp3; rfl
  · unfold eIxO isOwn kIxO M.bind
    cases h : ρ[i]? with
    | none => rfl
    | some t =>
      show (if t.own = true then _ else _) = if t.own = true then _ else _
      split
      · unfold kIxO2
        cases a ρ with
        | ok d ρ1 =>
          dsimp only
          all_goals cases ρ1[i]? with
          | none => rfl
          | some t2 => cases t2 with
            | o es => show M.lift (atO es d) ρ1 = kLift (atO es d) ρ1; cases atO es d <;> rfl
            | _ => rfl
        | _ => rfl
      · rfl
  · show (match ρ[i]? with | some (.o ds) => kLift (atO ds d) ρ | _ => .bad) = kIxO3 ρ[i]? d ρ
    unfold kIxO3; rfl
theorem evc : (∀ m (f : M (List Arg)) ρ, callM m f ρ = kCall (f ρ) m) ∧ (∀ as ρ m, kCall (.ok as ρ) m = kCall2 (slotsOf ρ as) as ρ m) ∧ (∀ ps as ρ m, kCall2 (some ps) as ρ m = if free2 (ownIx as) = true then kCall3 (m ps) as ρ else .bad) ∧ (∀ d outs as ρ, kCall3 (.ok (.v d) outs) as ρ = .ok d (putBack ρ as outs)) ∧ (∀ ds outs as ρ, kCall3 (.ok (.n ds) outs) as ρ = .ok (.lst ds) (putBack ρ as outs)) ∧ (∀ E outs as ρ, kCall3 (.ex E outs) as ρ = .ex E (putBack ρ as outs)) ∧ (∀ m (f : M (List Arg)) ρ, callN m f ρ = kCallN (f ρ) m) ∧ (∀ as ρ m, kCallN (.ok as ρ) m = kCallN2 (slotsOf ρ as) as ρ m) ∧ (∀ ps as ρ m, kCallN2 (some ps) as ρ m = if free2 (ownIx as) = true then kCallN3 (m ps) as ρ else .bad) ∧ (∀ ds outs as ρ, kCallN3 (.ok (.n ds) outs) as ρ = .ok ds (putBack ρ as outs)) ∧ (∀ ρ, aNil ρ = .ok [] ρ) ∧ (∀ a as ρ, aCons a as ρ = kCons1 (a ρ) as id) ∧ (∀ {α β : Type} (x : α) ρ (b : M (List β)) c, kCons1 (.ok x ρ) b c = kCons2 (c x) (b ρ)) ∧ (∀ {α β : Type} E ρ (b : M (List β)) (c : α → β), kCons1 (.ex E ρ) b c = .ex E ρ) ∧ (∀ {β : Type} (x : β) xs ρ, kCons2 x (.ok xs ρ) = .ok (x :: xs) ρ) ∧ (∀ {β : Type} (x : β) E ρ, kCons2 x (.ex E ρ) = .ex E ρ) ∧ (∀ ρ, aoNil ρ = .ok [] ρ) ∧ (∀ a (f : M (List Arg)) ρ, aoCons a f ρ = kCons1 (a ρ) f .d) ∧ (∀ i (f : M (List Arg)) ρ, aoOwn i f ρ = kArgO ρ[i]? i f ρ) ∧ (∀ ds i (f : M (List Arg)) ρ, kArgO (some (.o ds)) i f ρ = kMap (f ρ) fun xs => .o i :: xs) ∧ (∀ ρ, slotsOf ρ [] = some []) ∧ (∀ ρ x r, slotsOf ρ (.d x :: r) = (slotsOf ρ r).map (Slot.d x :: ·)) ∧ (∀ ρ i r, slotsOf ρ (.o i :: r) = match ρ[i]? with | some s => if s.own = true then (slotsOf ρ r).map (s :: ·) else none | none => none) ∧ (ownIx [] = []) ∧ (∀ x r, ownIx (.d x :: r) = ownIx r) ∧ (∀ i r, ownIx (.o i :: r) = i :: ownIx r) ∧ (∀ n k s ps, runBody n k s ps = if ps.length = n then kRun n ps (s (ps ++ List.replicate k .u)) else .bad) ∧ (∀ n ps ρ, kRun n ps (.ok .nx ρ) = if keepOk ps ρ = true then .ok (.v .non) (ρ.take n) else .bad) ∧ (∀ n ps d ρ, kRun n ps (.ok (.rt d) ρ) = if keepOk ps ρ = true then .ok (.v d) (ρ.take n) else .bad) ∧ (∀ n ps d ρ, kRun n ps (.ok (.rn d) ρ) = if keepOk ps ρ = true then .ok (.n d) (ρ.take n) else .bad) ∧ (∀ n ps E ρ, kRun n ps (.ex E ρ) = if keepOk ps ρ = true then .ex E (ρ.take n) else .bad) := by
  refine ⟨fun m f ρ => ?_, by intros; rfl, by intros; rfl, by intros; rfl, by intros; rfl, by intros; rfl, fun m f ρ => ?_, by intros; rfl, by intros; rfl, by intros; rfl, by intros; rfl, fun a as ρ => ?_, by intros; rfl, by intros; rfl, by intros; rfl, by intros; rfl, by intros; rfl, fun a as ρ => ?_, fun i f ρ => ?_, by intros; rfl, by intros; rfl, by intros; rfl, by intros; rfl, by intros; rfl, by intros; rfl, by intros; rfl, fun n k s ps => ?_, by intros; rfl, by intros; rfl, by intros; rfl, by intros; rfl⟩
  · unfold callM M.bind kCall kCall2 kCall3
    cases f ρ with
    | ok as ρ1 =>
      dsimp only
      all_goals cases slotsOf ρ1 as with
      | none => rfl
      | some ps =>
        dsimp only
        split
        · cases m ps with
          | ok a outs => cases a <;> rfl
          | _ => rfl
        · rfl
    | _ => rfl
  · unfold callN M.bind kCallN kCallN2 kCallN3
    cases f ρ with
    | ok as ρ1 =>
      dsimp only
      all_goals cases slotsOf ρ1 as with
      | none => rfl
      | some ps =>
        dsimp only
        split
        · cases m ps with
          | ok a outs => cases a <;> rfl
          | _ => rfl
        · rfl
    | _ => rfl
  · unfold aCons M.bind kCons1; cases a ρ with
    | ok x ρ => dsimp only <;> cases as ρ <;> rfl
    | _ => rfl
  · unfold aoCons M.bind kCons1; cases a ρ with
    | ok x ρ => dsimp only <;> cases as ρ <;> rfl
    | _ => rfl
  · unfold aoOwn isOwn kArgO kMap M.bind; cases ρ[i]? with
    | none => rfl
    | some t =>
      dsimp only
      split
      · cases f ρ <;> rfl
      · rfl
  · unfold runBody kRun; rfl
theorem evm : (∀ g a as ρ, eBmS g a as ρ = kBm1 (a ρ) as g) ∧ (∀ x ρ as g, kBm1 (.ok (.str x) ρ) as g = kUn (as ρ) (g x)) ∧ (∀ a as ρ, eIdxB a as ρ = kIB (a ρ) as) ∧ (∀ ds ρ as, kIB (.ok (.lst ds) ρ) as = kUn (as ρ) (indexBD ds)) ∧
    (∀ gm a ρ, eLam gm a ρ = kLam (gm (lamAn (a (ro ρ)))) ρ) ∧ (∀ d outs ρ, kLam (.ok (.v d) outs) ρ = .ok d ρ) ∧ (∀ d ρ, lamAn (.ok d ρ) = .ok (.v d) []) ∧ (∀ E ρ, lamAn (.ex E ρ) = .ex E []) ∧
    (∀ a lo hi ρ, eSl a lo hi ρ = kSl1 (a ρ) lo hi) ∧ (∀ d ρ lo hi, kSl1 (.ok d ρ) lo hi = kSl2 d (lo ρ) hi) ∧ (∀ d l ρ hi, kSl2 d (.ok l ρ) hi = kSl3 d l (hi ρ)) ∧ (∀ d l h ρ, kSl3 d l (.ok h ρ) = kLift (slD d l h) ρ) ∧ (∀ ρ, oNo ρ = .ok none ρ) ∧ (∀ a ρ, oPart a ρ = kUn (a ρ) oInt) ∧ (∀ k, oInt (.int k) = some (some k)) ∧
    (∀ as gd tt te vs ρ, eLc as gd tt te vs ρ = kLc (as ρ) gd tt te vs) ∧ (∀ xs ρ gd tt te vs, kLc (.ok xs ρ) gd tt te vs = if calmE ρ vs = true then kLcE (lcL gd tt te vs xs ρ) ρ vs else .bad) ∧ (∀ ds ρ' ρ vs, kLcE (.ok ds ρ') ρ vs = if ds.length ≤ 100000 then .ok ds (restE ρ ρ' vs) else .bad) ∧
    (∀ gd tt te vs ρ, lcL gd tt te vs [] ρ = .ok [] ρ) ∧ (∀ kds ρ, eDct kds ρ = .ok (.dct (kds.map (·.1)) (kds.map (·.2))) ρ) := by
  refine ⟨fun g a as ρ => ?_, fun _ _ _ _ => rfl, fun a as ρ => ?_, fun _ _ _ => rfl, fun gm a ρ => ?_, fun _ _ _ => rfl, fun _ _ => rfl, fun _ _ => rfl, fun a lo hi ρ => ?_, fun _ _ _ _ => rfl, fun _ _ _ _ => rfl, fun _ _ _ _ => rfl, fun _ => rfl, fun a ρ => ?_, fun _ => rfl, fun as gd tt te vs ρ => ?_, fun xs ρ gd tt te vs => rfl, fun _ _ _ _ => rfl, fun _ _ _ _ _ => rfl, fun _ _ => rfl⟩
  · unfold eBmS M.bind kBm1; cases a ρ with
    | ok x ρ1 => cases x with
      | str z =>
        simp only [asS, M.lift, M.pure, kUn]
        cases as ρ1 with
        | ok xs ρ2 => dsimp only <;> cases g z xs <;> rfl
        | _ => rfl
      | _ => rfl
    | _ => rfl
  · unfold eIdxB M.bind kIB; cases a ρ with
    | ok x ρ1 => cases x with
      | lst z =>
        simp only [kUn]
        cases as ρ1 with
        | ok xs ρ2 => dsimp only <;> cases indexBD z xs <;> rfl
        | _ => rfl
      | _ => rfl
    | _ => rfl
  · unfold eLam kLam; rfl
  · unfold eSl M.bind kSl1; cases a ρ with
    | ok d ρ1 =>
      dsimp only
      all_goals cases lo ρ1 with
      | ok l ρ2 =>
        dsimp only
        all_goals cases hi ρ2 with
        | ok h ρ3 => dsimp only <;> cases slD d l h <;> rfl
        | _ => rfl
      | _ => rfl
    | _ => rfl
  · unfold oPart M.bind kUn; cases a ρ with
    | ok d ρ1 => dsimp only <;> cases oInt d <;> rfl
    | _ => rfl
  · unfold eLc M.bind kLc kLcE
    cases as ρ with
    | ok xs ρ1 =>
      dsimp only <;> split <;> (first | rfl | (cases lcL gd tt te vs xs ρ1 <;> rfl))
    | _ => rfl
theorem evl : (∀ gd s x xs ρ, forL gd s (x :: xs) ρ = kTurn (gd x ρ) s (forL gd s xs)) ∧ (∀ ρ s k, kTurn (some ρ) s k = again (s ρ) k) ∧ (∀ ρ k, again (.ok .nx ρ) k = k ρ) ∧ (∀ ρ k, again (.ok .ct ρ) k = k ρ) ∧ (∀ ρ k, again (.ok .bk ρ) k = .ok .nx ρ) ∧ (∀ d ρ k, again (.ok (.rt d) ρ) k = .ok (.rt d) ρ) ∧ (∀ E ρ k, again (.ex E ρ) k = .ex E ρ) ∧
    (∀ gd tt te vs x xs ρ, lcL gd tt te vs (x :: xs) ρ = kLc1 (gd x (wipeE ρ vs)) tt te (lcL gd tt te vs xs)) ∧ (∀ ρ tt te k, kLc1 (some ρ) tt te k = kLc2 (tt ρ) te k) ∧ (∀ b ρ te k, kLc2 (.ok b ρ) te k = if b = true then kLc3 (te ρ) k else k ρ) ∧ (∀ d ρ k, kLc3 (.ok d ρ) k = kLc4 d (k ρ)) ∧ (∀ d ds ρ, kLc4 d (.ok ds ρ) = .ok (d :: ds) ρ) ∧
    (∀ i fk f ρ, sSetO i fk f ρ = kSetO1 (f ρ) i fk) ∧ (∀ d ρ i fk, kSetO1 (.ok d ρ) i fk = kSetO2 ρ[i]? d i fk ρ) ∧ (∀ ds d i fk ρ, kSetO2 (some (.o ds)) d i fk ρ = kSetO3 (fk ρ) d i) ∧ (∀ k ρ d i, kSetO3 (.ok k ρ) d i = kSetO4 ρ[i]? k d i ρ) ∧ (∀ ds k d i ρ, kSetO4 (some (.o ds)) (.int k) d i ρ = kSetO5 (ixN ds.length k) ds d i ρ) ∧ (∀ j ds d i ρ, kSetO5 (some j) ds d i ρ = .ok .nx (ρ.set i (.o (ds.set j d)))) := by
  refine ⟨fun gd s x xs ρ => ?_, fun _ _ _ => rfl, fun _ _ => rfl, fun _ _ => rfl, fun _ _ => rfl, fun _ _ _ => rfl, fun _ _ _ => rfl, fun gd tt te vs x xs ρ => ?_, fun _ _ _ _ => rfl, fun _ _ _ _ => rfl, fun _ _ _ => rfl, fun _ _ _ => rfl, fun i fk f ρ => ?_, fun d ρ i fk => rfl, fun ds d i fk ρ => rfl, fun k ρ d i => rfl, fun ds k d i ρ => rfl, fun _ _ _ _ _ => rfl⟩
  · rw [forL]; unfold kTurn; cases gd x ρ <;> rfl
  · rw [lcL]; unfold kLc1 kLc2 kLc3 kLc4
    cases gd x (wipeE ρ vs) with
    | none => rfl
    | some ρ1 =>
      dsimp only
      all_goals cases tt ρ1 with
      | ok b ρ2 => cases b with
        | false => rfl
        | true =>
          dsimp only
          rw [if_pos rfl]
          all_goals cases te ρ2 with
          | ok d ρ3 => dsimp only <;> cases lcL gd tt te vs xs ρ3 <;> rfl
          | _ => rfl
      | _ => rfl
  · unfold sSetO M.bind kSetO1 kSetO2 kSetO3 kSetO4 kSetO5 isOwn
    cases f ρ with
    | ok d ρ1 =>
      dsimp only
      all_goals cases ρ1[i]? with
      | none => rfl
      | some t =>
        dsimp only
        split
        · cases fk ρ1 with
          | ok k ρ2 =>
            dsimp only
            all_goals cases ρ2[i]? with
            | none => cases k <;> rfl
            | some t2 => cases t2 with
              | o ds => cases k with
                | int k => dsimp only <;> cases ixN ds.length k <;> rfl
                | _ => rfl
              | _ => cases k <;> rfl
          | _ => rfl
        · rfl
    | _ => rfl
/-- names of an environment -/
theorem env : (∀ (s : Slot) (r : Env), (s :: r)[0]? = some s) ∧ (∀ (s : Slot) (r : Env) (n : Nat), (s :: r)[n + 1]? = r[n]?) ∧ (∀ (s t : Slot) (r : Env), (s :: r).set 0 t = t :: r) ∧ (∀ (s t : Slot) (r : Env) (n : Nat), (s :: r).set (n + 1) t = s :: r.set n t) := ⟨fun _ _ => rfl, fun _ _ _ => List.getElem?_cons_succ, fun _ _ _ => rfl, fun _ _ _ _ => rfl⟩
end
end Pl
namespace Pl
open PySem PySem.Spec PyProof.Rows L2
def Ret (r : Rs An) (d : D) : Prop := ∃ outs, r = .ok (.v d) outs
theorem putBack_data {ρ : Env} : ∀ {as : List Arg} {outs : List Slot}, ownIx as = [] → putBack ρ as outs = ρ
  | [], _, _ => by cases ‹List Slot› <;> rfl
  | .d x :: r, [], _ => rfl
  | .d x :: r, s :: ss, h => putBack_data (as := r) (outs := ss) h
  | .o i :: r, _, h => by cases h
theorem call_ret {m : FnM} {args : M (List Arg)} {ρ ρ' : Env} {as : List Arg} {ps : List Slot} {d : D} (h1 : args ρ = .ok as ρ') (h2 : slotsOf ρ' as = some ps) (h3 : ownIx as = []) (h4 : Ret (m ps) d) : callM m args ρ = .ok d ρ' := by
  obtain ⟨outs, h4⟩ := h4
  unfold callM M.bind
  rw [h1]
  dsimp only
  rw [h2, h3]
  dsimp only
  rw [h4]
  show Rs.ok d (putBack ρ' as outs) = _
  rw [putBack_data h3]
theorem bind_ok {α β : Type} {m : M α} {f : α → M β} {ρ ρ' : Env} {a : α} (h : m ρ = .ok a ρ') : M.bind m f ρ = f a ρ' := by
  unfold M.bind
  rw [h]
theorem seq_nx {s t : S} {ρ ρ' : Env} (h : s ρ = .ok .nx ρ') : sSeq s t ρ = t ρ' := bind_ok h
theorem seq_rt {s t : S} {ρ ρ' : Env} {d : D} (h : s ρ = .ok (.rt d) ρ') : sSeq s t ρ = .ok (.rt d) ρ' := by
  unfold sSeq
  rw [bind_ok h]
  rfl
theorem if_yes {t : M Bool} {a b : S} {ρ ρ' : Env} (h : t ρ = .ok true ρ') : sIf t a b ρ = a ρ' := by
  unfold sIf
  rw [bind_ok h]
  rfl
theorem if_no {t : M Bool} {a b : S} {ρ ρ' : Env} (h : t ρ = .ok false ρ') : sIf t a b ρ = b ρ' := by
  unfold sIf
  rw [bind_ok h]
  rfl
theorem op_ok {g : D → D → Option D} {e1 e2 : M D} {x y z : D} {ρ ρ1 ρ2 : Env} (h1 : e1 ρ = .ok x ρ1) (h2 : e2 ρ1 = .ok y ρ2) (h : g x y = some z) : eOp g e1 e2 ρ = .ok z ρ2 := by
  unfold eOp
  rw [bind_ok h1, bind_ok h2, h]
  rfl
theorem asg_ok {gd : D → Env → Option Env} {e : M D} {d : D} {ρ ρ1 ρ2 : Env} (h1 : e ρ = .ok d ρ1) (h : gd d ρ1 = some ρ2) : sAsg gd e ρ = .ok .nx ρ2 := by
  unfold sAsg
  rw [bind_ok h1]
  show (match gd d ρ1 with | some ρ' => Rs.ok Ct.nx ρ' | none => .bad) = _
  rw [h]
theorem ret_ok {e : M D} {d : D} {ρ ρ1 : Env} (h : e ρ = .ok d ρ1) : sRet e ρ = .ok (.rt d) ρ1 := bind_ok h
theorem tru_ok {e : M D} {b : Bool} {ρ ρ1 : Env} (h : e ρ = .ok (.bl b) ρ1) : tTru isBl e ρ = .ok b ρ1 := by
  unfold tTru
  rw [bind_ok h]
  rfl
theorem mod_ok {i j : Int} (h : 0 < j) : modD (.int i) (.int j) = some (.int (i % j)) := if_pos (decide_eq_true h)
theorem fdiv_ok {i j : Int} (h : 0 < j ∧ j < 1073741824) : fdivD (.int i) (.int j) = some (.int (i / j)) := if_pos (decide_eq_true h)
theorem lg {n k : Nat} (h : n < 2 ^ k) : n.log2 ≤ k := by
  by_cases z : n = 0
  · subst z
    rw [Nat.log2_zero]
    exact Nat.zero_le _
  · exact Nat.le_of_lt ((Nat.log2_lt z).mpr h)
theorem mul_ok {i j : Int} (hi : i.natAbs < 2 ^ 100) (hj : j.natAbs < 2 ^ 100) : mulD (.int i) (.int j) = some (.int (i * j)) := if_pos (by have := lg hi; have := lg hj; omega)
end Pl
/-! data rules for simp -/
namespace Pl
open PySem PySem.Spec PyProof.Rows L2
theorem atI_nat {α : Type} (xs : List α) (n : Nat) : atI xs (n : Int) = xs[n]? := by
  unfold atI ixN
  rw [if_pos (Int.natCast_nonneg n)]
  by_cases h : n < xs.length
  · rw [if_pos (by omega)]
    show xs[(n : Int).toNat]? = _
    rw [Int.toNat_natCast]
  · rw [if_neg (by omega), List.getElem?_eq_none (by omega)]
    rfl
theorem atI_lit {α : Type} (xs : List α) (n : Nat) : atI xs (@OfNat.ofNat Int n instOfNat) = xs[n]? := atI_nat xs n
theorem atI_of {α : Type} {xs : List α} {i : Int} {x : α} (h0 : 0 ≤ i) (h : xs[i.toNat]? = some x) : atI xs i = some x := by
  obtain ⟨n, rfl⟩ := Int.eq_ofNat_of_zero_le h0
  rw [atI_nat]
  simpa using h
theorem atI_last {α : Type} (xs : List α) (x : α) : atI (xs ++ [x]) (-1) = some x := by
  unfold atI ixN
  rw [if_neg (by decide), if_pos (by rw [List.length_append, List.length_singleton]; omega)]
  show (xs ++ [x])[((-1 : Int) + ((xs ++ [x]).length : Nat)).toNat]? = _
  have e : ((-1 : Int) + ((xs ++ [x]).length : Nat)).toNat = xs.length := by rw [List.length_append, List.length_singleton]; omega
  rw [e, List.getElem?_append_right (Nat.le_refl _), Nat.sub_self]
  rfl
theorem ixN_lit (m n : Nat) (h : n < m) : ixN m (@OfNat.ofNat Int n instOfNat) = some n := by
  show ixN m (n : Int) = some n
  unfold ixN
  rw [if_pos (Int.natCast_nonneg n), if_pos (by omega)]
  rfl
theorem evd : (∀ i j, addD (.int i) (.int j) = some (.int (i + j))) ∧ (∀ i j, subD (.int i) (.int j) = some (.int (i - j))) ∧ (∀ i j, gtD (.int i) (.int j) = some (.bl (decide (j < i)))) ∧ (∀ i j, ltD (.int i) (.int j) = some (.bl (decide (i < j)))) ∧ (∀ i j, leD (.int i) (.int j) = some (.bl (decide (i ≤ j)))) ∧ (∀ i j, geD (.int i) (.int j) = some (.bl (decide (j ≤ i)))) ∧
    (∀ i j, eqD (.int i) (.int j) = some (.bl (decide (i = j)))) ∧ (∀ i j, neD (.int i) (.int j) = some (.bl (!decide (i = j)))) ∧ (∀ i, negD (.int i) = some (.int (-i))) ∧ (∀ i j, modD (.int i) (.int j) = if 0 < j then some (.int (i % j)) else none) ∧
    (∀ xs i, ixD (.lst xs) (.int i) = atI xs i) ∧ (∀ xs i, ixD (.tup xs) (.int i) = atI xs i) ∧ (∀ xs i, atO xs (.int i) = atI xs i) ∧ (∀ xs, lenD [.lst xs] = some (.int xs.length)) ∧ (∀ xs, lenD [.tup xs] = some (.int xs.length)) ∧
    (∀ xs, tupleD [.lst xs] = some (.tup xs)) ∧ (∀ xs, tupleD [.tup xs] = some (.tup xs)) ∧ (∀ b, intD [.bl b] = some (.int (if b then 1 else 0))) ∧ (∀ i, intD [.int i] = some (.int i)) ∧
    (∀ xs, asTup (.tup xs) = some xs) ∧ (∀ xs, asLst (.lst xs) = some xs) ∧ (∀ xs, enumAD [.tup xs] = some (numbered xs)) ∧ (∀ xs, enumAD [.lst xs] = some (numbered xs)) ∧
    (∀ b, truD (.bl b) = some b) ∧ (∀ i, truD (.int i) = some (i != 0)) ∧ (∀ xs, few xs = if xs.length ≤ 100000 then some xs else none) ∧ (∀ d, isD d .non = match d with | .rf _ => none | .non => some (.bl true) | _ => some (.bl false)) ∧
    (∀ i j, max2D [.int i, .int j] = some (.int (if j > i then j else i))) ∧ (∀ i j, min2D [.int i, .int j] = some (.int (if j < i then j else i))) := by
  refine ⟨fun _ _ => rfl, fun _ _ => rfl, fun _ _ => rfl, fun _ _ => rfl, fun _ _ => rfl, fun _ _ => rfl, fun _ _ => rfl, fun _ _ => rfl, fun _ => rfl, fun i j => ?_, fun _ _ => rfl, fun _ _ => rfl, fun _ _ => rfl, fun _ => rfl, fun _ => rfl, fun _ => rfl, fun _ => rfl, fun _ => rfl, fun _ => rfl, fun _ => rfl, fun _ => rfl, fun _ => rfl, fun _ => rfl, fun _ => rfl, fun _ => rfl, fun _ => rfl, fun _ => rfl, fun _ _ => rfl, fun _ _ => rfl⟩
  show (if decide (0 < j) = true then some (D.int (i % j)) else none) = _
  by_cases h : 0 < j
  · rw [if_pos (decide_eq_true h), if_pos h]
  · rw [if_neg (by simpa using h), if_neg h]
/-- kinds -/
theorem evk : (∀ i, typeD [.int i] = some (.rf (.ty "int"))) ∧ (∀ i, typeD [.bl i] = some (.rf (.ty "bool"))) ∧ (typeD [.non] = some (.rf (.ty "NoneType"))) ∧ (∀ i, typeD [.str i] = some (.rf (.ty "str"))) ∧ (∀ i, typeD [.tup i] = some (.rf (.ty "tuple"))) ∧ (∀ i, typeD [.lst i] = some (.rf (.ty "list"))) ∧ (∀ i j, typeD [.dct i j] = some (.rf (.ty "dict"))) ∧
    (eqTyD (.rf (.ty "int")) (.rf (.ty "int")) = some (.bl true)) ∧ (eqTyD (.rf (.ty "bool")) (.rf (.ty "int")) = some (.bl false)) ∧ (eqTyD (.rf (.ty "NoneType")) (.rf (.ty "int")) = some (.bl false)) ∧ (eqTyD (.rf (.ty "str")) (.rf (.ty "int")) = some (.bl false)) ∧ (eqTyD (.rf (.ty "tuple")) (.rf (.ty "int")) = some (.bl false)) ∧ (eqTyD (.rf (.ty "list")) (.rf (.ty "int")) = some (.bl false)) ∧ (eqTyD (.rf (.ty "dict")) (.rf (.ty "int")) = some (.bl false)) ∧
    (neTyD (.rf (.ty "int")) (.rf (.ty "int")) = some (.bl false)) ∧ (neTyD (.rf (.ty "bool")) (.rf (.ty "int")) = some (.bl true)) ∧ (neTyD (.rf (.ty "NoneType")) (.rf (.ty "int")) = some (.bl true)) ∧ (neTyD (.rf (.ty "str")) (.rf (.ty "int")) = some (.bl true)) ∧ (neTyD (.rf (.ty "tuple")) (.rf (.ty "int")) = some (.bl true)) ∧ (neTyD (.rf (.ty "list")) (.rf (.ty "int")) = some (.bl true)) ∧ (neTyD (.rf (.ty "dict")) (.rf (.ty "int")) = some (.bl true)) ∧
    (∀ i, isiD [.int i, .rf (.ty "int")] = some (.bl true)) ∧ (∀ i, isiD [.bl i, .rf (.ty "int")] = some (.bl true)) ∧ (isiD [.non, .rf (.ty "int")] = some (.bl false)) ∧ (∀ i, isiD [.str i, .rf (.ty "int")] = some (.bl false)) ∧ (∀ i, isiD [.tup i, .rf (.ty "int")] = some (.bl false)) ∧ (∀ i, isiD [.lst i, .rf (.ty "int")] = some (.bl false)) ∧ (∀ i j, isiD [.dct i j, .rf (.ty "int")] = some (.bl false)) ∧
    (∀ i, isiD [.int i, .rf (.ty "tuple")] = some (.bl false)) ∧ (∀ i, isiD [.bl i, .rf (.ty "tuple")] = some (.bl false)) ∧ (isiD [.non, .rf (.ty "tuple")] = some (.bl false)) ∧ (∀ i, isiD [.str i, .rf (.ty "tuple")] = some (.bl false)) ∧ (∀ i, isiD [.tup i, .rf (.ty "tuple")] = some (.bl true)) ∧ (∀ i, isiD [.lst i, .rf (.ty "tuple")] = some (.bl false)) ∧ (∀ i j, isiD [.dct i j, .rf (.ty "tuple")] = some (.bl false)) ∧
    (∀ i, isiD [.int i, .rf (.ty "str")] = some (.bl false)) ∧ (∀ i, isiD [.bl i, .rf (.ty "str")] = some (.bl false)) ∧ (isiD [.non, .rf (.ty "str")] = some (.bl false)) ∧ (∀ i, isiD [.str i, .rf (.ty "str")] = some (.bl true)) ∧ (∀ i, isiD [.tup i, .rf (.ty "str")] = some (.bl false)) ∧ (∀ i, isiD [.lst i, .rf (.ty "str")] = some (.bl false)) ∧ (∀ i j, isiD [.dct i j, .rf (.ty "str")] = some (.bl false)) ∧
    (∀ i, isiD [.int i, .rf (.ty "bool")] = some (.bl false)) ∧ (∀ i, isiD [.bl i, .rf (.ty "bool")] = some (.bl true)) ∧ (isiD [.non, .rf (.ty "bool")] = some (.bl false)) ∧ (∀ i, isiD [.str i, .rf (.ty "bool")] = some (.bl false)) ∧ (∀ i, isiD [.tup i, .rf (.ty "bool")] = some (.bl false)) ∧ (∀ i, isiD [.lst i, .rf (.ty "bool")] = some (.bl false)) ∧ (∀ i j, isiD [.dct i j, .rf (.ty "bool")] = some (.bl false)) := by
  refine ⟨?_, ?_, ?_, ?_, ?_, ?_, ?_, ?_, ?_, ?_, ?_, ?_, ?_, ?_, ?_, ?_, ?_, ?_, ?_, ?_, ?_, ?_, ?_, ?_, ?_, ?_, ?_, ?_, ?_, ?_, ?_, ?_, ?_, ?_, ?_, ?_, ?_, ?_, ?_, ?_, ?_, ?_, ?_, ?_, ?_, ?_, ?_, ?_, ?_⟩ <;> (intros; rfl)
theorem atl : (∀ xs : List D, atI xs 0 = xs[0]?) ∧ (∀ xs : List D, atI xs 1 = xs[1]?) ∧ (∀ xs : List D, atI xs 2 = xs[2]?) ∧ (∀ xs : List D, atI xs 3 = xs[3]?) ∧ (∀ xs : List D, atI xs 4 = xs[4]?) ∧ (∀ xs : List D, atI xs 5 = xs[5]?) ∧ (∀ xs : List D, atI xs 6 = xs[6]?) ∧ (∀ xs : List D, atI xs 7 = xs[7]?) ∧ (∀ xs : List D, atI xs 8 = xs[8]?) ∧ (∀ xs : List D, atI xs 9 = xs[9]?) ∧ (∀ xs : List D, atI xs 10 = xs[10]?) ∧ (∀ xs : List D, atI xs 11 = xs[11]?) ∧ (∀ xs : List D, atI xs 12 = xs[12]?) := ⟨fun xs => atI_lit xs 0, fun xs => atI_lit xs 1, fun xs => atI_lit xs 2, fun xs => atI_lit xs 3, fun xs => atI_lit xs 4, fun xs => atI_lit xs 5, fun xs => atI_lit xs 6, fun xs => atI_lit xs 7, fun xs => atI_lit xs 8, fun xs => atI_lit xs 9, fun xs => atI_lit xs 10, fun xs => atI_lit xs 11, fun xs => atI_lit xs 12⟩
theorem ixl : (∀ n, ixN (n + 1) 0 = some 0) ∧ (∀ n, ixN (n + 2) 1 = some 1) ∧ (∀ n, ixN (n + 3) 2 = some 2) ∧ (∀ n, ixN (n + 4) 3 = some 3) := ⟨fun n => ixN_lit (n + 1) 0 (by omega), fun n => ixN_lit (n + 2) 1 (by omega), fun n => ixN_lit (n + 3) 2 (by omega), fun n => ixN_lit (n + 4) 3 (by omega)⟩
/-- lists of slots -/
theorem evq : (∀ ρ, keepOk [] ρ = true) ∧ (∀ s ss r rs, keepOk (s :: ss) (r :: rs) = ((!s.own || r.own) && keepOk ss rs)) ∧ (∀ x, (Slot.d x).own = false) ∧ (∀ x, (Slot.o x).own = true) ∧ (∀ x, (Slot.q x).own = true) ∧ (∀ x, (Slot.qt x).own = true) ∧ (Slot.u.own = false) ∧
    (∀ (s : Slot) r n, List.take (n + 1) (s :: r) = s :: List.take n r) ∧ (∀ (r : Env), List.take 0 r = []) ∧ (∀ (s : Slot) r, (s :: r).length = r.length + 1) ∧ (([] : Env).length = 0) ∧ (∀ (s : Slot) n, List.replicate (n + 1) s = s :: List.replicate n s) ∧ (∀ (s : Slot), List.replicate 0 s = []) ∧
    (∀ (s : Slot) (r t : Env), (s :: r) ++ t = s :: (r ++ t)) ∧ (∀ t : Env, [] ++ t = t) ∧ (∀ t : Env, t ++ [] = t) ∧
    (free2 [] = true) ∧ (∀ x, free2 [x] = true) ∧ (∀ ρ ss, putBack ρ [] ss = ρ) ∧ (∀ ρ i r s ss, putBack ρ (.o i :: r) (s :: ss) = (putBack ρ r ss).set i s) ∧ (∀ ρ x r s ss, putBack ρ (.d x :: r) (s :: ss) = putBack ρ r ss) ∧ (∀ (ρ : Env) x r, putBack ρ (.d x :: r) [] = ρ) ∧
    (∀ (f : Env → Env) ρ, Option.map f (some ρ) = some (f ρ)) ∧ (∀ ds, frz (.o ds) = some (.lst ds)) ∧ (∀ k : Bool, (if (true : Bool) = true then k else false) = k) ∧
    (∀ (s : D) r, (s :: r).length = r.length + 1) ∧ (([] : List D).length = 0) ∧ (∀ (s : D) r, (s :: r)[0]? = some s) ∧ (∀ (s : D) r n, (s :: r)[n + 1]? = r[n]?) ∧ (∀ (s : D) (r t : List D), (s :: r) ++ t = s :: (r ++ t)) ∧ (∀ t : List D, [] ++ t = t) := by
  refine ⟨fun _ => rfl, fun _ _ _ _ => rfl, fun _ => rfl, fun _ => rfl, fun _ => rfl, fun _ => rfl, rfl, fun _ _ _ => rfl, fun _ => rfl, fun _ _ => rfl, rfl, fun _ _ => rfl, fun _ => rfl, fun _ _ _ => rfl, fun _ => rfl, fun _ => List.append_nil _, rfl, fun x => ?_, fun ρ ss => ?_, fun _ _ _ _ _ => rfl, fun _ _ _ _ _ => rfl, fun ρ x r => ?_, fun _ _ => rfl, fun _ => rfl, fun k => if_pos rfl, fun _ _ => rfl, rfl, fun _ _ => rfl, fun _ _ _ => rfl, fun _ _ _ => rfl, fun _ => rfl⟩
  · simp [free2]
  · cases ss <;> rfl
  · rfl
def EV := And.intro ev (And.intro evo (And.intro evb (And.intro evs (And.intro evt (And.intro evl (And.intro evc (And.intro evm (And.intro env (And.intro evd (And.intro evk (And.intro evq (And.intro atl ixl))))))))))))
end Pl
/-! what sorted leaves: in strict order where no two are alike -/
namespace Pl
open PySem PySem.Spec PyProof.Rows L2
theorem srt_total : PySem.W.TotalLe srtLe := PySem.W.sortLe_total (listOrd itemOrd) false (fun d => PySem.W.keyToks (toP d))
theorem toks_eq {x y : PyData} (h : PySem.W.alike x y = true) (e : PySem.W.keyToks x = PySem.W.keyToks y) : x.eqv y = true := by
  cases q : x.eqv y with
  | true => rfl
  | false =>
    have k := (PySem.W.toks_eqv x y h).2 q
    have k1 := k [] [Sum.inl 0]
    rw [e, PySem.W.lex_pre] at k1
    have k2 := k [] []
    rw [e, PySem.W.lex_pre] at k2
    rw [← k2] at k1
    cases k1
/-- in strict order -/
def ltP (d e : D) : Prop := PySem.W.dataLt (toP d) (toP e) = true
theorem srt_strict {d e : D} (h : srtLe d e = true) (al : PySem.W.alike (toP d) (toP e) = true) (ne : (toP d).eqv (toP e) = false) : ltP d e := by
  have h1 : PySem.W.dataLt (toP e) (toP d) = false := by
    have : (!PySem.W.dataLt (toP e) (toP d)) = true := h
    simpa using this
  unfold ltP
  cases q : PySem.W.dataLt (toP d) (toP e) with
  | true => rfl
  | false =>
    have := PyProof.Rows.lex_total _ _ q h1
    rw [toks_eq al this] at ne
    cases ne
theorem sorted_strict {ds : List D} (nd : ds.Pairwise fun d e => (toP d).eqv (toP e) = false ∧ (toP e).eqv (toP d) = false) (al : ∀ d ∈ ds, ∀ e ∈ ds, PySem.W.alike (toP d) (toP e) = true) : (ds.mergeSort srtLe).Pairwise ltP := by
  have p := List.mergeSort_perm ds srtLe
  have nd2 : (ds.mergeSort srtLe).Pairwise fun d e => (toP d).eqv (toP e) = false ∧ (toP e).eqv (toP d) = false := (p.pairwise_iff fun {x y} h => ⟨h.2, h.1⟩).mpr nd
  have s := PySem.W.sort_pairwise srt_total ds
  have both := s.and nd2
  exact both.imp_of_mem fun {d e} hd he h => srt_strict h.1 (al d (p.mem_iff.mp hd) e (p.mem_iff.mp he)) h.2.1
end Pl
/-! own dicts, by simp -/
namespace Pl
open PySem PySem.Spec PyProof.Rows L2
def kST5 (o : Option (List Key)) (kvs : List (List Key × D)) (d : D) (i : Nat) (ρ : Env) : Rs Ct := match o with
  | some ks => if kvs.length < 100000 then .ok .nx (ρ.set i (.qt (putD kvs ks d))) else .bad
  | none => .bad
def kST4 (s : Option Slot) (k d : D) (i : Nat) (ρ : Env) : Rs Ct := match s, k with
  | some (.qt kvs), .tup (.int n :: ks) => kST5 (kysD (.int n :: ks)) kvs d i ρ
  | _, _ => .bad
def kST3 (r : Rs D) (d : D) (i : Nat) : Rs Ct := match r with
  | .ok k ρ => kST4 ρ[i]? k d i ρ
  | .ex e ρ => .ex e ρ
  | .bad => .bad
def kST2 (s : Option Slot) (d : D) (i : Nat) (fk : M D) (ρ : Env) : Rs Ct := match s with
  | some t => if t.own = true then kST3 (fk ρ) d i else .bad
  | none => .bad
def kST1 (r : Rs D) (i : Nat) (fk : M D) : Rs Ct := match r with
  | .ok d ρ => kST2 ρ[i]? d i fk ρ
  | .ex e ρ => .ex e ρ
  | .bad => .bad
def kSK5 (o : Option Key) (kvs : List (Key × D)) (d : D) (i : Nat) (ρ : Env) : Rs Ct := match o with
  | some k => if kvs.length < 100000 then .ok .nx (ρ.set i (.q (putD kvs k d))) else .bad
  | none => .bad
def kSK4 (s : Option Slot) (k d : D) (i : Nat) (ρ : Env) : Rs Ct := match s with
  | some (.q kvs) => kSK5 (kyD k) kvs d i ρ
  | _ => .bad
def kSK3 (r : Rs D) (d : D) (i : Nat) : Rs Ct := match r with
  | .ok k ρ => kSK4 ρ[i]? k d i ρ
  | .ex e ρ => .ex e ρ
  | .bad => .bad
def kSK2 (s : Option Slot) (d : D) (i : Nat) (fk : M D) (ρ : Env) : Rs Ct := match s with
  | some t => if t.own = true then kSK3 (fk ρ) d i else .bad
  | none => .bad
def kSK1 (r : Rs D) (i : Nat) (fk : M D) : Rs Ct := match r with
  | .ok d ρ => kSK2 ρ[i]? d i fk ρ
  | .ex e ρ => .ex e ρ
  | .bad => .bad
def kN5 (o : Option Key) (d : D) (i : Nat) (ρ : Env) : Rs Ct := match o with
  | some k => .ok .nx (ρ.set i (.q [(k, d)]))
  | none => .bad
def kN2 (k : D) (r : Rs D) (i : Nat) : Rs Ct := match r with
  | .ok d ρ => kN5 (kyD k) d i ρ
  | _ => .bad
def kN1 (r : Rs D) (fv : M D) (i : Nat) : Rs Ct := match r with
  | .ok k ρ => kN2 k (fv ρ) i
  | _ => .bad
def kSoT (s : Option Slot) (ρ : Env) : Rs (List D) := match s with
  | some (.qt kvs) => if sortOk (kvs.map fun kv => tupK kv.1) = true then .ok ((kvs.map fun kv => tupK kv.1).mergeSort srtLe) ρ else .bad
  | _ => .bad
def kSoK (s : Option Slot) (ρ : Env) : Rs (List D) := match s with
  | some (.q kvs) => if sortOk (kvs.map fun kv => keyD kv.1) = true then .ok ((kvs.map fun kv => keyD kv.1).mergeSort srtLe) ρ else .bad
  | _ => .bad
theorem evh : (∀ i fk f ρ, sSetT i fk f ρ = kST1 (f ρ) i fk) ∧ (∀ d ρ i fk, kST1 (.ok d ρ) i fk = kST2 ρ[i]? d i fk ρ) ∧ (∀ kvs d i fk ρ, kST2 (some (.qt kvs)) d i fk ρ = kST3 (fk ρ) d i) ∧ (∀ k ρ d i, kST3 (.ok k ρ) d i = kST4 ρ[i]? k d i ρ) ∧ (∀ kvs n ks d i ρ, kST4 (some (.qt kvs)) (.tup (.int n :: ks)) d i ρ = kST5 (kysD (.int n :: ks)) kvs d i ρ) ∧ (∀ ks kvs d i ρ, kST5 (some ks) kvs d i ρ = if kvs.length < 100000 then .ok .nx (ρ.set i (.qt (putD kvs ks d))) else .bad) ∧
    (∀ i fk f ρ, sSetK i fk f ρ = kSK1 (f ρ) i fk) ∧ (∀ d ρ i fk, kSK1 (.ok d ρ) i fk = kSK2 ρ[i]? d i fk ρ) ∧ (∀ kvs d i fk ρ, kSK2 (some (.q kvs)) d i fk ρ = kSK3 (fk ρ) d i) ∧ (∀ k ρ d i, kSK3 (.ok k ρ) d i = kSK4 ρ[i]? k d i ρ) ∧ (∀ kvs k d i ρ, kSK4 (some (.q kvs)) k d i ρ = kSK5 (kyD k) kvs d i ρ) ∧ (∀ k kvs d i ρ, kSK5 (some k) kvs d i ρ = if kvs.length < 100000 then .ok .nx (ρ.set i (.q (putD kvs k d))) else .bad) ∧
    (∀ i fk fv ρ, sNewK1 i fk fv ρ = kN1 (fk ρ) fv i) ∧ (∀ k ρ fv i, kN1 (.ok k ρ) fv i = kN2 k (fv ρ) i) ∧ (∀ k d ρ i, kN2 k (.ok d ρ) i = kN5 (kyD k) d i ρ) ∧ (∀ k d i ρ, kN5 (some k) d i ρ = .ok .nx (ρ.set i (.q [(k, d)]))) ∧
    (∀ i ρ, sNewT i ρ = .ok .nx (ρ.set i (.qt []))) ∧ (∀ i ρ, sNewK i ρ = .ok .nx (ρ.set i (.q []))) ∧ (∀ i ρ, eSortT i ρ = kSoT ρ[i]? ρ) ∧ (∀ i ρ, eSortK i ρ = kSoK ρ[i]? ρ) ∧
    (∀ kvs ρ, kSoT (some (.qt kvs)) ρ = if sortOk (kvs.map fun kv => tupK kv.1) = true then .ok ((kvs.map fun kv => tupK kv.1).mergeSort srtLe) ρ else .bad) ∧ (∀ kvs ρ, kSoK (some (.q kvs)) ρ = if sortOk (kvs.map fun kv => keyD kv.1) = true then .ok ((kvs.map fun kv => keyD kv.1).mergeSort srtLe) ρ else .bad) ∧
    (∀ s a g c l, kysD [.int s, .str a, .int g, .int c, .int l] = some [.inl s, .inr a, .inl g, .inl c, .inl l]) ∧ (∀ i, kyD (.int i) = some (.inl i)) ∧ (∀ i, kyD (.str i) = some (.inr i)) := by
  refine ⟨fun i fk f ρ => ?_, fun _ _ _ _ => rfl, fun _ _ _ _ _ => rfl, fun _ _ _ _ => rfl, fun _ _ _ _ _ _ => rfl, fun _ _ _ _ _ => rfl, fun i fk f ρ => ?_, fun _ _ _ _ => rfl, fun _ _ _ _ _ => rfl, fun _ _ _ _ => rfl, fun _ _ _ _ _ => rfl, fun _ _ _ _ _ => rfl, fun i fk fv ρ => ?_, fun _ _ _ _ => rfl, fun _ _ _ _ => rfl, fun _ _ _ _ => rfl, fun _ _ => rfl, fun _ _ => rfl, fun i ρ => ?_, fun i ρ => ?_, fun _ _ => rfl, fun _ _ => rfl, fun _ _ _ _ _ => rfl, fun _ => rfl, fun _ => rfl⟩
  · unfold sSetT M.bind kST1 kST2 kST3 kST4 kST5 isOwn
    cases f ρ with
    | ok d ρ1 =>
      dsimp only
      all_goals cases ρ1[i]? with
      | none => rfl
      | some t =>
        dsimp only
        split
        · cases fk ρ1 with
          | ok k ρ2 =>
            dsimp only
            all_goals cases ρ2[i]? with
            | none =>
              cases k with
              | tup l => cases l with
                | nil => rfl
                | cons a l => cases a <;> rfl
              | _ => rfl
            | some t2 =>
              cases t2 <;> (cases k with
                | tup l => cases l with
                  | nil => rfl
                  | cons a l => cases a <;> try rfl
                | _ => rfl)
          | _ => rfl
        · rfl
    | _ => rfl
  · unfold sSetK M.bind kSK1 kSK2 kSK3 kSK4 kSK5 isOwn
    cases f ρ with
    | ok d ρ1 =>
      dsimp only
      all_goals cases ρ1[i]? with
      | none => rfl
      | some t =>
        dsimp only
        split
        · cases fk ρ1 with
          | ok k ρ2 =>
            dsimp only
            all_goals cases ρ2[i]? with
            | none => cases kyD k <;> rfl
            | some t2 => cases t2 <;> (cases kyD k <;> rfl)
          | _ => rfl
        · rfl
    | _ => rfl
  · unfold sNewK1 kN1 kN2 kN5
    cases fk ρ with
    | ok k ρ1 =>
      dsimp only
      all_goals cases fv ρ1 with
      | ok d ρ2 => dsimp only <;> cases kyD k <;> rfl
      | _ => rfl
    | _ => rfl
  · unfold eSortT kSoT; cases ρ[i]? with
    | none => rfl
    | some t => cases t <;> rfl
  · unfold eSortK kSoK; cases ρ[i]? with
    | none => rfl
    | some t => cases t <;> rfl
/-! loops -/
theorem forL_inv {gd : D → Env → Option Env} {body : S} (I : Nat → Env → Prop) : ∀ (xs : List D) (n : Nat) (ρ : Env), I n ρ → (∀ (i : Nat) (x : D) (ρ : Env), i < xs.length → x ∈ xs → I (n + i) ρ → ∃ ρ1 ρ2, gd x ρ = some ρ1 ∧ body ρ1 = .ok .nx ρ2 ∧ I (n + i + 1) ρ2) → ∃ ρ', forL gd body xs ρ = .ok .nx ρ' ∧ I (n + xs.length) ρ'
  | [], n, ρ, h, _ => ⟨ρ, rfl, h⟩
  | x :: xs, n, ρ, h, st => by
    obtain ⟨ρ1, ρ2, h1, h2, h3⟩ := st 0 x ρ (Nat.succ_pos _) List.mem_cons_self h
    obtain ⟨ρ', q1, q2⟩ := forL_inv I xs (n + 1) ρ2 h3 fun i y ρ li hy hi => by
      have := st (i + 1) y ρ (Nat.succ_lt_succ li) (List.mem_cons_of_mem _ hy) (by rw [show n + (i + 1) = n + 1 + i by omega]; exact hi)
      rw [show n + (i + 1) + 1 = n + 1 + i + 1 by omega] at this
      exact this
    refine ⟨ρ', ?_, by rw [List.length_cons, show n + (xs.length + 1) = n + 1 + xs.length by omega]; exact q2⟩
    simp only [evl, h1, h2, q1]
/-- a loop over lists told one by one, by what is left -/
theorem forL_rec {gd : D → Env → Option Env} {body : S} {x : D} {xs : List D} {ρ ρ1 ρ2 : Env} (h1 : gd x ρ = some ρ1) (h2 : body ρ1 = .ok .nx ρ2) : forL gd body (x :: xs) ρ = forL gd body xs ρ2 := by simp only [evl, h1, h2]
/-! ## steps, machines -/
def StepOk (z : Str) (n : Int) (d : D) : Prop := ∃ s a g c l, d = .tup [.int s, .str a, .int g, .int c, .int l] ∧ 0 ≤ s ∧ s < n ∧ D.str a ∈ chars z ∧ 0 ≤ g ∧ g ≤ 1 ∧ 0 ≤ c ∧ c ≤ 3 ∧ 0 ≤ l ∧ l < n
def StsOk (n : Int) (ds : List D) : Prop := ∃ is : List Int, ds = is.map D.int ∧ is.Pairwise (· < ·) ∧ ∀ i ∈ is, 0 ≤ i ∧ i < n
structure MachOk (z : Str) (n : Int) (st fi sp : List D) : Prop where
  begins : StsOk n st
  ends : StsOk n fi
  ord : sp.Pairwise ltP
  few : sp.length ≤ 60
  steps : ∀ d ∈ sp, StepOk z n d
def keyOk (z : Str) (n : Int) (k : List Key) : Prop := ∃ s a g c l, k = [.inl s, .inr a, .inl g, .inl c, .inl l] ∧ 0 ≤ s ∧ s < n ∧ D.str a ∈ chars z ∧ 0 ≤ g ∧ g ≤ 1 ∧ 0 ≤ c ∧ c ≤ 3 ∧ 0 ≤ l ∧ l < n
structure KvOk (z : Str) (n : Int) (kvs : List (List Key × D)) : Prop where
  ok : ∀ kv ∈ kvs, keyOk z n kv.1
  nd : (kvs.map (·.1)).Nodup
theorem put_keys {κ : Type} [DecidableEq κ] (kvs : List (κ × D)) (k : κ) (d : D) : (putD kvs k d).map (·.1) = if k ∈ kvs.map (·.1) then kvs.map (·.1) else kvs.map (·.1) ++ [k] := by
  unfold putD
  by_cases h : (kvs.any fun kv => decide (kv.1 = k)) = true
  · rw [if_pos h]
    obtain ⟨kv, m, e⟩ := List.any_eq_true.mp h
    rw [if_pos (List.mem_map.mpr ⟨kv, m, of_decide_eq_true e⟩), List.map_map]
    refine List.map_congr_left fun x _ => ?_
    show (if x.1 = k then (x.1, d) else x).1 = x.1
    split <;> rfl
  · rw [if_neg h, if_neg, List.map_append]
    · rfl
    · intro m
      obtain ⟨kv, m, e⟩ := List.mem_map.mp m
      exact h (List.any_eq_true.mpr ⟨kv, m, decide_eq_true e⟩)
theorem put_len {κ : Type} [DecidableEq κ] (kvs : List (κ × D)) (k : κ) (d : D) : (putD kvs k d).length ≤ kvs.length + 1 := by
  have h := congrArg List.length (put_keys kvs k d)
  rw [List.length_map] at h
  rw [h]
  split
  · rw [List.length_map]; omega
  · rw [List.length_append, List.length_map, List.length_singleton]; omega
theorem put_nd {κ : Type} [DecidableEq κ] {kvs : List (κ × D)} (k : κ) (d : D) (h : (kvs.map (·.1)).Nodup) : ((putD kvs k d).map (·.1)).Nodup := by
  rw [put_keys]
  split
  · exact h
  · rename_i n
    exact List.nodup_append.mpr ⟨h, by simp, fun a ha b hb => by
      rw [List.mem_singleton.mp hb]
      intro e
      rw [e] at ha
      exact n ha⟩
theorem KvOk.put {z : Str} {n : Int} {kvs : List (List Key × D)} {k : List Key} {d : D} (h : KvOk z n kvs) (hk : keyOk z n k) : KvOk z n (putD kvs k d) := by
  refine ⟨fun kv hm => ?_, put_nd k d h.nd⟩
  have m : kv.1 ∈ (putD kvs k d).map (·.1) := List.mem_map.mpr ⟨kv, hm, rfl⟩
  rw [put_keys] at m
  have cases_ : kv.1 ∈ kvs.map (·.1) ∨ kv.1 = k := by
    split at m
    · exact .inl m
    · rcases List.mem_append.mp m with m | m
      · exact .inl m
      · exact .inr (List.mem_singleton.mp m)
  rcases cases_ with m | m
  · obtain ⟨kv', m', e⟩ := List.mem_map.mp m
    rw [← e]
    exact h.ok kv' m'
  · rw [m]; exact hk
theorem all_iff {α : Type} {p : α → Bool} {l : List α} : l.all p = true ↔ ∀ x ∈ l, p x = true := List.all_eq_true
theorem step_of_key {z : Str} {n : Int} {k : List Key} (h : keyOk z n k) : StepOk z n (tupK k) := by
  obtain ⟨s, a, g, c, l, rfl, r⟩ := h
  exact ⟨s, a, g, c, l, rfl, r⟩
theorem step_alike {z z' : Str} {n n' : Int} {d e : D} (h : StepOk z n d) (k : StepOk z' n' e) : PySem.W.alike (toP d) (toP e) = true := by
  obtain ⟨s, a, g, c, l, rfl, _⟩ := h
  obtain ⟨s', a', g', c', l', rfl, _⟩ := k
  rfl
theorem step_eqv {z z' : Str} {n n' : Int} {d e : D} (h : StepOk z n d) (k : StepOk z' n' e) (q : (toP d).eqv (toP e) = true) : d = e := by
  obtain ⟨s, a, g, c, l, rfl, _⟩ := h
  obtain ⟨s', a', g', c', l', rfl, _⟩ := k
  simp [toP, toPL, PyData.eqv, PyData.eqvAll] at q
  obtain ⟨rfl, rfl, rfl, rfl, rfl⟩ := q
  rfl
theorem tupK_inj : ∀ {a b : List Key}, tupK a = tupK b → a = b := by
  intro a b h
  unfold tupK at h
  injection h with h
  induction a generalizing b with
  | nil => cases b with
    | nil => rfl
    | cons => cases h
  | cons x xs ih => cases b with
    | nil => cases h
    | cons y ys =>
      rw [List.map_cons, List.map_cons] at h
      injection h with h1 h2
      rw [ih h2]
      cases x <;> cases y <;> first | (injection h1 with h1; rw [h1]) | cases h1
theorem KvOk.sorted {z : Str} {n : Int} {kvs : List (List Key × D)} (h : KvOk z n kvs) (few : kvs.length ≤ 100000) : sortOk (kvs.map fun kv => tupK kv.1) = true ∧ (∀ d ∈ (kvs.map fun kv => tupK kv.1).mergeSort srtLe, StepOk z n d) ∧ ((kvs.map fun kv => tupK kv.1).mergeSort srtLe).Pairwise ltP ∧ ((kvs.map fun kv => tupK kv.1).mergeSort srtLe).length = kvs.length := by
  have st : ∀ d ∈ kvs.map fun kv => tupK kv.1, StepOk z n d := fun d hd => by
    obtain ⟨kv, m, rfl⟩ := List.mem_map.mp hd
    exact step_of_key (h.ok kv m)
  have p := List.mergeSort_perm (kvs.map fun kv => tupK kv.1) srtLe
  refine ⟨?_, fun d hd => st d (p.mem_iff.mp hd), sorted_strict ?_ fun d hd e he => step_alike (st d hd) (st e he), by rw [List.length_mergeSort, List.length_map]⟩
  · simp only [sortOk, Bool.and_eq_true, Bool.or_eq_true, decide_eq_true_eq, all_iff]
    refine ⟨⟨⟨fun d hd => ?_, fun d hd e he => step_alike (st d hd) (st e he)⟩, .inl fun d hd => ?_⟩, by rw [List.length_map]; exact few⟩
    · obtain ⟨s, a, g, c, l, rfl, _⟩ := st d hd; rfl
    · obtain ⟨s, a, g, c, l, rfl, _⟩ := st d hd; rfl
  · have nd := h.nd
    rw [List.pairwise_map]
    rw [List.Nodup, List.pairwise_map] at nd
    refine nd.imp_of_mem fun {x y} hx hy ne => ?_
    have key : ∀ {u v : List Key × D}, u ∈ kvs → v ∈ kvs → u.1 ≠ v.1 → (toP (tupK u.1)).eqv (toP (tupK v.1)) = false := fun {u v} hu hv ne => by
      cases q : (toP (tupK u.1)).eqv (toP (tupK v.1)) with
      | false => rfl
      | true => exact absurd (tupK_inj (step_eqv (step_of_key (h.ok u hu)) (step_of_key (h.ok v hv)) q)) ne
    exact ⟨key hx hy ne, key hy hx (Ne.symm ne)⟩
theorem evshy : (∀ x, (Slot.d x).shy = false) ∧ (∀ x, (Slot.o x).shy = true) ∧ (∀ x, (Slot.q x).shy = true) ∧ (∀ x, (Slot.qt x).shy = true) ∧ (Slot.u.shy = false) ∧ (∀ x, (Slot.oo x).shy = true) ∧ (∀ x, (Slot.oo x).own = false) := ⟨fun _ => rfl, fun _ => rfl, fun _ => rfl, fun _ => rfl, rfl, fun _ => rfl, fun _ => rfl⟩
/-- what a lambda sees -/
theorem evro : (∀ x r, ro (.d x :: r) = .d x :: ro r) ∧ (∀ x r, ro (.o x :: r) = .u :: ro r) ∧ (∀ r, ro (.u :: r) = .u :: ro r) ∧ (∀ x r, ro (.q x :: r) = .u :: ro r) ∧ (∀ x r, ro (.qt x :: r) = .u :: ro r) ∧ (ro [] = []) ∧ (∀ x r, ro (.oo x :: r) = .u :: ro r) := ⟨fun _ _ => rfl, fun _ _ => rfl, fun _ => rfl, fun _ _ => rfl, fun _ _ => rfl, rfl, fun _ _ => rfl⟩
end Pl
/-! repr's size, words, joins, max -/
namespace Pl
open PySem PySem.Spec PyProof.Rows L2
/-! ### repr -/
structure Rok (w k : Nat) (d : D) : Prop where
  sh : shape k d = true
  sw : (toP d).showable = true
  nd : (toP d).hasDict = false
  lv : (toP d).leavesShort 13 = true
  wt : (toP d).weight ≤ w
theorem int_weight {i : Int} {k : Nat} (h : i.natAbs < 2 ^ k) : (PyData.int i).weight ≤ k + 1 := by
  have := lg h
  show (if (i == 0) = true then 0 else i.natAbs.log2 + 1) ≤ _
  split <;> omega
theorem Rok.int {i : Int} (h0 : 0 ≤ i) (h1 : i < 1000000) (k : Nat) : Rok 21 k (.int i) := by
  have h : i.natAbs < 2 ^ 20 := by omega
  have l := lg h
  refine ⟨by cases k <;> rfl, by simp only [toP, PyData.showable]; exact decide_eq_true (by omega), rfl, ?_, int_weight h⟩
  show decide ((Str.ofString (toString i)).length ≤ 13) = true
  have := toString_length_le (v := i) h0 (k := 7) (by decide) (by omega)
  exact decide_eq_true (by omega)
theorem Rok.str {x : Str} (h : x.cps.toList.all (fun c => decide (c < 16 ^ 8)) = true) (k : Nat) : Rok x.length k (.str x) := ⟨by cases k <;> rfl, rfl, rfl, h, Nat.le_refl _⟩
mutual
theorem shape_up : ∀ {k k' : Nat} {d : D}, k ≤ k' → shape k d = true → shape k' d = true
  | _, k', .non, _, _ => by cases k' <;> rfl
  | _, k', .bl _, _, _ => by cases k' <;> rfl
  | _, k', .int _, _, _ => by cases k' <;> rfl
  | _, k', .str _, _, _ => by cases k' <;> rfl
  | 0, _, .tup _, _, h => by cases h
  | 0, _, .lst _, _, h => by cases h
  | k + 1, 0, .tup _, l, _ => absurd l (by omega)
  | k + 1, 0, .lst _, l, _ => absurd l (by omega)
  | k + 1, k' + 1, .tup xs, l, h => shapes_up (k := k) (xs := xs) (by omega) h
  | k + 1, k' + 1, .lst xs, l, h => shapes_up (k := k) (xs := xs) (by omega) h
  | k, _, .dct _ _, _, h => by cases k <;> cases h
  | k, _, .rf _, _, h => by cases k <;> cases h
  | k, _, .scr _, _, h => by cases k <;> cases h
theorem shapes_up : ∀ {k k' : Nat} {xs : List D}, k ≤ k' → shapeL k xs = true → shapeL k' xs = true
  | _, k', [], _, _ => by cases k' <;> rfl
  | k, k', x :: xs, l, h => by
    have h : (shape k x && shapeL k xs) = true := h
    rw [Bool.and_eq_true] at h
    show (shape k' x && shapeL k' xs) = true
    rw [shape_up l h.1, shapes_up l h.2]; rfl
end
theorem Rok.up {w k w' k' : Nat} {d : D} (h : Rok w k d) (hw : w ≤ w') (hk : k ≤ k') : Rok w' k' d := ⟨shape_up hk h.sh, h.sw, h.nd, h.lv, Nat.le_trans h.wt hw⟩
theorem roks {w k : Nat} : ∀ {xs : List D}, (∀ x ∈ xs, Rok w k x) → shapeL k xs = true ∧ PyData.showableAll (toPL xs) = true ∧ PyData.hasDictAll (toPL xs) = false ∧ PyData.leavesShortAll 13 (toPL xs) = true ∧ PyData.weightAll (toPL xs) ≤ (w + 1) * xs.length
  | [], _ => ⟨by cases k <;> rfl, rfl, rfl, rfl, Nat.zero_le _⟩
  | x :: xs, h => by
    obtain ⟨a, b, c, d, e⟩ := roks fun y hy => h y (List.mem_cons_of_mem _ hy)
    have o := h x List.mem_cons_self
    refine ⟨?_, ?_, ?_, ?_, ?_⟩
    · show (shape k x && shapeL k xs) = true
      rw [o.sh, a]; rfl
    · show ((toP x).showable && PyData.showableAll (toPL xs)) = true
      rw [o.sw, b]; rfl
    · show ((toP x).hasDict || PyData.hasDictAll (toPL xs)) = false
      rw [o.nd, c]; rfl
    · show ((toP x).leavesShort 13 && PyData.leavesShortAll 13 (toPL xs)) = true
      rw [o.lv, d]; rfl
    · show (toP x).weight + 1 + PyData.weightAll (toPL xs) ≤ _
      rw [List.length_cons, Nat.mul_add]
      have := o.wt
      omega
theorem Rok.tup {w k : Nat} {xs : List D} (h : ∀ x ∈ xs, Rok w k x) : Rok ((w + 1) * xs.length) (k + 1) (.tup xs) := by
  obtain ⟨a, b, c, d, e⟩ := roks h
  exact ⟨a, b, c, d, e⟩
theorem Rok.lst {w k : Nat} {xs : List D} (h : ∀ x ∈ xs, Rok w k x) : Rok ((w + 1) * xs.length) (k + 1) (.lst xs) := by
  obtain ⟨a, b, c, d, e⟩ := roks h
  exact ⟨a, b, c, d, e⟩
theorem Rok.repr {w : Nat} {xs : List D} (h : Rok w 60 (.tup xs)) (hw : w ≤ 6000) : reprD [.tup xs] = some (.str (reprT (.tup xs))) := by
  have l := PyData.shown_le 13 (by decide) _ h.lv
  have := h.wt
  have g : reprOk (.tup xs) = true := by
    show (shape 60 (.tup xs) && (toP (.tup xs)).showable && !(toP (.tup xs)).hasDict && decide ((toP (.tup xs)).shown.length ≤ 100000)) = true
    rw [h.sh, h.sw, h.nd, decide_eq_true (by omega)]
    rfl
  exact if_pos g
theorem repr_int {i : Int} (h : i.natAbs < 2 ^ 100) : reprD [.int i] = some (.str (reprT (.int i))) := by
  have := lg h
  exact if_pos (decide_eq_true (by omega))
theorem repr_bl (b : Bool) : reprD [.bl b] = some (.str (reprT (.bl b))) := by cases b <;> rfl
theorem neD_same (x : Str) : neD (.str x) (.str x) = some (.bl false) := by
  show some (D.bl (!(x == x))) = _
  rw [beq_self_eq_true]; rfl
/-! ### words -/
theorem tw_all {α : Type} {p : α → Bool} : ∀ {l : List α}, (∀ x ∈ l, p x = true) → l.takeWhile p = l
  | [], _ => rfl
  | a :: l, h => by
    rw [List.takeWhile_cons, if_pos (h a List.mem_cons_self), tw_all fun x hx => h x (List.mem_cons_of_mem _ hx)]
theorem strip_none {w z : Str} (h : ∀ c ∈ w.cps.toList, c ∈ z.cps.toList) : Txt.stripChars w z = Str.ofString "" := by
  have h' : ∀ c ∈ w.cps.toList, z.cps.contains c = true := fun c hc => by
    rw [Array.contains_iff_mem]
    exact Array.mem_toList_iff.mp (h c hc)
  show Txt.stripBy z.cps.contains true true w = _
  rw [stripBy_eq]
  have lo : stripLo z.cps.contains true w = w.length := by
    show (w.cps.toList.takeWhile z.cps.contains).length = _
    rw [tw_all h']
    simp [Str.length]
  have hi : stripHi z.cps.contains true w w.length = w.length := by
    show w.length - ((w.cps.toList.drop w.length).reverse.takeWhile z.cps.contains).length = _
    rw [List.drop_eq_nil_of_le (by simp [Str.length])]
    simp
  rw [lo, hi]
  have e : Str.ofString "" = ⟨#[]⟩ := rfl
  rw [e]
  simp [Builtin.Str.strSub, Str.length]
/-- one text out of letters -/
def accS (t : Str) (as : List Str) : Str := as.foldl (· ++ ·) t
theorem acc_cps : ∀ (as : List Str) (t : Str), (accS t as).cps = as.foldl (fun acc p => acc ++ p.cps) t.cps
  | [], _ => rfl
  | a :: as, t => by
    show (accS (t ++ a) as).cps = _
    rw [acc_cps as (t ++ a)]
    rfl
theorem acc_len : ∀ (as : List Str) (t : Str), (∀ a ∈ as, a.length = 1) → (accS t as).length = t.length + as.length
  | [], _, _ => rfl
  | a :: as, t, h => by
    show (accS (t ++ a) as).length = _
    rw [acc_len as (t ++ a) fun b hb => h b (List.mem_cons_of_mem _ hb)]
    have e : (t ++ a).length = t.length + a.length := by
      show (t.cps ++ a.cps).size = _
      rw [Array.size_append]; rfl
    have := h a List.mem_cons_self
    rw [e, List.length_cons]; omega
theorem acc_mem : ∀ (as : List Str) (t : Str) (c : Nat), c ∈ (accS t as).cps.toList → c ∈ t.cps.toList ∨ ∃ a ∈ as, c ∈ a.cps.toList
  | [], _, _, h => .inl h
  | a :: as, t, c, h => by
    rcases acc_mem as (t ++ a) c h with h | ⟨b, hb, hc⟩
    · have h : c ∈ (t.cps ++ a.cps).toList := h
      rw [Array.toList_append, List.mem_append] at h
      rcases h with h | h
      · exact .inl h
      · exact .inr ⟨a, List.mem_cons_self, h⟩
    · exact .inr ⟨b, List.mem_cons_of_mem _ hb, hc⟩
theorem glued_nil (as : List Str) : Txt.join (Str.ofString "") as = accS (Str.ofString "") as := by
  have e0 : Str.ofString "" = ⟨#[]⟩ := rfl
  have key : ∀ (l : List Str) (c : Array Nat), l.foldl (fun acc p => acc ++ (Str.ofString "").cps ++ p.cps) c = l.foldl (fun acc p => acc ++ p.cps) c := by
    intro l
    induction l with
    | nil => intro c; rfl
    | cons p l ih =>
      intro c
      rw [List.foldl_cons, List.foldl_cons, ih]
      rw [e0, Array.append_empty]
  cases as with
  | nil => rfl
  | cons a as =>
    have : (Txt.join (Str.ofString "") (a :: as)).cps = (accS (Str.ofString "") (a :: as)).cps := by
      rw [acc_cps, List.foldl_cons]
      show as.foldl (fun acc p => acc ++ (Str.ofString "").cps ++ p.cps) a.cps = _
      rw [key]
      congr 1
      rw [e0]
      show a.cps = #[] ++ a.cps
      rw [Array.empty_append]
    cases h1 : Txt.join (Str.ofString "") (a :: as)
    cases h2 : accS (Str.ofString "") (a :: as)
    rw [h1, h2] at this
    exact congrArg Str.mk this
theorem strs_map : ∀ as : List Str, strsOf (as.map D.str) = some as
  | [] => rfl
  | a :: as => by
    rw [List.map_cons]
    unfold strsOf
    rw [strs_map as]
    rfl
theorem join_ok {as : List Str} (h : ∀ a ∈ as, a.length = 1) (l : as.length ≤ 1000) : joinD (Str.ofString "") [.lst (as.map D.str)] = some (.str (accS (Str.ofString "") as)) := by
  unfold joinD
  dsimp only
  rw [strs_map]
  dsimp only
  rw [glued_nil, if_pos]
  have : ∀ l : List Str, (∀ a ∈ l, a.length = 1) → (l.map (·.length)).sum = l.length := by
    intro l
    induction l with
    | nil => intro _; rfl
    | cons a l ih =>
      intro h
      rw [List.map_cons, List.sum_cons, ih fun b hb => h b (List.mem_cons_of_mem _ hb), h a List.mem_cons_self, List.length_cons]
      omega
  rw [this as h]
  show as.length + as.length * 0 ≤ _
  omega
theorem letter_of {z a : Str} (h : D.str a ∈ chars z) : a.length = 1 ∧ ∀ c ∈ a.cps.toList, c ∈ z.cps.toList := by
  obtain ⟨c, m, e⟩ := List.mem_map.mp h
  injection e with e
  subst e
  refine ⟨rfl, fun d hd => ?_⟩
  have : d = c := by simpa using hd
  rw [this]; exact m
/-! ### max of ints -/
theorem toPL_ints : ∀ cs : List Int, toPL (cs.map D.int) = cs.map PyData.int
  | [] => rfl
  | c :: cs => by
    show PyData.int c :: toPL (cs.map D.int) = _
    rw [toPL_ints cs]; rfl
theorem all_ints : ∀ cs : List Int, allInt (cs.map D.int) = true
  | [] => rfl
  | c :: cs => all_ints cs
theorem max_ok {c : Int} {cs : List Int} (h : cs.length ≤ 1000) : max1D [.tup (.int c :: cs.map D.int)] = some (.int (cs.foldl max c)) := by
  show maxOf ((c :: cs).map D.int) = _
  unfold maxOf
  rw [all_ints, List.length_map, List.length_cons, decide_eq_true (by omega), if_pos (show (true && true) = true from rfl), toPL_ints, List.map_cons]
  show intP (PySem.W.maxD (.int c) (cs.map PyData.int)) = _
  rw [PySem.W.maxD_ints]
  rfl
theorem max_le {B : Int} : ∀ {cs : List Int} {c : Int}, (0 ≤ c ∧ c ≤ B) → (∀ d ∈ cs, 0 ≤ d ∧ d ≤ B) → 0 ≤ cs.foldl max c ∧ cs.foldl max c ≤ B
  | [], _, h, _ => h
  | d :: cs, c, h, k => by
    have := k d List.mem_cons_self
    exact max_le (cs := cs) (c := max c d) (by omega) fun e he => k e (List.mem_cons_of_mem _ he)
end Pl
/-! lists of lists, *rest, loops over ranges: by simp -/
namespace Pl
open PySem PySem.Spec PyProof.Rows L2
def kPM2 (ds : List D) (r : Rs D) (i j : Nat) : Rs Ct := match r with
  | .ok d ρ => .ok .nx ((ρ.set i (.o ds)).set j (.d d))
  | .ex e ρ => .ex e ρ
  | .bad => .bad
def kPM1 (r : Rs (List D)) (fb : M D) (i j : Nat) : Rs Ct := match r with
  | .ok ds ρ => kPM2 ds (fb ρ) i j
  | .ex e ρ => .ex e ρ
  | .bad => .bad
def kAl3 (o : Option Nat) (j : Nat) (ρ : Env) : Rs Ct := match o with
  | some n => .ok .nx (ρ.set j (.al n))
  | none => .bad
def kAl2 (s : Option Slot) (d : D) (j : Nat) (ρ : Env) : Rs Ct := match s, d with
  | some (.oo xss), .int k => kAl3 (ixN xss.length k) j ρ
  | _, _ => .bad
def kAl1 (s : Option Slot) (j i : Nat) (r : Rs D) : Rs Ct := match s with
  | some (.oo _) => match r with
    | .ok d ρ => kAl2 ρ[i]? d j ρ
    | .ex e ρ => .ex e ρ
    | .bad => .bad
  | _ => .bad
def kIA3 (o : Option (List D)) (d : D) (ρ : Env) : Rs D := match o with
  | some xs => kLift (atO xs d) ρ
  | none => .bad
def kIA2 (s : Option Slot) (n : Nat) (d : D) (ρ : Env) : Rs D := match s with
  | some (.oo xss) => kIA3 xss[n]? d ρ
  | _ => .bad
def kIA1 (s : Option Slot) (i : Nat) (r : Rs D) : Rs D := match s with
  | some (.al n) => match r with
    | .ok d ρ => kIA2 ρ[i]? n d ρ
    | .ex e ρ => .ex e ρ
    | .bad => .bad
  | _ => .bad
def kSA4 (o : Option (List D)) (xss : List (List D)) (n : Nat) (d : D) (k : Int) (i : Nat) (ρ : Env) : Rs Ct := match o with
  | some xs => match ixN xs.length k with
    | some l => .ok .nx (ρ.set i (.oo (xss.set n (xs.set l d))))
    | none => .bad
  | none => .bad
def kSA3 (s : Option Slot) (k d : D) (n i : Nat) (ρ : Env) : Rs Ct := match s, k with
  | some (.oo xss), .int k => if noOO (ρ.set i .u) = true then kSA4 xss[n]? xss n d k i ρ else .bad
  | _, _ => .bad
def kSA2 (s : Option Slot) (d : D) (i : Nat) (fk : M D) (ρ : Env) : Rs Ct := match s with
  | some (.al n) => match fk ρ with
    | .ok k ρ => kSA3 ρ[i]? k d n i ρ
    | .ex e ρ => .ex e ρ
    | .bad => .bad
  | _ => .bad
def kSA1 (r : Rs D) (j i : Nat) (fk : M D) : Rs Ct := match r with
  | .ok d ρ => kSA2 ρ[j]? d i fk ρ
  | .ex e ρ => .ex e ρ
  | .bad => .bad
def kNe3 (s : Option Slot) (i : Nat) (r : S) (ρ : Env) : Rs Ct := match s with
  | some (.oo yss) => r (ρ.set i (.d (.lst (yss.map D.lst))))
  | _ => .bad
def kNe2 (q : Rs Ct) (i : Nat) (r : S) : Rs Ct := match q with
  | .ok .nx ρ => kNe3 ρ[i]? i r (unN ρ)
  | .ok k ρ => .ok k (unN ρ)
  | .ex e ρ => .ex e (unN ρ)
  | .bad => .bad
def kNe1 (q : Rs (List (List D))) (i : Nat) (s r : S) : Rs Ct := match q with
  | .ok xss ρ => if noN ρ = true then kNe2 (s (ρ.set i (.oo xss))) i r else .bad
  | .ex e ρ => .ex e ρ
  | .bad => .bad
def kLN3 (ds : List D) (r : Rs (List (List D))) : Rs (List (List D)) := match r with
  | .ok r ρ => .ok (ds :: r) ρ
  | _ => .bad
def kLN2 (r : Rs (List D)) (k : Env → Rs (List (List D))) : Rs (List (List D)) := match r with
  | .ok ds ρ => if noN ρ = true then kLN3 ds (k ρ) else .bad
  | _ => .bad
def kLN1 (o : Option Env) (te : M (List D)) (k : Env → Rs (List (List D))) : Rs (List (List D)) := match o with
  | none => .bad
  | some ρ => kLN2 (te ρ) k
def kLNE (r : Rs (List (List D))) (ρ : Env) (vs : List Nat) : Rs (List (List D)) := match r with
  | .ok xss ρ' => if xss.length ≤ 100000 then .ok xss (restE ρ ρ' vs) else .bad
  | _ => .bad
def kLN (r : Rs (List D)) (gd : D → Env → Option Env) (te : M (List D)) (vs : List Nat) : Rs (List (List D)) := match r with
  | .ok xs ρ => if calmE ρ vs = true then kLNE (lcN gd te vs xs ρ) ρ vs else .bad
  | .ex e ρ => .ex e ρ
  | .bad => .bad
def kStar (o : Option (List D)) (x : D) (n : Nat) (g : S) : Rs An := match o with
  | some ds => if ds.length ≤ 100000 then runBody 2 n g [.d x, .d (.tup ds)] else .bad
  | none => .bad
theorem evn1 : (∀ i j a b ρ, sParM i j a b ρ = kPM1 (a ρ) b i j) ∧ (∀ ds ρ b i j, kPM1 (.ok ds ρ) b i j = kPM2 ds (b ρ) i j) ∧ (∀ ds d ρ i j, kPM2 ds (.ok d ρ) i j = .ok .nx ((ρ.set i (.o ds)).set j (.d d))) ∧
    (∀ j i a ρ, sAlias j i a ρ = kAl1 ρ[i]? j i (a ρ)) ∧ (∀ xss j i d ρ, kAl1 (some (.oo xss)) j i (.ok d ρ) = kAl2 ρ[i]? d j ρ) ∧ (∀ xss k j ρ, kAl2 (some (.oo xss)) (.int k) j ρ = kAl3 (ixN xss.length k) j ρ) ∧ (∀ n j ρ, kAl3 (some n) j ρ = .ok .nx (ρ.set j (.al n))) ∧
    (∀ j i a ρ, eIxA j i a ρ = kIA1 ρ[j]? i (a ρ)) ∧ (∀ n i d ρ, kIA1 (some (.al n)) i (.ok d ρ) = kIA2 ρ[i]? n d ρ) ∧ (∀ xss n d ρ, kIA2 (some (.oo xss)) n d ρ = kIA3 xss[n]? d ρ) ∧ (∀ xs d ρ, kIA3 (some xs) d ρ = kLift (atO xs d) ρ) ∧
    (∀ j i a b ρ, sSetA j i a b ρ = kSA1 (b ρ) j i a) ∧ (∀ d ρ j i a, kSA1 (.ok d ρ) j i a = kSA2 ρ[j]? d i a ρ) ∧ (∀ n d i a ρ, kSA2 (some (.al n)) d i a ρ = match a ρ with | .ok k ρ => kSA3 ρ[i]? k d n i ρ | .ex e ρ => .ex e ρ | .bad => .bad) ∧ (∀ xss k d n i ρ, kSA3 (some (.oo xss)) (.int k) d n i ρ = if noOO (ρ.set i .u) = true then kSA4 xss[n]? xss n d k i ρ else .bad) ∧ (∀ xs xss n d k i ρ, kSA4 (some xs) xss n d k i ρ = match ixN xs.length k with | some l => .ok .nx (ρ.set i (.oo (xss.set n (xs.set l d)))) | none => .bad) := by
  refine ⟨fun i j a b ρ => ?_, fun _ _ _ _ _ => rfl, fun _ _ _ _ _ => rfl, fun j i a ρ => ?_, fun _ _ _ _ _ => rfl, fun _ _ _ _ => rfl, fun _ _ _ => rfl, fun j i a ρ => ?_, fun _ _ _ _ => rfl, fun _ _ _ _ => rfl, fun _ _ _ => rfl, fun j i a b ρ => ?_, fun _ _ _ _ _ => rfl, fun _ _ _ _ _ => rfl, fun _ _ _ _ _ _ => rfl, fun _ _ _ _ _ _ _ => rfl⟩
  · unfold sParM kPM1; cases a ρ with
    | ok ds ρ1 => dsimp only; unfold kPM2; cases b ρ1 <;> rfl
    | _ => rfl
  · unfold sAlias kAl1 M.bind
    cases ρ[i]? with
    | none => rfl
    | some t => cases t with
      | oo xss => cases a ρ with
        | ok d ρ1 =>
          dsimp only
          all_goals cases ρ1[i]? with
          | none => rfl
          | some t2 => cases t2 <;> (first | rfl | (cases d <;> rfl))
        | _ => rfl
      | _ => rfl
  · unfold eIxA kIA1 M.bind
    cases ρ[j]? with
    | none => rfl
    | some t => cases t with
      | al n => cases a ρ with
        | ok d ρ1 =>
          dsimp only
          all_goals cases ρ1[i]? with
          | none => rfl
          | some t2 => cases t2 <;> try rfl
                       unfold kIA2 kIA3; dsimp only; rename_i xss; cases xss[n]? with
                       | none => rfl
                       | some xs => dsimp only; cases atO xs d <;> rfl
        | _ => rfl
      | _ => rfl
  · unfold sSetA kSA1 M.bind
    cases b ρ with
    | ok d ρ1 =>
      dsimp only
      all_goals unfold kSA2; cases ρ1[j]? with
      | none => rfl
      | some t => cases t with
        | al n => dsimp only; cases a ρ1 with
          | ok k ρ2 =>
            dsimp only
            all_goals unfold kSA3; cases ρ2[i]? with
            | none => cases k <;> rfl
            | some t2 => cases t2 <;> (cases k <;> rfl)
          | _ => rfl
        | _ => rfl
    | _ => rfl
theorem evn2 : (∀ i f s r ρ, sNest2 i f s r ρ = kNe1 (f ρ) i s r) ∧ (∀ xss ρ i s r, kNe1 (.ok xss ρ) i s r = if noN ρ = true then kNe2 (s (ρ.set i (.oo xss))) i r else .bad) ∧ (∀ ρ i r, kNe2 (.ok .nx ρ) i r = kNe3 ρ[i]? i r (unN ρ)) ∧ (∀ yss i r ρ, kNe3 (some (.oo yss)) i r ρ = r (ρ.set i (.d (.lst (yss.map D.lst))))) ∧
    (∀ it gd te vs ρ, eLcN it gd te vs ρ = kLN (it ρ) gd te vs) ∧ (∀ xs ρ gd te vs, kLN (.ok xs ρ) gd te vs = if calmE ρ vs = true then kLNE (lcN gd te vs xs ρ) ρ vs else .bad) ∧ (∀ xss ρ' ρ vs, kLNE (.ok xss ρ') ρ vs = if xss.length ≤ 100000 then .ok xss (restE ρ ρ' vs) else .bad) ∧
    (∀ gd te vs ρ, lcN gd te vs [] ρ = .ok [] ρ) ∧ (∀ gd te vs x xs ρ, lcN gd te vs (x :: xs) ρ = if noN (wipeE ρ vs) = true then kLN1 (gd x (wipeE ρ vs)) te (lcN gd te vs xs) else .bad) ∧ (∀ ρ te k, kLN1 (some ρ) te k = kLN2 (te ρ) k) ∧ (∀ ds ρ k, kLN2 (.ok ds ρ) k = if noN ρ = true then kLN3 ds (k ρ) else .bad) ∧ (∀ ds r ρ, kLN3 ds (.ok r ρ) = .ok (ds :: r) ρ) ∧
    (∀ n g x r, runStar1 n g (.d x :: r) = if r.all (fun s => !s.own) = true then kStar (runStar.dataOf r) x n g else .bad) ∧ (∀ ds x n g, kStar (some ds) x n g = if ds.length ≤ 100000 then runBody 2 n g [.d x, .d (.tup ds)] else .bad) := by
  refine ⟨fun i f s r ρ => ?_, fun _ _ _ _ _ => rfl, fun _ _ _ => rfl, fun _ _ _ _ => rfl, fun it gd te vs ρ => ?_, fun _ _ _ _ _ => rfl, fun _ _ _ _ => rfl, fun _ _ _ _ => rfl, fun gd te vs x xs ρ => ?_, fun _ _ _ => rfl, fun _ _ _ => rfl, fun _ _ _ => rfl, fun n g x r => ?_, fun _ _ _ _ => rfl⟩
  · unfold sNest2 kNe1; cases f ρ with
    | ok xss ρ1 =>
      dsimp only
      split
      · unfold kNe2; cases s (ρ1.set i (.oo xss)) with
        | ok k ρ2 => cases k <;> rfl
        | _ => rfl
      · rfl
    | _ => rfl
  · unfold eLcN kLN; cases it ρ with
    | ok xs ρ1 => dsimp only; split
                  · unfold kLNE; cases lcN gd te vs xs ρ1 <;> rfl
                  · rfl
    | _ => rfl
  · rw [lcN]; split
    · unfold kLN1; cases gd x (wipeE ρ vs) with
      | none => rfl
      | some ρ1 => dsimp only; unfold kLN2; cases te ρ1 with
        | ok ds ρ2 => dsimp only; split
                      · unfold kLN3; cases lcN gd te vs xs ρ2 <;> rfl
                      · rfl
        | _ => rfl
    · rfl
  · show (if r.all (fun s => !s.own) = true then _ else _) = _
    split
    · unfold kStar; rfl
    · rfl
/-- slots that are neither a list of lists nor one of its lists -/
theorem evn3 : (noOO [] = true) ∧ (∀ x ρ, noOO (.d x :: ρ) = noOO ρ) ∧ (∀ ρ, noOO (.u :: ρ) = noOO ρ) ∧ (∀ x ρ, noOO (.o x :: ρ) = noOO ρ) ∧ (∀ x ρ, noOO (.al x :: ρ) = noOO ρ) ∧
    (noN [] = true) ∧ (∀ x ρ, noN (.d x :: ρ) = noN ρ) ∧ (∀ ρ, noN (.u :: ρ) = noN ρ) ∧ (∀ x ρ, noN (.o x :: ρ) = noN ρ) ∧
    (unN [] = []) ∧ (∀ x ρ, unN (.d x :: ρ) = .d x :: unN ρ) ∧ (∀ ρ, unN (.u :: ρ) = .u :: unN ρ) ∧ (∀ x ρ, unN (.o x :: ρ) = .o x :: unN ρ) ∧ (∀ x ρ, unN (.al x :: ρ) = .u :: unN ρ) ∧ (∀ x ρ, unN (.oo x :: ρ) = .u :: unN ρ) := by
  refine ⟨rfl, fun _ _ => rfl, fun _ => rfl, fun _ _ => rfl, fun _ _ => rfl, rfl, fun _ _ => rfl, fun _ => rfl, fun _ _ => rfl, rfl, fun _ _ => rfl, fun _ => rfl, fun _ _ => rfl, fun _ _ => rfl, fun _ _ => rfl⟩
def Slot.pl : Slot → Bool
  | .u => true
  | .d _ => true
  | _ => false
/-- a name for one of the lists, or nothing -/
def Slot.nm : Slot → Bool
  | .u => true
  | .al _ => true
  | _ => false
theorem pl_rules {s : Slot} (h : s.pl = true) : (∀ ρ, noOO (s :: ρ) = noOO ρ) ∧ (∀ ρ, noN (s :: ρ) = noN ρ) ∧ (∀ ρ, unN (s :: ρ) = s :: unN ρ) ∧ s.shy = false := by
  cases s <;> first | exact ⟨fun _ => rfl, fun _ => rfl, fun _ => rfl, rfl⟩ | cases h
theorem nm_rules {s : Slot} (h : s.nm = true) : (∀ ρ, noOO (s :: ρ) = noOO ρ) ∧ (∀ ρ, unN (s :: ρ) = .u :: unN ρ) := by
  cases s <;> first | exact ⟨fun _ => rfl, fun _ => rfl⟩ | cases h
def kLX (r : Rs (List D)) (gd : D → Env → Option Env) (tt : M Bool) (te : M D) (vs : List Nat) : Rs (List D) := match r with
  | .ok xs ρ => if calmE ρ vs = true then (if xs.length ≤ 100000 then lcXe (lcX gd tt te vs xs ρ) ρ vs else .bad) else .bad
  | .ex e ρ => .ex e ρ
  | .bad => .bad
def kLX3 (r : Rs D) (k : Env → Rs (List D)) : Rs (List D) := match r with
  | .ok d ρ => addR [d] (k ρ)
  | .ex e ρ => .ex e ρ
  | .bad => .bad
def kLX2 (r : Rs Bool) (te : M D) (k : Env → Rs (List D)) : Rs (List D) := match r with
  | .ok b ρ => if b = true then kLX3 (te ρ) k else k ρ
  | _ => .bad
def kLX1 (o : Option Env) (tt : M Bool) (te : M D) (k : Env → Rs (List D)) : Rs (List D) := match o with
  | none => .bad
  | some ρ => kLX2 (tt ρ) te k
/-- comprehensions out of which an error may come -/
theorem evn4 : (∀ it gd tt te vs ρ, eLcX it gd tt te vs ρ = kLX (it ρ) gd tt te vs) ∧ (∀ xs ρ gd tt te vs, kLX (.ok xs ρ) gd tt te vs = if calmE ρ vs = true then (if xs.length ≤ 100000 then lcXe (lcX gd tt te vs xs ρ) ρ vs else .bad) else .bad) ∧ (∀ ds ρ' ρ vs, lcXe (.ok ds ρ') ρ vs = .ok ds (restE ρ ρ' vs)) ∧ (∀ e ρ' ρ vs, lcXe (.ex e ρ') ρ vs = .ex e (restE ρ ρ' vs)) ∧
    (∀ gd tt te vs ρ, lcX gd tt te vs [] ρ = .ok [] ρ) ∧ (∀ gd tt te vs x xs ρ, lcX gd tt te vs (x :: xs) ρ = kLX1 (gd x (wipeE ρ vs)) tt te (lcX gd tt te vs xs)) ∧ (∀ ρ tt te k, kLX1 (some ρ) tt te k = kLX2 (tt ρ) te k) ∧ (∀ b ρ te k, kLX2 (.ok b ρ) te k = if b = true then kLX3 (te ρ) k else k ρ) ∧
    (∀ d ρ k, kLX3 (.ok d ρ) k = addR [d] (k ρ)) ∧ (∀ e ρ k, kLX3 (.ex e ρ) k = .ex e ρ) ∧ (∀ a ds ρ, addR a (.ok ds ρ) = .ok (a ++ ds) ρ) ∧ (∀ a e ρ, addR a (.ex e ρ) = .ex e ρ) := by
  refine ⟨fun it gd tt te vs ρ => ?_, fun _ _ _ _ _ _ => rfl, fun _ _ _ _ => rfl, fun _ _ _ _ => rfl, fun _ _ _ _ _ => rfl, fun gd tt te vs x xs ρ => ?_, fun _ _ _ _ => rfl, fun _ _ _ _ => rfl, fun _ _ _ => rfl, fun _ _ _ => rfl, fun _ _ _ => rfl, fun _ _ _ => rfl⟩
  · unfold eLcX kLX M.bind; cases it ρ <;> rfl
  · rw [lcX]; unfold kLX1 kLX2 kLX3
    cases gd x (wipeE ρ vs) with
    | none => rfl
    | some ρ1 => dsimp only; cases tt ρ1 with
      | ok b ρ2 => cases b with
        | false => rfl
        | true => dsimp only; cases te ρ2 <;> rfl
      | _ => rfl
def evn := And.intro evn1 (And.intro evn2 (And.intro evn3 evn4))
theorem ixN_in {m : Nat} {i : Int} (h0 : 0 ≤ i) (h1 : i < m) : ixN m i = some i.toNat := by
  unfold ixN
  rw [if_pos h0, if_pos h1]
theorem evw : (∀ ρ, wipeE ρ [] = ρ) ∧ (∀ ρ v vs, wipeE ρ (v :: vs) = (wipeE ρ vs).set v .u) ∧ (∀ ρ0 ρ, restE ρ0 ρ [] = ρ) ∧ (∀ ρ0 ρ v vs, restE ρ0 ρ (v :: vs) = (restE ρ0 ρ vs).set v (ρ0.getD v .u)) ∧ (∀ ρ, calmE ρ [] = true) ∧ (∀ ρ v vs, calmE ρ (v :: vs) = (!(ρ.getD v .u).shy && calmE ρ vs)) ∧ (∀ (s : Slot) r x, List.getD (s :: r) 0 x = s) ∧ (∀ (s : Slot) r n x, List.getD (s :: r) (n + 1) x = List.getD r n x) :=
  ⟨fun _ => rfl, fun _ _ _ => rfl, fun _ _ => rfl, fun _ _ _ _ => rfl, fun _ => rfl, fun _ _ _ => rfl, fun _ _ _ => rfl, fun _ _ _ _ => by simp [List.getD]⟩
/-! ### loops over a range of values -/
theorem at_in {α : Type} (xs : List α) {r : Int} (h0 : 0 ≤ r) (h1 : r < (xs.length : Nat)) : ∃ x ∈ xs, atI xs r = some x := by
  have hn : r.toNat < xs.length := by omega
  exact ⟨_, List.getElem_mem hn, atI_of h0 (List.getElem?_eq_getElem hn)⟩

theorem forL_ix {gd : D → Env → Option Env} {body : S} (I : Nat → Env → Prop) (f : Nat → D) (n : Nat) {ρ : Env} (h0 : I 0 ρ) (st : ∀ (k : Nat) (ρ : Env), k < n → I k ρ → ∃ ρ1 ρ2, gd (f k) ρ = some ρ1 ∧ body ρ1 = .ok .nx ρ2 ∧ I (k + 1) ρ2) : ∃ ρ', forL gd body ((List.range n).map f) ρ = .ok .nx ρ' ∧ I n ρ' := by
  have gen : ∀ (m a : Nat) (ρ : Env), a + m = n → I a ρ → ∃ ρ', forL gd body ((List.range' a m).map f) ρ = .ok .nx ρ' ∧ I n ρ' := fun m => by
    induction m with
    | zero => intro a ρ e h; exact ⟨ρ, rfl, by rw [← e]; exact h⟩
    | succ m ih =>
      intro a ρ e h
      obtain ⟨ρ1, ρ2, h1, h2, h3⟩ := st a ρ (by omega) h
      obtain ⟨ρ', h4, h5⟩ := ih (a + 1) ρ2 (by omega) h3
      exact ⟨ρ', by rw [List.range'_succ, List.map_cons, forL_rec h1 h2, h4], h5⟩
  rw [List.range_eq_range']
  exact gen n 0 ρ (Nat.zero_add n) h0
/-- a comprehension over such -/
theorem lcL_map {α : Type} {gd : D → Env → Option Env} {te : M D} {vs : List Nat} (I : Env → Prop) (f g : α → D) : ∀ (xs : List α) (ρ : Env), I ρ → (∀ x ρ, x ∈ xs → I ρ → ∃ ρ1 ρ3, gd (f x) (wipeE ρ vs) = some ρ1 ∧ te ρ1 = .ok (g x) ρ3 ∧ I ρ3) → ∃ ρ', lcL gd (M.pure true) te vs (xs.map f) ρ = .ok (xs.map g) ρ' ∧ I ρ'
  | [], ρ, h, _ => ⟨ρ, rfl, h⟩
  | x :: xs, ρ, h, st => by
    obtain ⟨ρ1, ρ3, h1, h2, h3⟩ := st x ρ List.mem_cons_self h
    obtain ⟨ρ', h4, h5⟩ := lcL_map I f g xs ρ3 h3 fun y ρ hy => st y ρ (List.mem_cons_of_mem _ hy)
    refine ⟨ρ', ?_, h5⟩
    simp only [List.map_cons, evl, h1, h2, h4, ev, ↓reduceIte]
theorem at_map {α : Type} (f : Nat → α) {n k : Nat} (h : k < n) : atI ((List.range n).map f) (k : Nat) = some (f k) := by
  rw [atI_nat, List.getElem?_map, List.getElem?_range h]; rfl
theorem len_map {α : Type} (f : Nat → α) (n : Nat) : ((List.range n).map f).length = n := by rw [List.length_map, List.length_range]
theorem rng_int {i : Int} (h0 : 0 ≤ i) (h1 : i ≤ 100000) : rng1D [.int i] = some ((List.range i.toNat).map fun k => .int (k : Nat)) := if_pos ⟨by omega, by omega⟩
theorem rng_nat {n : Nat} (h : n ≤ 100000) : rng1D [.int (n : Nat)] = some ((List.range n).map fun k => .int (k : Nat)) := by
  rw [rng_int (i := (n : Nat)) (by omega) (by omega), Int.toNat_natCast]
theorem numbered_map (f : Nat → D) (n : Nat) : numbered ((List.range n).map f) = (List.range n).map fun k => .tup [.int (k : Nat), f k] := by
  unfold numbered
  rw [len_map]
  apply List.map_congr_left
  intro k hk
  have hk := List.mem_range.mp hk
  rw [List.getD, List.getElem?_map, List.getElem?_range hk]; rfl
/-! ### parts of lists; short ranges -/
theorem cut_sub (xs : List D) (lo hi : Option Int) : (cutD xs lo hi).Sublist xs := (List.take_sublist _ _).trans (List.drop_sublist _ _)
theorem cut_map {α : Type} (g : α → D) (xs : List α) (lo hi : Option Int) : ∃ ys : List α, ys.Sublist xs ∧ cutD (xs.map g) lo hi = ys.map g := by
  unfold cutD
  exact ⟨_, (List.take_sublist _ _).trans (List.drop_sublist _ _), by rw [← List.map_drop, ← List.map_take]⟩
theorem sx_hi (n d : Nat) (h : Int) (h0 : 0 ≤ h) : HT.sIx n d (some h) = min h.toNat n := by
  show (if h < 0 then _ else _) = _
  rw [if_neg (by omega)]
theorem cut_len (xs : List D) (h : Int) (h0 : 0 ≤ h) : (cutD xs none (some h)).length ≤ h.toNat := by
  unfold cutD
  rw [List.length_take, sx_hi _ _ _ h0]
  omega
theorem slt : (∀ xs lo hi, slD (.tup xs) lo hi = some (.tup (cutD xs lo hi))) ∧ (∀ xs lo hi, slD (.lst xs) lo hi = some (.lst (cutD xs lo hi))) := ⟨fun _ _ _ => rfl, fun _ _ _ => rfl⟩
theorem rngs : rng1D [.int 1] = some [.int 0] ∧ rng1D [.int 2] = some [.int 0, .int 1] ∧ rng1D [.int 3] = some [.int 0, .int 1, .int 2] ∧ rng1D [.int 4] = some [.int 0, .int 1, .int 2, .int 3] ∧ rng1D [.int 5] = some [.int 0, .int 1, .int 2, .int 3, .int 4] ∧ rng1D [.int 6] = some [.int 0, .int 1, .int 2, .int 3, .int 4, .int 5] ∧
    rng1D [.int 7] = some [.int 0, .int 1, .int 2, .int 3, .int 4, .int 5, .int 6] ∧ rng1D [.int 8] = some [.int 0, .int 1, .int 2, .int 3, .int 4, .int 5, .int 6, .int 7] := ⟨rfl, rfl, rfl, rfl, rfl, rfl, rfl, rfl⟩
end Pl
/-! Grades, tables of grades, their products and pumped tables. -/
namespace Pl
inductive Gr | none | dear | paid | free | restart
deriving DecidableEq, Repr
namespace Gr
def lvl : Gr → Nat | none => 0 | dear => 1 | paid => 2 | free => 3 | restart => 4
def ser : Gr → Nat | free => 0 | paid => 1 | restart => 2 | dear => 3 | none => 4
def add (a b : Gr) : Gr := if a.lvl < b.lvl then b else a
def mul (a b : Gr) : Gr := if a.ser < b.ser then b else a
/-- what a place in the middle becomes -/
def low : Gr → Gr | paid => dear | a => a
theorem add_comm (a b : Gr) : a.add b = b.add a := by cases a <;> cases b <;> rfl
theorem add_assoc (a b c : Gr) : (a.add b).add c = a.add (b.add c) := by cases a <;> cases b <;> cases c <;> rfl
theorem mul_assoc (a b c : Gr) : (a.mul b).mul c = a.mul (b.mul c) := by cases a <;> cases b <;> cases c <;> rfl
theorem mul_add (a b c : Gr) : a.mul (b.add c) = (a.mul b).add (a.mul c) := by cases a <;> cases b <;> cases c <;> rfl
theorem add_mul (a b c : Gr) : (a.add b).mul c = (a.mul c).add (b.mul c) := by cases a <;> cases b <;> cases c <;> rfl
theorem none_add (a : Gr) : none.add a = a := by cases a <;> rfl
theorem none_mul (a : Gr) : none.mul a = none := by cases a <;> rfl
theorem mul_none (a : Gr) : a.mul none = none := by cases a <;> rfl
theorem free_mul (a : Gr) : free.mul a = a := by cases a <;> rfl
theorem mul_free (a : Gr) : a.mul free = a := by cases a <;> rfl
theorem low_mid (a : Gr) : (a.low.mul a).mul a.low = a.low := by cases a <;> rfl
theorem lvl_inj {a b : Gr} (h : a.lvl = b.lvl) : a = b := by revert h; cases a <;> cases b <;> first | exact fun _ => rfl | exact fun h => by cases h
theorem lvl_add (a b : Gr) : (a.add b).lvl = max a.lvl b.lvl := by cases a <;> cases b <;> rfl
/-- no better than -/
def le (a b : Gr) : Prop := a.lvl ≤ b.lvl
instance (a b : Gr) : Decidable (a.le b) := inferInstanceAs (Decidable (a.lvl ≤ b.lvl))
theorem le_refl (a : Gr) : a.le a := Nat.le_refl _
theorem le_trans {a b c : Gr} (h : a.le b) (k : b.le c) : a.le c := Nat.le_trans h k
theorem le_antisymm {a b : Gr} (h : a.le b) (k : b.le a) : a = b := lvl_inj (Nat.le_antisymm h k)
theorem none_le (a : Gr) : none.le a := Nat.zero_le _
theorem mul_le {a b c d : Gr} (h : a.le b) (k : c.le d) : (a.mul c).le (b.mul d) := by
  revert h k
  unfold le
  cases a <;> cases b <;> cases c <;> cases d <;> decide
theorem low_le (a : Gr) : a.low.le a := by cases a <;> decide
theorem low_mono {a b : Gr} (h : a.le b) : a.low.le b.low := by revert h; unfold le; cases a <;> cases b <;> decide
/-- the choice of so many -/
def sum : Nat → (Nat → Gr) → Gr
  | 0, _ => none
  | n + 1, f => (sum n f).add (f n)
theorem sum_le {f : Nat → Gr} {c : Gr} : ∀ {n : Nat}, (∀ k, k < n → (f k).le c) → (sum n f).le c
  | 0, _ => none_le c
  | n + 1, h => by
    have a := sum_le (n := n) fun k hk => h k (by omega)
    have b := h n (by omega)
    unfold le at *
    show ((sum n f).add (f n)).lvl ≤ _
    rw [lvl_add]; omega
theorem le_sum {f : Nat → Gr} : ∀ {n k : Nat}, k < n → (f k).le (sum n f)
  | n + 1, k, h => by
    show (f k).lvl ≤ ((sum n f).add (f n)).lvl
    rw [lvl_add]
    by_cases e : k = n
    · subst e; omega
    · have := le_sum (f := f) (n := n) (k := k) (by omega)
      unfold le at this; omega
theorem sum_get {f : Nat → Gr} : ∀ {n : Nat}, sum n f ≠ none → ∃ k, k < n ∧ f k = sum n f
  | 0, h => absurd rfl h
  | n + 1, h => by
    by_cases e : sum (n + 1) f = f n
    · exact ⟨n, by omega, e.symm⟩
    · have e2 : sum (n + 1) f = sum n f := by
        show (sum n f).add (f n) = sum n f
        have e : (sum n f).add (f n) ≠ f n := e
        revert e
        cases sum n f <;> cases f n <;> decide
      rw [e2] at h ⊢
      obtain ⟨k, hk, e3⟩ := sum_get h
      exact ⟨k, by omega, e3⟩
theorem sum_eq {f g : Nat → Gr} {n : Nat} (h : ∀ k, k < n → f k = g k) : sum n f = sum n g := by
  induction n with
  | zero => rfl
  | succ n ih =>
    show (sum n f).add (f n) = (sum n g).add (g n)
    rw [ih fun k hk => h k (by omega), h n (by omega)]
/-- a product's terms are below -/
theorem mul_sum_le {a c : Gr} {f : Nat → Gr} : ∀ {n : Nat}, (∀ k, k < n → (a.mul (f k)).le c) → (a.mul (sum n f)).le c := fun {n} h => by
  by_cases e : sum n f = none
  · rw [e, mul_none]; exact none_le c
  · obtain ⟨k, hk, e⟩ := sum_get e
    rw [← e]; exact h k hk
theorem sum_mul_le {a c : Gr} {f : Nat → Gr} : ∀ {n : Nat}, (∀ k, k < n → ((f k).mul a).le c) → ((sum n f).mul a).le c := fun {n} h => by
  by_cases e : sum n f = none
  · rw [e, none_mul]; exact none_le c
  · obtain ⟨k, hk, e⟩ := sum_get e
    rw [← e]; exact h k hk
/-! ### tables -/
abbrev Tb := Nat → Nat → Gr
def times (n : Nat) (s t : Tb) : Tb := fun i j => sum n fun k => (s i k).mul (t k j)
/-- entry by entry, with the places in the middle -/
def pump (n : Nat) (t : Tb) : Tb := fun i j => sum n fun k => ((t i k).mul (t k k).low).mul (t k j)
def Same (n : Nat) (s t : Tb) : Prop := ∀ i j, i < n → j < n → s i j = t i j
def Idem (n : Nat) (t : Tb) : Prop := Same n (times n t t) t
theorem times_assoc (n : Nat) (s t u : Tb) (i j : Nat) : times n (times n s t) u i j = times n s (times n t u) i j := le_antisymm
  (sum_le fun k hk => sum_mul_le fun l hl => by
    rw [mul_assoc]
    exact le_trans (mul_le (le_refl _) (le_sum (f := fun k => (t l k).mul (u k j)) hk)) (le_sum (f := fun l => (s i l).mul (times n t u l j)) hl))
  (sum_le fun l hl => mul_sum_le fun k hk => by
    rw [← mul_assoc]
    exact le_trans (mul_le (le_sum (f := fun l => (s i l).mul (t l k)) hl) (le_refl _)) (le_sum (f := fun k => (times n s t i k).mul (u k j)) hk))
theorem same_refl (n : Nat) (s : Tb) : Same n s s := fun _ _ _ _ => rfl
theorem times_congr {n : Nat} {s s' t t' : Tb} (h : Same n s s') (k : Same n t t') : Same n (times n s t) (times n s' t') := fun i j hi hj => sum_eq fun l hl => by rw [h i l hi hl, k l j hl hj]
theorem pigeon : ∀ (n : Nat) (f : Nat → Nat), (∀ m, m ≤ n → f m < n) → ∃ a b, a < b ∧ b ≤ n ∧ f a = f b
  | 0, f, h => absurd (h 0 (Nat.le_refl _)) (Nat.not_lt_zero _)
  | n + 1, f, h => by
    by_cases q : ∃ a, a ≤ n ∧ f a = f (n + 1)
    · obtain ⟨a, ha, e⟩ := q
      exact ⟨a, n + 1, by omega, by omega, e⟩
    · have ne : ∀ a, a ≤ n → f a ≠ f (n + 1) := fun a ha e => q ⟨a, ha, e⟩
      have top := h (n + 1) (Nat.le_refl _)
      obtain ⟨a, b, ab, bn, e⟩ := pigeon n (fun m => if f m > f (n + 1) then f m - 1 else f m) fun m hm => by
        have := ne m hm
        have := h m (by omega)
        show (if f m > f (n + 1) then f m - 1 else f m) < n
        split <;> omega
      refine ⟨a, b, ab, by omega, ?_⟩
      have na := ne a (by omega)
      have nb := ne b (by omega)
      have e : (if f a > f (n + 1) then f a - 1 else f a) = (if f b > f (n + 1) then f b - 1 else f b) := e
      split at e <;> split at e <;> omega
section
variable {n : Nat} {e : Tb} (I : Idem n e)
include I
theorem idem_le {i k j : Nat} (hi : i < n) (hk : k < n) (hj : j < n) : ((e i k).mul (e k j)).le (e i j) := by
  rw [← I i j hi hj]
  exact le_sum (f := fun k => (e i k).mul (e k j)) hk
theorem idem_le3 {i k l j : Nat} (hi : i < n) (hk : k < n) (hl : l < n) (hj : j < n) : (((e i k).mul (e k l)).mul (e l j)).le (e i j) :=
  le_trans (mul_le (idem_le I hi hk hl) (le_refl _)) (idem_le I hi hl hj)
/-- each entry of an idempotent table is that of some way through a loop -/
theorem loop {i j : Nat} (hi : i < n) (hj : j < n) (ne : e i j ≠ none) : ∃ k, k < n ∧ (e i j).le (((e i k).mul (e k k)).mul (e k j)) := by
  -- from each place with a way to j, the next one
  have next : ∀ x, ∃ y, (x < n → e x j ≠ none → y < n ∧ e x j = (e x y).mul (e y j)) := fun x => by
    by_cases hx : x < n
    · by_cases hne : e x j ≠ none
      · have h := I x j hx hj
        obtain ⟨y, hy, q⟩ := sum_get (f := fun k => (e x k).mul (e k j)) (n := n) (by rw [show sum n (fun k => (e x k).mul (e k j)) = e x j from h]; exact hne)
        exact ⟨y, fun _ _ => ⟨hy, by rw [← h]; exact q.symm⟩⟩
      · exact ⟨0, fun _ h => absurd h hne⟩
    · exact ⟨0, fun h => absurd h hx⟩
  obtain ⟨nx, hnx⟩ : ∃ nx : Nat → Nat, ∀ x, x < n → e x j ≠ none → nx x < n ∧ e x j = (e x (nx x)).mul (e (nx x) j) := ⟨fun x => Classical.choose (next x), fun x => Classical.choose_spec (next x)⟩
  let xs : Nat → Nat := fun m => Nat.rec i (fun _ x => nx x) m
  have xs1 : ∀ m, xs (m + 1) = nx (xs m) := fun m => rfl
  have ok : ∀ m, xs m < n ∧ e (xs m) j ≠ none := fun m => by
    induction m with
    | zero => exact ⟨hi, ne⟩
    | succ m ih =>
      obtain ⟨a, b⟩ := hnx (xs m) ih.1 ih.2
      rw [xs1]
      refine ⟨a, fun h => ih.2 ?_⟩
      rw [b, h, mul_none]
  have st : ∀ m, e (xs m) j = (e (xs m) (xs (m + 1))).mul (e (xs (m + 1)) j) := fun m => (hnx (xs m) (ok m).1 (ok m).2).2
  -- a way of several steps is no better than the entry
  have way : ∀ d m, (e (xs m) j).le ((e (xs m) (xs (m + d + 1))).mul (e (xs (m + d + 1)) j)) := fun d => by
    induction d with
    | zero => intro m; rw [Nat.add_zero, ← st m]; exact le_refl _
    | succ d ih =>
      intro m
      have q := ih m
      rw [st (m + d + 1), ← mul_assoc] at q
      refine le_trans q (mul_le (idem_le I (ok m).1 (ok (m + d + 1)).1 (ok (m + d + 1 + 1)).1) (le_refl _))
  obtain ⟨a, b, ab, bn, eq⟩ := pigeon n (fun m => xs (m + 1)) fun m _ => (ok (m + 1)).1
  have eq : xs (a + 1) = xs (b + 1) := eq
  refine ⟨xs (a + 1), (ok (a + 1)).1, ?_⟩
  have w1 := way a 0
  rw [Nat.zero_add] at w1
  have w2 := way (b - a - 1) (a + 1)
  rw [show a + 1 + (b - a - 1) + 1 = b + 1 by omega, ← eq] at w2
  refine le_trans w1 (le_trans (mul_le (le_refl _) w2) ?_)
  rw [← mul_assoc]; exact le_refl _
theorem pump_le {i j : Nat} (hi : i < n) (hj : j < n) : (pump n e i j).le (e i j) :=
  sum_le fun k hk => le_trans (mul_le (mul_le (le_refl _) (low_le _)) (le_refl _)) (idem_le3 I hi hk hk hj)
theorem le_pump {i k j : Nat} (hk : k < n) : (((e i k).mul (e k k).low).mul (e k j)).le (pump n e i j) := le_sum (f := fun k => ((e i k).mul (e k k).low).mul (e k j)) hk
/-- e p = p -/
theorem front : Same n (times n e (pump n e)) (pump n e) := fun i j hi hj => by
  refine le_antisymm (sum_le fun k hk => ?_) (sum_le fun l hl => ?_)
  · refine mul_sum_le fun l hl => ?_
    rw [← mul_assoc, ← mul_assoc]
    exact le_trans (mul_le (mul_le (idem_le I hi hk hl) (le_refl _)) (le_refl _)) (le_pump I hl)
  · show (((e i l).mul (e l l).low).mul (e l j)).le _
    rw [← I i l hi hl]
    show (((sum n fun k => (e i k).mul (e k l)).mul (e l l).low).mul (e l j)).le _
    rw [mul_assoc]
    refine sum_mul_le fun k hk => ?_
    rw [mul_assoc, ← mul_assoc (e k l)]
    exact le_trans (mul_le (le_refl _) (le_pump I hl)) (le_sum (f := fun k => (e i k).mul (pump n e k j)) hk)
/-- p e = p -/
theorem back : Same n (times n (pump n e) e) (pump n e) := fun i j hi hj => by
  refine le_antisymm (sum_le fun k hk => ?_) (sum_le fun l hl => ?_)
  · refine sum_mul_le fun l hl => ?_
    rw [mul_assoc]
    exact le_trans (mul_le (le_refl _) (idem_le I hl hk hj)) (le_pump I hl)
  · show (((e i l).mul (e l l).low).mul (e l j)).le _
    rw [← I l j hl hj]
    refine mul_sum_le fun k hk => ?_
    rw [← mul_assoc]
    exact le_trans (mul_le (le_pump I hl) (le_refl _)) (le_sum (f := fun k => (pump n e i k).mul (e k j)) hk)
/-- p p = p -/
theorem pump_idem : Idem n (pump n e) := fun i j hi hj => by
  refine le_antisymm (sum_le fun k hk => ?_) (sum_le fun l hl => ?_)
  · refine le_trans (mul_le (le_refl _) (pump_le I hk hj)) ?_
    rw [← back I i j hi hj]
    exact le_sum (f := fun k => (pump n e i k).mul (e k j)) hk
  · have a : ((e i l).mul (e l l).low).le (pump n e i l) := by
      refine le_trans ?_ (le_pump I (i := i) (j := l) hl)
      rw [mul_assoc]
      refine mul_le (le_refl _) ?_
      cases e l l <;> decide
    have b : ((e l l).low.mul (e l j)).le (pump n e l j) := by
      refine le_trans ?_ (le_pump I (i := l) (j := j) hl)
      refine mul_le ?_ (le_refl _)
      cases e l l <;> decide
    refine le_trans ?_ (le_trans (mul_le a b) (le_sum (f := fun k => (pump n e i k).mul (pump n e k j)) hl))
    show (((e i l).mul (e l l).low).mul (e l j)).le (((e i l).mul (e l l).low).mul ((e l l).low.mul (e l j)))
    rw [← mul_assoc, mul_assoc (e i l) _ (e l l).low, show (e l l).low.mul (e l l).low = (e l l).low by cases e l l <;> rfl]
    exact le_refl _
/-- pumped once, pumped for good -/
theorem pump_pump : Same n (pump n (pump n e)) (pump n e) := fun i j hi hj => by
  have I2 := pump_idem I
  refine le_antisymm (pump_le I2 hi hj) (sum_le fun l hl => ?_)
  refine le_trans ?_ (le_pump I2 (i := i) (j := j) hl)
  have a : ((e i l).mul (e l l).low).le (pump n e i l) := by
    refine le_trans ?_ (le_pump I (i := i) (j := l) hl)
    rw [mul_assoc]
    refine mul_le (le_refl _) ?_
    cases e l l <;> decide
  have b : ((e l l).low.mul (e l j)).le (pump n e l j) := by
    refine le_trans ?_ (le_pump I (i := l) (j := j) hl)
    refine mul_le ?_ (le_refl _)
    cases e l l <;> decide
  have c : (e l l).low.le (pump n e l l) := by
    refine le_trans ?_ (le_pump I (i := l) (j := l) hl)
    cases e l l <;> decide
  have c2 : (e l l).low.le (pump n e l l).low := by
    refine le_trans ?_ (low_mono c)
    cases e l l <;> decide
  refine le_trans ?_ (mul_le (mul_le a c2) b)
  cases e i l <;> cases e l l <;> cases e l j <;> decide
/-- only what is paid or a restart changes -/
theorem pump_keeps {i j : Nat} (hi : i < n) (hj : j < n) (h1 : e i j ≠ paid) (h2 : e i j ≠ restart) : pump n e i j = e i j := by
  refine le_antisymm (pump_le I hi hj) ?_
  by_cases ne : e i j = none
  · rw [ne]; exact none_le _
  obtain ⟨k, hk, q⟩ := loop I hi hj ne
  refine le_trans ?_ (le_pump I (i := i) (j := j) hk)
  have q2 := idem_le3 I hi hk hk hj
  revert h1 h2 ne q q2
  unfold le
  cases e i j <;> cases e i k <;> cases e k k <;> cases e k j <;> decide
/-- without a paid loop nothing changes -/
theorem pump_same (h : ∀ k, k < n → e k k ≠ paid) : Same n (pump n e) e := fun i j hi hj => by
  refine le_antisymm (pump_le I hi hj) ?_
  by_cases ne : e i j = none
  · rw [ne]; exact none_le _
  obtain ⟨k, hk, q⟩ := loop I hi hj ne
  refine le_trans q (le_trans ?_ (le_pump I (i := i) (j := j) hk))
  have := h k hk
  rw [show (e k k).low = e k k by revert this; cases e k k <;> decide]
  exact le_refl _
end
end Gr
end Pl
/-! Rows of grades in one number. -/
namespace Pl
namespace Gr
def code : Gr → Nat | none => 0 | dear => 1 | paid => 257 | free => 65793 | restart => 16843009
def pk : List Gr → Nat
  | [] => 0
  | g :: gs => (pk gs) * 2 ||| code g
abbrev AL : Nat := 16843009
theorem code_bit (g : Gr) (p : Nat) : (code g).testBit p = (decide (p < 32) && decide (p % 8 = 0) && decide (p / 8 + 1 ≤ g.lvl)) := by
  by_cases h : p < 32
  · revert h p
    cases g <;> decide +kernel
  · have : (code g).testBit p = false := Nat.testBit_lt_two_pow (Nat.lt_of_lt_of_le (by cases g <;> decide) (Nat.pow_le_pow_right (by decide) (Nat.le_of_not_lt h)))
    rw [this]
    simp [h]
theorem AL_bit (p : Nat) : AL.testBit p = (decide (p < 32) && decide (p % 8 = 0)) := by
  have := code_bit restart p
  show (code restart).testBit p = _
  rw [this]
  by_cases h : p < 32
  · have : p / 8 + 1 ≤ 4 := by omega
    simp [h, lvl, this]
  · simp [h]
theorem two_bit (x p : Nat) : (x * 2).testBit p = (decide (1 ≤ p) && x.testBit (p - 1)) := by
  have := Nat.testBit_mul_two_pow x p 1
  rw [Nat.pow_one] at this
  rw [Nat.mul_comm] at *
  first | exact this | (rw [this])
/-- the bits of a row -/
theorem pk_bit : ∀ (gs : List Gr), gs.length ≤ 8 → ∀ p, (pk gs).testBit p = (decide (p < 32) && decide (p / 8 + 1 ≤ (gs.getD (p % 8) none).lvl))
  | [], _, p => by
    show Nat.testBit 0 p = _
    rw [Nat.zero_testBit]
    simp [lvl]
  | g :: gs, l, p => by
    have l : gs.length + 1 ≤ 8 := l
    show (pk gs * 2 ||| code g).testBit p = _
    rw [Nat.testBit_or, two_bit, code_bit, pk_bit gs (by omega)]
    by_cases h0 : p % 8 = 0
    · rw [h0]
      by_cases h1 : 1 ≤ p
      · have e : (p - 1) % 8 = 7 := by omega
        have e2 : gs.getD 7 none = none := by
          rw [List.getD, List.getElem?_eq_none (by omega)]; rfl
        rw [e, e2]
        have : decide ((p - 1) / 8 + 1 ≤ lvl none) = false := decide_eq_false (by show ¬ _ ≤ 0; omega)
        rw [this]
        simp
      · have : p = 0 := by omega
        subst this
        simp
    · obtain ⟨q, hq⟩ : ∃ q, p % 8 = q + 1 := ⟨p % 8 - 1, by omega⟩
      have e : (p - 1) % 8 = q := by omega
      have e1 : (p - 1) / 8 = p / 8 := by omega
      have e3 : (p - 1 < 32) ↔ (p < 32) := by omega
      have e4 : 1 ≤ p := by omega
      rw [hq, e, e1]
      simp [e3, e4]
theorem getD_lt {gs : List Gr} {j : Nat} (h : gs.length ≤ j) : gs.getD j none = none := by rw [List.getD, List.getElem?_eq_none h]; rfl
theorem pk_lt (gs : List Gr) (l : gs.length ≤ 8) : pk gs < 2 ^ 32 := Nat.lt_pow_two_of_testBit _ fun p hp => by
  rw [pk_bit gs l]; simp; omega
/-- a grade of a row -/
theorem pk_at (gs : List Gr) (l : gs.length ≤ 8) {j : Nat} (hj : j < 8) : pk gs / 2 ^ j &&& AL = code (gs.getD j none) := Nat.eq_of_testBit_eq fun p => by
  rw [Nat.testBit_and, AL_bit, Nat.testBit_div_two_pow, pk_bit gs l, code_bit]
  by_cases h0 : p % 8 = 0
  · by_cases h : p < 32
    · have e : (p + j) % 8 = j := by omega
      have e1 : (p + j) / 8 = p / 8 := by omega
      have e2 : p + j < 32 := by omega
      simp only [e, e1, e2, h, h0, decide_true, Bool.true_and, Bool.and_true]
    · simp [h]
  · simp [h0]
theorem pk_inj {gs hs : List Gr} (l : gs.length ≤ 8) (e : hs.length = gs.length) (h : pk gs = pk hs) : gs = hs := by
  apply List.ext_getElem e.symm
  intro j h1 h2
  have a := pk_at gs l (j := j) (by omega)
  have b := pk_at hs (by omega) (j := j) (by omega)
  rw [h, b] at a
  rw [show gs.getD j none = gs[j] by rw [List.getD, List.getElem?_eq_getElem h1]; rfl, show hs.getD j none = hs[j] by rw [List.getD, List.getElem?_eq_getElem h2]; rfl] at a
  revert a
  cases gs[j] <;> cases hs[j] <;> first | exact fun _ => rfl | exact fun h => by cases h
/-- what a grade makes of the row behind it -/
def put : Gr → Nat → Nat
  | none, _ => 0
  | dear, b => b &&& 255
  | paid, b => b &&& 4278255615 ||| b / 256 &&& 16711680
  | free, b => b
  | restart, b => b &&& 255 ||| (b / 256 &&& 255) * 16843008
theorem mask_bit (m : Nat) (q : Nat → Bool) (hm : m < 2 ^ 32) (h : ∀ p, p < 32 → m.testBit p = q p) (p : Nat) : m.testBit p = (decide (p < 32) && q p) := by
  by_cases l : p < 32
  · rw [h p l]; simp [l]
  · rw [Nat.testBit_lt_two_pow (Nat.lt_of_lt_of_le hm (Nat.pow_le_pow_right (by decide) (Nat.le_of_not_lt l)))]
    simp [l]
theorem m255 (p : Nat) : Nat.testBit 255 p = (decide (p < 32) && decide (p / 8 = 0)) := mask_bit 255 (fun p => decide (p / 8 = 0)) (by decide) (by decide +kernel) p
theorem mFF00 (p : Nat) : Nat.testBit 4278255615 p = (decide (p < 32) && decide (p / 8 ≠ 2)) := mask_bit 4278255615 (fun p => decide (p / 8 ≠ 2)) (by decide) (by decide +kernel) p
theorem mFF0 (p : Nat) : Nat.testBit 16711680 p = (decide (p < 32) && decide (p / 8 = 2)) := mask_bit 16711680 (fun p => decide (p / 8 = 2)) (by decide) (by decide +kernel) p
theorem three : ∀ x, x < 256 → ∀ p, p < 32 → (x * 16843008).testBit p = (decide (1 ≤ p / 8) && x.testBit (p % 8)) := by decide +kernel
theorem div_bit (b p : Nat) : (b / 256).testBit p = b.testBit (p + 8) := by
  have := Nat.testBit_div_two_pow (n := 8) b p
  exact this
/-- the bits of so many rows' choice -/
theorem put_bit (g : Gr) (h : List Gr) (l : h.length ≤ 8) (p : Nat) : (put g (pk h)).testBit p = (decide (p < 32) && decide (p / 8 + 1 ≤ (g.mul (h.getD (p % 8) none)).lvl)) := by
  by_cases hp : p < 32
  · have pb := pk_bit h l
    have c : p / 8 = 0 ∨ p / 8 = 1 ∨ p / 8 = 2 ∨ p / 8 = 3 := by omega
    have e8 : (p + 8) % 8 = p % 8 := by omega
    have e8d : (p + 8) / 8 = p / 8 + 1 := by omega
    cases g with
    | none => rw [none_mul]; show Nat.testBit 0 p = _; rw [Nat.zero_testBit]; simp [lvl]
    | free => rw [free_mul]; exact pb p
    | dear =>
      show (pk h &&& 255).testBit p = _
      rw [Nat.testBit_and, m255, pb]
      simp only [hp, decide_true, Bool.true_and]
      generalize h.getD (p % 8) none = x
      rcases c with c | c | c | c <;> rw [c] <;> cases x <;> rfl
    | paid =>
      show (pk h &&& 4278255615 ||| pk h / 256 &&& 16711680).testBit p = _
      rw [Nat.testBit_or, Nat.testBit_and, Nat.testBit_and, mFF00, mFF0, div_bit, pb, pb, e8, e8d]
      generalize h.getD (p % 8) none = x
      by_cases h24 : p + 8 < 32
      · simp only [hp, h24, decide_true, Bool.true_and]
        rcases c with c | c | c | c <;> rw [c] <;> cases x <;> rfl
      · have c : p / 8 = 3 := by omega
        simp only [hp, h24, decide_true, decide_false, Bool.true_and, Bool.false_and, c]
        cases x <;> rfl
    | restart =>
      show (pk h &&& 255 ||| (pk h / 256 &&& 255) * 16843008).testBit p = _
      rw [Nat.testBit_or, Nat.testBit_and, m255, three _ (Nat.lt_of_le_of_lt Nat.and_le_right (by decide)) p hp, Nat.testBit_and, m255, div_bit, pb, pb, show (p % 8 + 8) % 8 = p % 8 by omega, show (p % 8 + 8) / 8 = 1 by omega]
      have q1 : p % 8 + 8 < 32 := by omega
      have q2 : p % 8 < 32 := by omega
      have q3 : p % 8 / 8 = 0 := by omega
      generalize h.getD (p % 8) none = x
      simp only [hp, q1, q2, q3, decide_true, Bool.true_and]
      rcases c with c | c | c | c <;> rw [c] <;> cases x <;> rfl
  · have big : ∀ x, x < 2 ^ 32 → x.testBit p = false := fun x hx => Nat.testBit_lt_two_pow (Nat.lt_of_lt_of_le hx (Nat.pow_le_pow_right (by decide) (Nat.le_of_not_lt hp)))
    have lt := pk_lt h l
    have : put g (pk h) < 2 ^ 32 := by
      cases g with
      | none => show 0 < 2 ^ 32; decide
      | free => exact lt
      | dear => exact Nat.lt_of_le_of_lt Nat.and_le_left lt
      | paid => exact Nat.or_lt_two_pow (Nat.lt_of_le_of_lt Nat.and_le_left lt) (Nat.lt_of_le_of_lt Nat.and_le_right (by decide))
      | restart =>
        refine Nat.or_lt_two_pow (Nat.lt_of_le_of_lt Nat.and_le_left lt) ?_
        have : pk h / 256 &&& 255 ≤ 255 := Nat.and_le_right
        omega
    rw [big _ this]
    simp [hp]
/-- the row of a product, as it is found -/
def found (n : Nat) (a : Nat → Gr) (t : Tb) : Nat → List Gr := fun k => (List.range n).map fun j => sum k fun l => (a l).mul (t l j)
theorem row_get (n : Nat) (f : Nat → Gr) (j : Nat) : ((List.range n).map f).getD j none = if j < n then f j else none := by
  rw [List.getD, List.getElem?_map]
  by_cases h : j < n
  · rw [List.getElem?_range h]; simp [h]
  · rw [List.getElem?_eq_none (by rw [List.length_range]; omega)]; simp [h]
theorem found_step (n : Nat) (hn : n ≤ 8) (a : Nat → Gr) (t : Tb) (k : Nat) : pk (found n a t k) ||| put (a k) (pk ((List.range n).map (t k))) = pk (found n a t (k + 1)) := Nat.eq_of_testBit_eq fun p => by
  have len : ∀ f : Nat → Gr, ((List.range n).map f).length ≤ 8 := fun f => by rw [List.length_map, List.length_range]; exact hn
  rw [Nat.testBit_or, put_bit _ _ (len _)]
  unfold found
  rw [pk_bit _ (len _), pk_bit _ (len _), row_get, row_get, row_get]
  by_cases hp : p < 32
  · by_cases hj : p % 8 < n
    · simp only [hp, hj, if_pos, decide_true, Bool.true_and]
      show _ = decide (p / 8 + 1 ≤ ((sum k fun l => (a l).mul (t l (p % 8))).add ((a k).mul (t k (p % 8)))).lvl)
      rw [lvl_add]
      rw [← Bool.decide_or]
      congr 1
      apply propext
      omega
    · simp only [hp, hj, if_neg, not_false_eq_true, decide_true, Bool.true_and, mul_none, Bool.or_self]
  · simp [hp]
theorem found_zero (n : Nat) (a : Nat → Gr) (t : Tb) : pk (found n a t 0) = 0 := by
  unfold found
  show pk ((List.range n).map fun _ => none) = 0
  induction List.range n with
  | nil => rfl
  | cons x xs ih =>
    show pk (xs.map fun _ => none) * 2 ||| 0 = 0
    rw [ih]; rfl
end Gr
end Pl
/-! Tables of grades as data. -/
namespace Pl
open PySem PySem.Spec PyProof.Rows L2
theorem map0 {α : Type} (f : Nat → α) : (List.range 0).map f = [] := rfl
theorem map1 {α : Type} (f : Nat → α) (k : Nat) : (List.range (k + 1)).map f = (List.range k).map f ++ [f k] := by rw [List.range_succ, List.map_append]; rfl
def nmG : Gr → Str
  | .none => Str.ofString "none" | .dear => Str.ofString "dear" | .paid => Str.ofString "paid" | .free => Str.ofString "free" | .restart => Str.ofString "restart"
def gD (g : Gr) : D := .str (nmG g)
def rowD (n : Nat) (f : Nat → Gr) : D := .tup ((List.range n).map fun j => gD (f j))
def tabD (n : Nat) (t : Gr.Tb) : D := .tup ((List.range n).map fun i => rowD n (t i))
def pkN (n : Nat) (f : Nat → Gr) : Nat := Gr.pk ((List.range n).map f)
def pkD (n : Nat) (f : Nat → Gr) : D := .int (pkN n f : Nat)
def pksD (n m : Nat) (t : Gr.Tb) : D := .tup ((List.range m).map fun i => pkD n (t i))
theorem gD_eq (a b : Gr) : eqB (gD a) (gD b) = decide (a = b) := by cases a <;> cases b <;> decide +kernel
theorem gr_eq (a b : Gr) : eqD (gD a) (gD b) = some (.bl (decide (a = b))) := by
  show some (D.bl (eqB (gD a) (gD b))) = _
  rw [gD_eq]
theorem gr_ne (a b : Gr) : neD (gD a) (gD b) = some (.bl (!decide (a = b))) := by
  show some (D.bl (!eqB (gD a) (gD b))) = _
  rw [gD_eq]
/-! the grades' names as they stand in the text -/
theorem gNone : D.str (Str.ofString "none") = gD .none := rfl
theorem gDear : D.str (Str.ofString "dear") = gD .dear := rfl
theorem gPaid : D.str (Str.ofString "paid") = gD .paid := rfl
theorem gFree : D.str (Str.ofString "free") = gD .free := rfl
theorem gRest : D.str (Str.ofString "restart") = gD .restart := rfl
theorem shapes_map {α : Type} {k : Nat} {f : α → D} : ∀ {xs : List α}, (∀ x ∈ xs, shape k (f x) = true) → shapeL k (xs.map f) = true
  | [], _ => by cases k <;> rfl
  | x :: xs, h => by
    show (shape k (f x) && shapeL k (xs.map f)) = true
    rw [h x List.mem_cons_self, shapes_map fun y hy => h y (List.mem_cons_of_mem _ hy)]; rfl
theorem shape_g (k : Nat) (g : Gr) : shape k (gD g) = true := by cases k <;> rfl
theorem shape_row (k n : Nat) (f : Nat → Gr) : shape (k + 1) (rowD n f) = true := by
  show shapeL k _ = true
  exact shapes_map fun x _ => shape_g k (f x)
theorem shape_tab (k n : Nat) (t : Gr.Tb) : shape (k + 2) (tabD n t) = true := by
  show shapeL (k + 1) _ = true
  exact shapes_map fun x _ => shape_row k n (t x)
theorem eqs_map {α : Type} {f g : α → D} : ∀ {xs : List α}, eqBL (xs.map f) (xs.map g) = xs.all fun x => eqB (f x) (g x)
  | [] => rfl
  | x :: xs => by
    show (eqB (f x) (g x) && eqBL (xs.map f) (xs.map g)) = _
    rw [eqs_map]; rfl
theorem eq_row (n : Nat) (f g : Nat → Gr) : eqB (rowD n f) (rowD n g) = true ↔ ∀ j, j < n → f j = g j := by
  show eqBL _ _ = true ↔ _
  rw [eqs_map, List.all_eq_true]
  constructor
  · intro h j hj
    have := h j (List.mem_range.mpr hj)
    rw [gD_eq] at this
    exact of_decide_eq_true this
  · intro h j hj
    rw [gD_eq]
    exact decide_eq_true (h j (List.mem_range.mp hj))
theorem eq_tab (n : Nat) (s t : Gr.Tb) : eqB (tabD n s) (tabD n t) = true ↔ Gr.Same n s t := by
  show eqBL _ _ = true ↔ _
  rw [eqs_map, List.all_eq_true]
  constructor
  · intro h i j hi hj
    exact (eq_row n (s i) (t i)).mp (h i (List.mem_range.mpr hi)) j hj
  · intro h i hi
    exact (eq_row n (s i) (t i)).mpr fun j hj => h i j (List.mem_range.mp hi) hj
theorem eqB_tab (n : Nat) (s t : Gr.Tb) [Decidable (Gr.Same n s t)] : eqB (tabD n s) (tabD n t) = decide (Gr.Same n s t) := by
  rw [Bool.eq_iff_iff, eq_tab, decide_eq_true_iff]
theorem tab_eq {n : Nat} (s t : Gr.Tb) [Decidable (Gr.Same n s t)] : eqD (tabD n s) (tabD n t) = some (.bl (decide (Gr.Same n s t))) := by
  unfold eqD
  rw [shape_tab 58, shape_tab 58, eqB_tab]; rfl
theorem tab_ne {n : Nat} (s t : Gr.Tb) [Decidable (Gr.Same n s t)] : neD (tabD n s) (tabD n t) = some (.bl (!decide (Gr.Same n s t))) := by
  unfold neD
  rw [shape_tab 58, shape_tab 58, eqB_tab]; rfl
theorem tab_congr {n : Nat} {s t : Gr.Tb} (h : Gr.Same n s t) : tabD n s = tabD n t := by
  unfold tabD rowD
  congr 1
  refine List.map_congr_left fun i hi => ?_
  congr 1
  refine List.map_congr_left fun j hj => ?_
  rw [h i j (List.mem_range.mp hi) (List.mem_range.mp hj)]
theorem len_tab (n : Nat) (t : Gr.Tb) : lenD [tabD n t] = some (.int (n : Nat)) := by
  show some (D.int (((List.range n).map fun i => rowD n (t i)).length : Nat)) = _
  rw [len_map]
theorem len_row (n : Nat) (f : Nat → Gr) : lenD [rowD n f] = some (.int (n : Nat)) := by
  show some (D.int (((List.range n).map fun i => gD (f i)).length : Nat)) = _
  rw [len_map]
theorem at_tab {n i : Nat} (t : Gr.Tb) (h : i < n) : ixD (tabD n t) (.int (i : Nat)) = some (rowD n (t i)) := at_map (fun i => rowD n (t i)) h
theorem at_row {n j : Nat} (f : Nat → Gr) (h : j < n) : ixD (rowD n f) (.int (j : Nat)) = some (gD (f j)) := at_map (fun i => gD (f i)) h
theorem as_tab (n : Nat) (t : Gr.Tb) : asTup (tabD n t) = some ((List.range n).map fun i => rowD n (t i)) := rfl
theorem as_row (n : Nat) (f : Nat → Gr) : asTup (rowD n f) = some ((List.range n).map fun j => gD (f j)) := rfl
theorem enum_row (n : Nat) (f : Nat → Gr) : enumAD [rowD n f] = some ((List.range n).map fun k => .tup [.int (k : Nat), gD (f k)]) := by
  show some (numbered _) = _
  rw [numbered_map]
/-! numbers -/
theorem and_nat (a b : Nat) : andD (.int (a : Nat)) (.int (b : Nat)) = some (.int ((a &&& b : Nat) : Int)) := by
  show some (D.int (Builtin.bitAnd _ _)) = _
  unfold Builtin.bitAnd
  rw [decide_eq_true (Int.natCast_nonneg a), decide_eq_true (Int.natCast_nonneg b)]
  rfl
theorem not_neg (a : Nat) : decide (0 ≤ Builtin.bitNot (a : Int)) = false := by
  refine decide_eq_false ?_
  unfold Builtin.bitNot
  omega
theorem not_not (a : Int) : Builtin.bitNot (Builtin.bitNot a) = a := by unfold Builtin.bitNot; omega
theorem or_nat (a b : Nat) : orD (.int (a : Nat)) (.int (b : Nat)) = some (.int ((a ||| b : Nat) : Int)) := by
  show some (D.int (Builtin.bitOr _ _)) = _
  unfold Builtin.bitOr Builtin.bitAnd
  rw [not_neg, not_neg]
  show some (D.int (Builtin.bitNot (Builtin.bitNot _))) = _
  rw [not_not, not_not, not_not]
  rfl
theorem and_lit (a b : Nat) : andD (.int (a : Nat)) (.int (@OfNat.ofNat Int b instOfNat)) = some (.int ((a &&& b : Nat) : Int)) := and_nat a b
theorem shr_nat (a b : Nat) : shrD (.int (a : Nat)) (.int (b : Nat)) = some (.int ((a / 2 ^ b : Nat) : Int)) := by
  show (if decide ((0 : Int) ≤ (b : Nat)) = true then some (D.int ((a : Int) / 2 ^ ((b : Nat) : Int).toNat)) else none) = _
  rw [if_pos (decide_eq_true (Int.natCast_nonneg b)), Int.toNat_natCast]
  norm_cast
theorem shr_lit (a b : Nat) : shrD (.int (a : Nat)) (.int (@OfNat.ofNat Int b instOfNat)) = some (.int ((a / 2 ^ b : Nat) : Int)) := shr_nat a b
theorem shl_one {a : Nat} (h : a < 2 ^ 64) : shlD (.int (a : Nat)) (.int 1) = some (.int ((a * 2 : Nat) : Int)) := by
  show (if decide ((0 : Int) ≤ 1 ∧ (1 : Int) ≤ 1000000 ∧ ((a : Nat) : Int).natAbs < 2 ^ 64) = true then some (D.int ((a : Int) * 2 ^ (1 : Int).toNat)) else none) = _
  rw [if_pos (decide_eq_true ⟨by decide, by decide, by rw [Int.natAbs_natCast]; exact h⟩)]
  congr 2
theorem mul_nat {a b : Nat} (ha : a < 2 ^ 100) (hb : b < 2 ^ 100) : mulD (.int (a : Nat)) (.int (b : Nat)) = some (.int ((a * b : Nat) : Int)) := by
  rw [mul_ok (by rw [Int.natAbs_natCast]; exact ha) (by rw [Int.natAbs_natCast]; exact hb)]
  congr 2
theorem int_eq (a b : Nat) : eqD (.int (a : Nat)) (.int (b : Nat)) = some (.bl (decide (a = b))) := by
  show some (D.bl ((a : Int) == (b : Int))) = _
  congr 2
  rw [Bool.eq_iff_iff, beq_iff_eq, decide_eq_true_iff, Int.ofNat_inj]
theorem int_ne (a b : Nat) : neD (.int (a : Nat)) (.int (b : Nat)) = some (.bl (!decide (a = b))) := by
  show some (D.bl (!((a : Int) == (b : Int)))) = _
  congr 3
  rw [Bool.eq_iff_iff, beq_iff_eq, decide_eq_true_iff, Int.ofNat_inj]
/-! rows in one number -/
theorem pkN_lt {n : Nat} (h : n ≤ 8) (f : Nat → Gr) : pkN n f < 2 ^ 32 := Gr.pk_lt _ (by rw [len_map]; exact h)
theorem pkN_at {n : Nat} (h : n ≤ 8) (f : Nat → Gr) {j : Nat} (hj : j < n) : pkN n f / 2 ^ j &&& 16843009 = (f j).code := by
  have := Gr.pk_at ((List.range n).map f) (by rw [len_map]; exact h) (j := j) (by omega)
  rw [Gr.row_get, if_pos hj] at this
  exact this
theorem pkN_inj {n : Nat} (h : n ≤ 8) {f g : Nat → Gr} : pkN n f = pkN n g ↔ ∀ j, j < n → f j = g j := by
  constructor
  · intro e j hj
    have := Gr.pk_inj (by rw [len_map]; exact h) (by rw [len_map, len_map]) e
    have k := congrArg (fun l => l.getD j Gr.none) this
    simp only [Gr.row_get, if_pos hj] at k
    exact k
  · intro e
    unfold pkN
    congr 1
    exact List.map_congr_left fun j hj => e j (List.mem_range.mp hj)
theorem pks_congr {n m : Nat} {s t : Gr.Tb} (h : ∀ i j, i < m → j < n → s i j = t i j) : pksD n m s = pksD n m t := by
  unfold pksD
  congr 1
  refine List.map_congr_left fun i hi => ?_
  unfold pkD pkN
  congr 3
  exact List.map_congr_left fun j hj => h i j (List.mem_range.mp hi) (List.mem_range.mp hj)
theorem as_pks (n m : Nat) (t : Gr.Tb) : asTup (pksD n m t) = some ((List.range m).map fun i => pkD n (t i)) := rfl
theorem sq_pks (n m : Nat) (t : Gr.Tb) : asSeq (pksD n m t) = some ((List.range m).map fun i => pkD n (t i)) := rfl
theorem len_pks (n m : Nat) (t : Gr.Tb) : lenD [pksD n m t] = some (.int (m : Nat)) := by
  show some (D.int (((List.range m).map fun i => pkD n (t i)).length : Nat)) = _
  rw [len_map]
/-- what a text tells of a table -/
theorem rok_tab {n : Nat} (h : n ≤ 8) (t : Gr.Tb) : reprD [tabD n t] = some (.str (reprT (tabD n t))) := by
  have g : ∀ g : Gr, Rok 10 0 (gD g) := fun g => (Rok.str (by cases g <;> decide +kernel) 0).up (by cases g <;> decide +kernel) (Nat.le_refl _)
  have r : ∀ f, Rok 88 1 (rowD n f) := fun f => (Rok.tup (xs := (List.range n).map fun j => gD (f j)) fun x hx => by
    obtain ⟨j, _, rfl⟩ := List.mem_map.mp hx
    exact g _).up (by rw [len_map]; omega) (Nat.le_refl _)
  have q : Rok 712 60 (tabD n t) := (Rok.tup (xs := (List.range n).map fun i => rowD n (t i)) fun x hx => by
    obtain ⟨j, _, rfl⟩ := List.mem_map.mp hx
    exact r _).up (by rw [len_map]; omega) (by decide)
  exact q.repr (by decide)
/-! ### grades among values -/
def grOf (d : D) : Option Gr := [Gr.none, .dear, .paid, .free, .restart].find? fun g => eqB d (gD g)
def gv (d : D) : Gr := (grOf d).getD .none
def isG (d : D) : Bool := (grOf d).isSome
theorem grOf_g (g : Gr) : grOf (gD g) = some g := by cases g <;> decide +kernel
theorem gv_g (g : Gr) : gv (gD g) = g := by unfold gv; rw [grOf_g]; rfl
theorem isG_g (g : Gr) : isG (gD g) = true := by unfold isG; rw [grOf_g]; rfl
end Pl
namespace Pl
open PySem PySem.Spec PyProof.Rows L2
def top (i : Nat) : Stmt := PySem.Challenge.pw_openlimit_k19_products_of_tables.main.body.getD i (.Pass ⟨0, 0, 0, 0⟩)
abbrev s_is_between : Stmt := top 6
abbrev s_packed_form : Stmt := top 16
abbrev s_table_from : Stmt := top 17
abbrev s_row_times : Stmt := top 18
abbrev s_packed_product : Stmt := top 19
abbrev s_is_packed_idempotent : Stmt := top 20
abbrev s_packed_pumped : Stmt := top 21
abbrev s_is_table : Stmt := top 23
abbrev s_packed_table : Stmt := top 24
abbrev s_first_packed : Stmt := top 25
abbrev s_product : Stmt := top 26
abbrev s_is_idempotent : Stmt := top 27
abbrev s_pumped : Stmt := top 28
abbrev s_law_stream : Stmt := top 30
abbrev s_law_draw : Stmt := top 31
abbrev s_law_better : Stmt := top 32
abbrev s_law_joined : Stmt := top 33
abbrev s_law_times : Stmt := top 34
abbrev s_law_other : Stmt := top 35
abbrev s_law_changed : Stmt := top 36
abbrev s_law_some_table : Stmt := top 37
abbrev s_law_steady : Stmt := top 38
abbrev s_law_error : Stmt := top 39
abbrev s_law_is_a_table : Stmt := top 40
abbrev s_law_right : Stmt := top 41
abbrev s_law_values_right : Stmt := top 42
abbrev s_law_written_right : Stmt := top 43
abbrev s_law : Stmt := top 44
abbrev s_init_InvalidNumber : Stmt := (clsB (top 4)).getD 0 (.Pass ⟨0, 0, 0, 0⟩)
def errL : List (Str × Str × Bool) := [((Str.ofString "InvalidNumber"), (Str.ofString "InvalidTable"), false), ((Str.ofString "InvalidNumber"), (Str.ofString "InvalidNumber"), true), ((Str.ofString "InvalidNumber"), (Str.ofString "LimitError"), false), ((Str.ofString "InvalidTable"), (Str.ofString "InvalidTable"), true), ((Str.ofString "InvalidTable"), (Str.ofString "InvalidNumber"), false), ((Str.ofString "InvalidTable"), (Str.ofString "LimitError"), true), ((Str.ofString "InvalidOperation"), (Str.ofString "InvalidTable"), false), ((Str.ofString "InvalidOperation"), (Str.ofString "InvalidNumber"), false), ((Str.ofString "InvalidOperation"), (Str.ofString "LimitError"), true)]
def tab_err : Str → Str → Option Bool := errOf errL
def tab_CODES : List (Str × D) := [((Str.ofString "restart"), .int (16843009)), ((Str.ofString "free"), .int (65793)), ((Str.ofString "paid"), .int (257)), ((Str.ofString "dear"), .int (1)), ((Str.ofString "none"), .int (0))]
def tab_ORDER : List D := [.str (Str.ofString "none"), .str (Str.ofString "free"), .str (Str.ofString "paid"), .str (Str.ofString "restart"), .str (Str.ofString "dear")]
def tab_NAMES : List (Int × D) := [(16843009, .str (Str.ofString "restart")), (65793, .str (Str.ofString "free")), (257, .str (Str.ofString "paid")), (1, .str (Str.ofString "dear")), (0, .str (Str.ofString "none"))]
theorem sc_law_error : FnScope ["call", "e"] ["call"] (defScope s_law_error) := ⟨rfl, rfl, rfl, by decide +kernel, rfl, by decide +kernel, by decide +kernel⟩
def hd_law_error : List HdM := [((Str.ofString "InvalidTable"), some 1, (sRet (eIf (tTru isBl (eIsE tab_err 1 (Str.ofString "LimitError"))) (eCon (.str (Str.ofString "table"))) (eCon (.str (Str.ofString "odd")))))), ((Str.ofString "InvalidNumber"), some 1, (sRet (eOp addD (eCon (.str (Str.ofString "number "))) (eCall reprD (aCons (eXf 1 (Str.ofString "InvalidNumber") (Str.ofString "value")) aNil)))))]
def mr_law_error : S := (sRet (eCon (.str (Str.ofString "returned"))))
def gm_law_error : Rs An → Rs An := gmDo tab_err hd_law_error mr_law_error 2
theorem gives_law_error {X : Cx} {T : List (Addr × Str)} {g : Addr} {cdg : Value} {q : Str} {a_InvalidTable : Addr} (g_InvalidTable : X.mg "InvalidTable" = some (.ref a_InvalidTable)) {a_LimitError : Addr} (g_LimitError : X.mg "LimitError" = some (.ref a_LimitError)) {a_InvalidNumber : Addr} (g_InvalidNumber : X.mg "InvalidNumber" = some (.ref a_InvalidNumber)) (xf_InvalidNumber : XfC X.K a_InvalidNumber ∧ PySem.W.findIn X.K (.ref a_InvalidNumber) "value" = some none) (g_isinstance : X.mg "isinstance" = none) (g_repr : X.mg "repr" = none) (Te : ErrTab X.K X.mg tab_err) (hgX : X.A.guards = some []) (hrX : Room 1 X.A) : LamX.GivesTo X ["call", "e"] "_law_error" (defScope s_law_error) g cdg (defBody s_law_error) "call" q (LamGo ⟨X.K, X.mg, T, none⟩ gm_law_error) :=
  gives_do Te (l := [(.ref a_InvalidTable, some 1, _), (.ref a_InvalidNumber, some 1, _)]) (fun s H => (.cons ⟨rfl, by decide, .inl g_InvalidTable⟩ (And.intro rfl rfl) (fun ad ob cls d ps hz hf => (pss_one (ps_ret (pe_ifExp (pt_val (pe_isE (X := (cxOf C8.CX0 X.prog X.w X.K X.mg X.base ["call", "e"] "_law_error" (defScope s_law_error) g cdg X.A X.stack s H C8.E0).nox) (ad := ad) (ps := ps) hz hf (pv 1) (pe_glob (v := .ref a_LimitError) (by rfl) g_LimitError (by rfl)) (fun _ r => r) (by rfl) g_isinstance)) pe_str pe_str)))) (.cons ⟨rfl, by decide, .inl g_InvalidNumber⟩ (And.intro rfl rfl) (fun ad ob cls d ps hz hf => (pss_one (ps_ret (pe_op op_addX pe_str (pe_callB (call_reprX (X := (cxOf C8.CX0 X.prog X.w X.K X.mg X.base ["call", "e"] "_law_error" (defScope s_law_error) g cdg X.A X.stack s H C8.E0).nox.suite ad ((ad, ob) :: ps)) hgX ((hrX.deeper (envOfC "_law_error" (defScope s_law_error) s.heap.objs.size g cdg)).units)) (by rfl) g_repr (by decide +kernel) (pa_cons (pe_xf (X := (cxOf C8.CX0 X.prog X.w X.K X.mg X.base ["call", "e"] "_law_error" (defScope s_law_error) g cdg X.A X.stack s H C8.E0).nox) (a := ad) (pn := ps) xf_InvalidNumber.1 xf_InvalidNumber.2 hz hf (pv 1)) pa_nil)))))) .nil)))
    (.cons (.inl g_InvalidTable) (fun ad cls d => (sx_ret (ex_if (tx_bool (ex_isE Te (.inl g_LimitError))) (ex_con fun _ => rfl) (ex_con fun _ => rfl)))) (.cons (.inl g_InvalidNumber) (fun ad cls d => (sx_ret (ex_op (ex_con fun _ => rfl) (ex_cD (ax_cons (ex_xf g_InvalidNumber) ax_nil))))) .nil))
    (fun s H => (pss_one (ps_ret pe_str))) ((sx_ret (ex_con fun _ => rfl))) (by decide) (fun _ => rfl) fun _ => rfl
section
variable {P : Program} {w : World} {K : PySem.W.Frag} {mg : Str → Option Value} {base : Heap} {f : Addr} {fd : FuncData} {T : List (Addr × Str)}
theorem sc_init_InvalidNumber : FnScope ["self", "value"] ["self", "value"] (defScope s_init_InvalidNumber) := ⟨rfl, rfl, rfl, by decide +kernel, rfl, by decide +kernel, by decide +kernel⟩
theorem ok_init_InvalidNumber (F : Fun K "__init__" "InvalidNumber.__init__" s_init_InvalidNumber f fd) : FnG false P w K mg base 1 f fd ["self", "value"] (initSp K "value") :=
  okG F sc_init_InvalidNumber initSp_len fun cdv A outer s H vs Q E hr hgu ⟨a, C, y, e, T, ea, q⟩ => ⟨_, pss_one (ps_ostG (pv 0) (pv 1)), by
    subst e
    exact ⟨y, rfl, .ref a, rfl, a, C, rfl, T, ea, q⟩⟩
def m_is_between : S := (sRet (eAnd (eOp eqTyD (eCall typeD (aCons (eVar 0) aNil)) (eCon (.rf (.ty "int")))) (eChain leD leD (eVar 1) (eVar 0) (eVar 2))))
def f_is_between : FnM := runBody 3 0 m_is_between
theorem sc_is_between : FnScope ["value", "low", "high"] ["value", "low", "high"] (defScope s_is_between) := ⟨rfl, rfl, rfl, by decide +kernel, rfl, by decide +kernel, by decide +kernel⟩
theorem ok_is_between (g_int : mg "int" = none) (g_type : mg "type" = none) (F : Fun K "is_between" "is_between" s_is_between f fd) : FnG false P w K mg base 1 f fd ["value", "low", "high"] (spM ⟨K, mg, T, none⟩ f_is_between) :=
  fn_body F sc_is_between rfl fun cdv A outer s H E hr hgu => ⟨_, (pss_one (ps_ret (pe_and (pe_cmpR op_eqTyX (pe_callTy call_typeX (by rfl) g_type (by decide +kernel) (pa_cons (pv 0) pa_nil)) (pe_bltn (v := .ty "int") rfl g_int (by decide +kernel) rfl) (nomark _)) (pe_one (pe_chain op_leX op_leX (pv 1) (pv 0) (pv 2)))))),
    (sx_ret (ex_and (ex_op (ex_cD (ax_cons (ex_var (i := 0)) ax_nil)) (ex_con fun _ => rfl)) (ex_chain (ex_var (i := 1)) (ex_var (i := 0)) (ex_var (i := 2)))))⟩
def m_packed_form : S := (sSeq (sIf (tOrB (tNotB (tTru isBl (eCall isiD (aCons (eVar 1) (aCons (eCon (.rf (.ty "tuple"))) aNil))))) (tTru isBl (eOp neD (eCall lenD (aCons (eVar 1) aNil)) (eVar 0))))
      (sRet (eCon .non))
      sNext)
      (sSeq (sNew 2 (eNew aNil))
      (sSeq (sFor (itBy asTup (eVar 1)) (nmD 3)
      (sSeq (sIf (tOrB (tNotB (tTru isBl (eCall isiD (aCons (eVar 3) (aCons (eCon (.rf (.ty "tuple"))) aNil))))) (tTru isBl (eOp neD (eCall lenD (aCons (eVar 3) aNil)) (eVar 0))))
      (sRet (eCon .non))
      sNext)
      (sSeq (sAsg (nmD 4) (eCon (.int 0)))
      (sSeq (sFor (itBy asTup (eUn backD (eVar 3))) (nmD 5)
      (sSeq (sIf (tTru isBl (eOp ninD (eVar 5) (eCon (.tup tab_ORDER))))
      (sRet (eCon .non))
      sNext)
      (sAsg (nmD 4) (eOp orD (eOp shlD (eVar 4) (eCon (.int 1))) (eUn (lookS tab_CODES) (eVar 5))))))
      (sAppL 2 (eVar 4))))))
      (sFz 2 (sRet (eCall tupleD (aCons (eVar 2) aNil)))))))
def f_packed_form : FnM := runBody 2 4 m_packed_form
theorem sc_packed_form : FnScope ["size", "value", "found", "row", "bits", "grade"] ["size", "value"] (defScope s_packed_form) := ⟨rfl, rfl, rfl, by decide +kernel, rfl, by decide +kernel, by decide +kernel⟩
theorem ok_packed_form (g_tuple : mg "tuple" = none) (g_isinstance : mg "isinstance" = none) (g_len : mg "len" = none) {a_ORDER : Addr} (g_ORDER : mg "ORDER" = some (.ref a_ORDER)) (t_ORDER : ConT K a_ORDER tab_ORDER) {a_CODES : Addr} (g_CODES : mg "CODES" = some (.ref a_CODES)) (t_CODES : TabS K w a_CODES tab_CODES) (F : Fun K "packed_form" "packed_form" s_packed_form f fd) : FnG false P w K mg base 1 f fd ["size", "value"] (spM ⟨K, mg, T, none⟩ f_packed_form) :=
  fn_body F sc_packed_form rfl fun cdv A outer s H E hr hgu => ⟨_, (pss_cons (ps_if (PW.pt (pw_or (pt_not (pt_val (pe_callB call_isiX (by rfl) g_isinstance (by decide +kernel) (pa_cons (pv 1) (pa_cons (pe_bltn (v := .ty "tuple") rfl g_tuple (by decide +kernel) rfl) pa_nil))))) (pw_or1 (pt_cmpR (op_neX (hr_u hr)) (pe_callB call_lenX (by rfl) g_len (by decide +kernel) (pa_cons (pv 1) pa_nil)) (pv 0) (nomark _)))))
      (pss_one (ps_ret pe_non))
      pss_nil)
      (pss_cons (ps_set (i := 2) sc_packed_form.nd rfl (by first | exact Or.inl rfl | exact Or.inr rfl) (pe_lst pa_nil))
      (pss_cons (ps_for (passes_of rfl) rfl (pi_tup (pv 1)) (pg_name (i := 3) sc_packed_form.nd rfl (by first | exact Or.inl rfl | exact Or.inr rfl))
      (pss_cons (ps_if (PW.pt (pw_or (pt_not (pt_val (pe_callB call_isiX (by rfl) g_isinstance (by decide +kernel) (pa_cons (pv 3) (pa_cons (pe_bltn (v := .ty "tuple") rfl g_tuple (by decide +kernel) rfl) pa_nil))))) (pw_or1 (pt_cmpR (op_neX (hr_u hr)) (pe_callB call_lenX (by rfl) g_len (by decide +kernel) (pa_cons (pv 3) pa_nil)) (pv 0) (nomark _)))))
      (pss_one (ps_ret pe_non))
      pss_nil)
      (pss_cons (ps_set (i := 4) sc_packed_form.nd rfl (by first | exact Or.inl rfl | exact Or.inr rfl) pe_int)
      (pss_cons (ps_for (passes_of rfl) rfl (pi_tup (pe_back (pv 3))) (pg_name (i := 5) sc_packed_form.nd rfl (by first | exact Or.inl rfl | exact Or.inr rfl))
      (pss_cons (ps_if (pt_cmpR (op_ninX (hr_u hr)) (pv 5) (pe_glob (v := .ref a_ORDER) (by rfl) g_ORDER (by rfl)) (by rfl))
      (pss_one (ps_ret pe_non))
      pss_nil)
      (pss_one (ps_set (i := 4) sc_packed_form.nd rfl (by first | exact Or.inl rfl | exact Or.inr rfl) (pe_op op_orX (pe_op op_shlX (pv 4) pe_int) (pe_ix ix_kdict (pe_glob (v := .ref a_CODES) (by rfl) g_CODES (by rfl)) (pv 5) (fun _ _ => rfl)))))))
      (pss_one (ps_expr (pe_bm PySem.F.plainAttrs_list PySem.F.slot_list_append PySem.F.type_list_append mt_append (pv 2) (pa_cons (pv 4) pa_nil))))))))
      (pss_one (ps_ret (pe_callTy call_tupleX (by rfl) g_tuple (by decide +kernel) (pa_cons (pv 2) pa_nil))))))),
    (sx_seq (sx_if (tx_or (tx_not (tx_bool (ex_cD (ax_cons (ex_var (i := 1)) (ax_cons (ex_con fun _ => rfl) ax_nil))))) (tx_test (ex_op (ex_cD (ax_cons (ex_var (i := 1)) ax_nil)) (ex_var (i := 0)))))
      (sx_ret (ex_con fun _ => rfl))
      sx_next)
      (sx_seq (sx_new (ef_lst ax_nil) (by decide))
      (sx_seq (sx_for (ix_tup' (ex_var (i := 1))) gx_name
      (sx_seq (sx_if (tx_or (tx_not (tx_bool (ex_cD (ax_cons (ex_var (i := 3)) (ax_cons (ex_con fun _ => rfl) ax_nil))))) (tx_test (ex_op (ex_cD (ax_cons (ex_var (i := 3)) ax_nil)) (ex_var (i := 0)))))
      (sx_ret (ex_con fun _ => rfl))
      sx_next)
      (sx_seq (sx_asg (ex_con fun _ => rfl) gx_name)
      (sx_seq (sx_for (ix_tup' (ex_back (ex_var (i := 3)))) gx_name
      (sx_seq (sx_if (tx_test (ex_op (ex_var (i := 5)) (ex_con t_ORDER.rep)))
      (sx_ret (ex_con fun _ => rfl))
      sx_next)
      (sx_asg (ex_op (ex_op (ex_var (i := 4)) (ex_con fun _ => rfl)) (ex_tabS t_CODES (ex_var (i := 5)))) gx_name)))
      (sx_app (ex_var (i := 4)))))))
      (sx_fz (by decide) (sx_ret (ex_cD (ax_cons (ex_var (i := 2)) ax_nil)))))))⟩
def m_table_from : S := (sSeq (sNew 1 (eNew aNil))
      (sSeq (sFor (itBy asTup (eVar 0)) (nmD 2)
      (sSeq (sNew 3 (eNew aNil))
      (sSeq (sFor (itBy asTup (eVar 0)) (nmD 4)
      (sSeq (sAppL 3 (eUn (lookI tab_NAMES) (eOp andD (eVar 2) (eCon (.int 16843009)))))
      (sAsg (nmD 2) (eOp shrD (eVar 2) (eCon (.int 1))))))
      (sFz 3 (sAppL 1 (eCall tupleD (aCons (eVar 3) aNil)))))))
      (sFz 1 (sRet (eCall tupleD (aCons (eVar 1) aNil))))))
def f_table_from : FnM := runBody 1 4 m_table_from
theorem sc_table_from : FnScope ["packed", "found", "row", "names", "_"] ["packed"] (defScope s_table_from) := ⟨rfl, rfl, rfl, by decide +kernel, rfl, by decide +kernel, by decide +kernel⟩
theorem ok_table_from (g_tuple : mg "tuple" = none) {a_NAMES : Addr} (g_NAMES : mg "NAMES" = some (.ref a_NAMES)) (t_NAMES : TabI K a_NAMES tab_NAMES) {k_RESTART : Tok} (g_RESTART : mg "RESTART" = some (.int 16843009 k_RESTART)) (F : Fun K "table_from" "table_from" s_table_from f fd) : FnG false P w K mg base 1 f fd ["packed"] (spM ⟨K, mg, T, none⟩ f_table_from) :=
  fn_body F sc_table_from rfl fun cdv A outer s H E hr hgu => ⟨_, (pss_cons (ps_set (i := 1) sc_table_from.nd rfl (by first | exact Or.inl rfl | exact Or.inr rfl) (pe_lst pa_nil))
      (pss_cons (ps_for (passes_of rfl) rfl (pi_tup (pv 0)) (pg_name (i := 2) sc_table_from.nd rfl (by first | exact Or.inl rfl | exact Or.inr rfl))
      (pss_cons (ps_set (i := 3) sc_table_from.nd rfl (by first | exact Or.inl rfl | exact Or.inr rfl) (pe_lst pa_nil))
      (pss_cons (ps_for (passes_of rfl) rfl (pi_tup (pv 0)) (pg_name (i := 4) sc_table_from.nd rfl (by first | exact Or.inl rfl | exact Or.inr rfl))
      (pss_cons (ps_expr (pe_bm PySem.F.plainAttrs_list PySem.F.slot_list_append PySem.F.type_list_append mt_append (pv 3) (pa_cons (pe_ix ix_kint (pe_glob (v := .ref a_NAMES) (by rfl) g_NAMES (by rfl)) (pe_op op_andX (pv 2) (pe_glob (v := .int 16843009) (by rfl) g_RESTART ⟨_, rfl⟩)) (fun _ _ => rfl)) pa_nil)))
      (pss_one (ps_set (i := 2) sc_table_from.nd rfl (by first | exact Or.inl rfl | exact Or.inr rfl) (pe_op op_shrX (pv 2) pe_int)))))
      (pss_one (ps_expr (pe_bm PySem.F.plainAttrs_list PySem.F.slot_list_append PySem.F.type_list_append mt_append (pv 1) (pa_cons (pe_callTy call_tupleX (by rfl) g_tuple (by decide +kernel) (pa_cons (pv 3) pa_nil)) pa_nil)))))))
      (pss_one (ps_ret (pe_callTy call_tupleX (by rfl) g_tuple (by decide +kernel) (pa_cons (pv 1) pa_nil)))))),
    (sx_seq (sx_new (ef_lst ax_nil) (by decide))
      (sx_seq (sx_for (ix_tup' (ex_var (i := 0))) gx_name
      (sx_seq (sx_new (ef_lst ax_nil) (by decide))
      (sx_seq (sx_for (ix_tup' (ex_var (i := 0))) gx_name
      (sx_seq (sx_app (ex_tabI t_NAMES (ex_op (ex_var (i := 2)) (ex_con fun _ => rfl))))
      (sx_asg (ex_op (ex_var (i := 2)) (ex_con fun _ => rfl)) gx_name)))
      (sx_fz (by decide) (sx_app (ex_cD (ax_cons (ex_var (i := 3)) ax_nil)))))))
      (sx_fz (by decide) (sx_ret (ex_cD (ax_cons (ex_var (i := 1)) ax_nil))))))⟩
def m_row_times : S := (sSeq (sAsg (nmD 2) (eCon (.int 0)))
      (sSeq (sFor (itBy asSeq (eVar 1)) (nmD 3)
      (sSeq (sAsg (nmD 4) (eOp andD (eVar 0) (eCon (.int 16843009))))
      (sSeq (sIf (tTru isBl (eOp eqD (eVar 4) (eCon (.int 65793))))
      (sAsg (nmD 2) (eOp orD (eVar 2) (eVar 3)))
      (sIf (tTru isBl (eOp eqD (eVar 4) (eCon (.int 257))))
      (sAsg (nmD 2) (eOp orD (eOp orD (eVar 2) (eOp andD (eVar 3) (eCon (.int 4278255615)))) (eOp andD (eOp shrD (eVar 3) (eCon (.int 8))) (eCon (.int 16711680)))))
      (sIf (tTru isBl (eOp eqD (eVar 4) (eCon (.int 16843009))))
      (sAsg (nmD 2) (eOp orD (eOp orD (eVar 2) (eOp andD (eVar 3) (eCon (.int 255)))) (eOp mulD (eOp andD (eOp shrD (eVar 3) (eCon (.int 8))) (eCon (.int 255))) (eCon (.int 16843008)))))
      (sIf (tTru isBl (eOp eqD (eVar 4) (eCon (.int 1))))
      (sAsg (nmD 2) (eOp orD (eVar 2) (eOp andD (eVar 3) (eCon (.int 255)))))
      sNext))))
      (sAsg (nmD 0) (eOp shrD (eVar 0) (eCon (.int 1)))))))
      (sRet (eVar 2))))
def f_row_times : FnM := runBody 2 3 m_row_times
theorem sc_row_times : FnScope ["row", "packed", "found", "behind", "code"] ["row", "packed"] (defScope s_row_times) := ⟨rfl, rfl, rfl, by decide +kernel, rfl, by decide +kernel, by decide +kernel⟩
theorem ok_row_times {k_RESTART : Tok} (g_RESTART : mg "RESTART" = some (.int 16843009 k_RESTART)) {k_FREE : Tok} (g_FREE : mg "FREE" = some (.int 65793 k_FREE)) {k_PAID : Tok} (g_PAID : mg "PAID" = some (.int 257 k_PAID)) {k_DEAR : Tok} (g_DEAR : mg "DEAR" = some (.int 1 k_DEAR)) (F : Fun K "row_times" "row_times" s_row_times f fd) : FnG false P w K mg base 1 f fd ["row", "packed"] (spM ⟨K, mg, T, none⟩ f_row_times) :=
  fn_body F sc_row_times rfl fun cdv A outer s H E hr hgu => ⟨_, (pss_cons (ps_set (i := 2) sc_row_times.nd rfl (by first | exact Or.inl rfl | exact Or.inr rfl) pe_int)
      (pss_cons (ps_for (passes_of rfl) rfl (pi_sq (pv 1)) (pg_name (i := 3) sc_row_times.nd rfl (by first | exact Or.inl rfl | exact Or.inr rfl))
      (pss_cons (ps_set (i := 4) sc_row_times.nd rfl (by first | exact Or.inl rfl | exact Or.inr rfl) (pe_op op_andX (pv 0) (pe_glob (v := .int 16843009) (by rfl) g_RESTART ⟨_, rfl⟩)))
      (pss_cons (ps_if (pt_cmpR (op_eqX (hr_u hr)) (pv 4) (pe_glob (v := .int 65793) (by rfl) g_FREE ⟨_, rfl⟩) (nomark _))
      (pss_one (ps_set (i := 2) sc_row_times.nd rfl (by first | exact Or.inl rfl | exact Or.inr rfl) (pe_op op_orX (pv 2) (pv 3))))
      (pss_one (ps_if (pt_cmpR (op_eqX (hr_u hr)) (pv 4) (pe_glob (v := .int 257) (by rfl) g_PAID ⟨_, rfl⟩) (nomark _))
      (pss_one (ps_set (i := 2) sc_row_times.nd rfl (by first | exact Or.inl rfl | exact Or.inr rfl) (pe_op op_orX (pe_op op_orX (pv 2) (pe_op op_andX (pv 3) pe_int)) (pe_op op_andX (pe_op op_shrX (pv 3) pe_int) pe_int))))
      (pss_one (ps_if (pt_cmpR (op_eqX (hr_u hr)) (pv 4) (pe_glob (v := .int 16843009) (by rfl) g_RESTART ⟨_, rfl⟩) (nomark _))
      (pss_one (ps_set (i := 2) sc_row_times.nd rfl (by first | exact Or.inl rfl | exact Or.inr rfl) (pe_op op_orX (pe_op op_orX (pv 2) (pe_op op_andX (pv 3) pe_int)) (pe_op op_mulX (pe_op op_andX (pe_op op_shrX (pv 3) pe_int) pe_int) pe_int))))
      (pss_one (ps_if (pt_cmpR (op_eqX (hr_u hr)) (pv 4) (pe_glob (v := .int 1) (by rfl) g_DEAR ⟨_, rfl⟩) (nomark _))
      (pss_one (ps_set (i := 2) sc_row_times.nd rfl (by first | exact Or.inl rfl | exact Or.inr rfl) (pe_op op_orX (pv 2) (pe_op op_andX (pv 3) pe_int))))
      pss_nil)))))))
      (pss_one (ps_set (i := 0) sc_row_times.nd rfl (by first | exact Or.inl rfl | exact Or.inr rfl) (pe_op op_shrX (pv 0) pe_int))))))
      (pss_one (ps_ret (pv 2))))),
    (sx_seq (sx_asg (ex_con fun _ => rfl) gx_name)
      (sx_seq (sx_for (ix_sq (ex_var (i := 1))) gx_name
      (sx_seq (sx_asg (ex_op (ex_var (i := 0)) (ex_con fun _ => rfl)) gx_name)
      (sx_seq (sx_if (tx_test (ex_op (ex_var (i := 4)) (ex_con fun _ => rfl)))
      (sx_asg (ex_op (ex_var (i := 2)) (ex_var (i := 3))) gx_name)
      (sx_if (tx_test (ex_op (ex_var (i := 4)) (ex_con fun _ => rfl)))
      (sx_asg (ex_op (ex_op (ex_var (i := 2)) (ex_op (ex_var (i := 3)) (ex_con fun _ => rfl))) (ex_op (ex_op (ex_var (i := 3)) (ex_con fun _ => rfl)) (ex_con fun _ => rfl))) gx_name)
      (sx_if (tx_test (ex_op (ex_var (i := 4)) (ex_con fun _ => rfl)))
      (sx_asg (ex_op (ex_op (ex_var (i := 2)) (ex_op (ex_var (i := 3)) (ex_con fun _ => rfl))) (ex_op (ex_op (ex_op (ex_var (i := 3)) (ex_con fun _ => rfl)) (ex_con fun _ => rfl)) (ex_con fun _ => rfl))) gx_name)
      (sx_if (tx_test (ex_op (ex_var (i := 4)) (ex_con fun _ => rfl)))
      (sx_asg (ex_op (ex_var (i := 2)) (ex_op (ex_var (i := 3)) (ex_con fun _ => rfl))) gx_name)
      sx_next))))
      (sx_asg (ex_op (ex_var (i := 0)) (ex_con fun _ => rfl)) gx_name))))
      (sx_ret (ex_var (i := 2)))))⟩
def m_law_stream : S := (sSeq (sAsg (nmD 2) (eOp addD (eOp mulD (eCon (.int 7)) (eVar 1)) (eCon (.int 3))))
      (sSeq (sIf (tTru isBl (eOp ltD (eVar 1) (eCall lenD (aCons (eVar 0) aNil))))
      (sAsg (nmD 2) (eOp ixD (eVar 0) (eVar 1)))
      sNext)
      (sSeq (sAsg (nmD 3) (eOp modD (eCall absD (aCons (eVar 2) aNil)) (eOp powD (eOp powD (eCon (.int 10)) (eCon (.int 60))) (eCon (.int 12)))))
      (sSeq (sAsg (nmD 4) (eOp modD (eOp addD (eOp addD (eOp addD (eOp mulD (eOp modD (eVar 3) (eCon (.int 2147483629))) (eCon (.int 48271))) (eOp mulD (eCon (.int 977)) (eVar 1))) (eOp mulD (eCon (.int 2)) (eCall intD (aCons (eOp ltD (eVar 2) (eCon (.int 0))) aNil)))) (eCon (.int 11))) (eCon (.int 2147483647))))
      (sRetN (eNew (aCons (eCall max2D (aCons (eCon (.int 0)) (aCons (eOp subD (eVar 3) (eOp powD (eCon (.int 10)) (eCon (.int 18)))) aNil))) (aCons (eVar 4) (aCons (eCon (.int 0)) aNil)))))))))
def f_law_stream : FnM := runBody 2 3 m_law_stream
theorem sc_law_stream : FnScope ["script", "at", "cell", "great", "mixed"] ["script", "at"] (defScope s_law_stream) := ⟨rfl, rfl, rfl, by decide +kernel, rfl, by decide +kernel, by decide +kernel⟩
theorem ok_law_stream (g_len : mg "len" = none) (g_abs : mg "abs" = none) (g_max : mg "max" = none) (g_int : mg "int" = none) (F : Fun K "_law_stream" "_law_stream" s_law_stream f fd) : FnG false P w K mg base 1 f fd ["script", "at"] (spM ⟨K, mg, T, none⟩ f_law_stream) :=
  fn_body F sc_law_stream rfl fun cdv A outer s H E hr hgu => ⟨_, (pss_cons (ps_set (i := 2) sc_law_stream.nd rfl (by first | exact Or.inl rfl | exact Or.inr rfl) (pe_op op_addX (pe_op op_mulX pe_int (pv 1)) pe_int))
      (pss_cons (ps_if (pt_cmpR (op_ltX (hr_u hr)) (pv 1) (pe_callB call_lenX (by rfl) g_len (by decide +kernel) (pa_cons (pv 0) pa_nil)) (nomark _))
      (pss_one (ps_set (i := 2) sc_law_stream.nd rfl (by first | exact Or.inl rfl | exact Or.inr rfl) (pe_ix ix_X (pv 0) (pv 1) (fun _ _ => rfl))))
      pss_nil)
      (pss_cons (ps_set (i := 3) sc_law_stream.nd rfl (by first | exact Or.inl rfl | exact Or.inr rfl) (pe_op op_modX (pe_callB call_absX (by rfl) g_abs (by decide +kernel) (pa_cons (pv 2) pa_nil)) (pe_op op_powX (pe_op op_powX pe_int pe_int) pe_int)))
      (pss_cons (ps_set (i := 4) sc_law_stream.nd rfl (by first | exact Or.inl rfl | exact Or.inr rfl) (pe_op op_modX (pe_op op_addX (pe_op op_addX (pe_op op_addX (pe_op op_mulX (pe_op op_modX (pv 3) pe_int) pe_int) (pe_op op_mulX pe_int (pv 1))) (pe_op op_mulX pe_int (pe_callTy call_intX (by rfl) g_int (by decide +kernel) (pa_cons (pe_cmpR (op_ltX (hr_u hr)) (pv 2) pe_int (nomark _)) pa_nil)))) pe_int) pe_int))
      (pss_one (ps_ret (pe_lst (pa_cons (pe_callB (call_max2X rfl) (by rfl) g_max (by decide +kernel) (pa_cons pe_int (pa_cons (pe_op op_subX (pv 3) (pe_op op_powX pe_int pe_int)) pa_nil))) (pa_cons (pv 4) (pa_cons pe_int pa_nil)))))))))),
    (sx_seq (sx_asg (ex_op (ex_op (ex_con fun _ => rfl) (ex_var (i := 1))) (ex_con fun _ => rfl)) gx_name)
      (sx_seq (sx_if (tx_test (ex_op (ex_var (i := 1)) (ex_cD (ax_cons (ex_var (i := 0)) ax_nil))))
      (sx_asg (ex_op (ex_var (i := 0)) (ex_var (i := 1))) gx_name)
      sx_next)
      (sx_seq (sx_asg (ex_op (ex_cD (ax_cons (ex_var (i := 2)) ax_nil)) (ex_op (ex_op (ex_con fun _ => rfl) (ex_con fun _ => rfl)) (ex_con fun _ => rfl))) gx_name)
      (sx_seq (sx_asg (ex_op (ex_op (ex_op (ex_op (ex_op (ex_op (ex_var (i := 3)) (ex_con fun _ => rfl)) (ex_con fun _ => rfl)) (ex_op (ex_con fun _ => rfl) (ex_var (i := 1)))) (ex_op (ex_con fun _ => rfl) (ex_cD (ax_cons (ex_op (ex_var (i := 2)) (ex_con fun _ => rfl)) ax_nil)))) (ex_con fun _ => rfl)) (ex_con fun _ => rfl)) gx_name)
      (sx_retNew (ef_lst (ax_cons (ex_cD (ax_cons (ex_con fun _ => rfl) (ax_cons (ex_op (ex_var (i := 3)) (ex_op (ex_con fun _ => rfl) (ex_con fun _ => rfl))) ax_nil))) (ax_cons (ex_var (i := 4)) (ax_cons (ex_con fun _ => rfl) ax_nil)))))))))⟩
def m_law_draw : S := (sSeq (sIf (tTru isBl (eOp gtD (eIxO 0 (eCon (.int 0))) (eCon (.int 0))))
      (sSeq (sAsg (nmD 2) (eOp modD (eIxO 0 (eCon (.int 0))) (eVar 1)))
      (sSeq (sSetO 0 (eCon (.int 0)) (eOp fdivD (eIxO 0 (eCon (.int 0))) (eVar 1)))
      (sRet (eVar 2))))
      sNext)
      (sSeq (sSetO 0 (eCon (.int 2)) (eOp addD (eIxO 0 (eCon (.int 2))) (eCon (.int 1))))
      (sSeq (sAsg (nmD 3) (eOp modD (eOp addD (eIxO 0 (eCon (.int 1))) (eOp mulD (eCon (.int 1000003)) (eIxO 0 (eCon (.int 2))))) (eCon (.int 2305843009213693951))))
      (sSeq (sAsg (nmD 4) (eOp modD (eOp addD (eOp mulD (eOp modD (eOp mulD (eVar 3) (eVar 3)) (eCon (.int 2305843009213693921))) (eVar 3)) (eOp mulD (eCon (.int 8191)) (eIxO 0 (eCon (.int 2))))) (eCon (.int 2305843009213693907))))
      (sRet (eOp modD (eOp fdivD (eVar 4) (eCon (.int 4096))) (eVar 1)))))))
def f_law_draw : FnM := runBody 2 3 m_law_draw
theorem sc_law_draw : FnScope ["stream", "total", "found", "one", "two"] ["stream", "total"] (defScope s_law_draw) := ⟨rfl, rfl, rfl, by decide +kernel, rfl, by decide +kernel, by decide +kernel⟩
theorem ok_law_draw  (F : Fun K "_law_draw" "_law_draw" s_law_draw f fd) : FnG false P w K mg base 1 f fd ["stream", "total"] (spM ⟨K, mg, T, none⟩ f_law_draw) :=
  fn_body F sc_law_draw rfl fun cdv A outer s H E hr hgu => ⟨_, (pss_cons (ps_if (pt_cmpR op_gtX (pe_ix ix_seq (pv 0) pe_int (fun _ _ => rfl)) pe_int (nomark _))
      (pss_cons (ps_set (i := 2) sc_law_draw.nd rfl (by first | exact Or.inl rfl | exact Or.inr rfl) (pe_op op_modX (pe_ix ix_seq (pv 0) pe_int (fun _ _ => rfl)) (pv 1)))
      (pss_cons (ps_asg (pe_op op_fdivX (pe_ix ix_seq (pv 0) pe_int (fun _ _ => rfl)) (pv 1)) (pg_sub (pv 0) pe_int set_list))
      (pss_one (ps_ret (pv 2)))))
      pss_nil)
      (pss_cons (ps_asg (pe_op op_addX (pe_ix ix_seq (pv 0) pe_int (fun _ _ => rfl)) pe_int) (pg_sub (pv 0) pe_int set_list))
      (pss_cons (ps_set (i := 3) sc_law_draw.nd rfl (by first | exact Or.inl rfl | exact Or.inr rfl) (pe_op op_modX (pe_op op_addX (pe_ix ix_seq (pv 0) pe_int (fun _ _ => rfl)) (pe_op op_mulX pe_int (pe_ix ix_seq (pv 0) pe_int (fun _ _ => rfl)))) pe_int))
      (pss_cons (ps_set (i := 4) sc_law_draw.nd rfl (by first | exact Or.inl rfl | exact Or.inr rfl) (pe_op op_modX (pe_op op_addX (pe_op op_mulX (pe_op op_modX (pe_op op_mulX (pv 3) (pv 3)) pe_int) (pv 3)) (pe_op op_mulX pe_int (pe_ix ix_seq (pv 0) pe_int (fun _ _ => rfl)))) pe_int))
      (pss_one (ps_ret (pe_op op_modX (pe_op op_fdivX (pv 4) pe_int) (pv 1)))))))),
    (sx_seq (sx_if (tx_test (ex_op (ex_ixO (ex_con fun _ => rfl)) (ex_con fun _ => rfl)))
      (sx_seq (sx_asg (ex_op (ex_ixO (ex_con fun _ => rfl)) (ex_var (i := 1))) gx_name)
      (sx_seq (sx_setO (ex_op (ex_ixO (ex_con fun _ => rfl)) (ex_var (i := 1))) (ex_con fun _ => rfl))
      (sx_ret (ex_var (i := 2)))))
      sx_next)
      (sx_seq (sx_setO (ex_op (ex_ixO (ex_con fun _ => rfl)) (ex_con fun _ => rfl)) (ex_con fun _ => rfl))
      (sx_seq (sx_asg (ex_op (ex_op (ex_ixO (ex_con fun _ => rfl)) (ex_op (ex_con fun _ => rfl) (ex_ixO (ex_con fun _ => rfl)))) (ex_con fun _ => rfl)) gx_name)
      (sx_seq (sx_asg (ex_op (ex_op (ex_op (ex_op (ex_op (ex_var (i := 3)) (ex_var (i := 3))) (ex_con fun _ => rfl)) (ex_var (i := 3))) (ex_op (ex_con fun _ => rfl) (ex_ixO (ex_con fun _ => rfl)))) (ex_con fun _ => rfl)) gx_name)
      (sx_ret (ex_op (ex_op (ex_var (i := 4)) (ex_con fun _ => rfl)) (ex_var (i := 1))))))))⟩
def m_law_better : S := (sSeq (sAsg (nmD 2) (eLst (aCons (eCon (.str (Str.ofString "restart"))) (aCons (eCon (.str (Str.ofString "free"))) (aCons (eCon (.str (Str.ofString "paid"))) (aCons (eCon (.str (Str.ofString "dear"))) (aCons (eCon (.str (Str.ofString "none"))) aNil)))))))
      (sRet (eOp ixD (eVar 2) (eCall min2D (aCons (eIdx (eVar 2) (aCons (eVar 0) aNil)) (aCons (eIdx (eVar 2) (aCons (eVar 1) aNil)) aNil))))))
def f_law_better : FnM := runBody 2 1 m_law_better
theorem sc_law_better : FnScope ["one", "other", "order"] ["one", "other"] (defScope s_law_better) := ⟨rfl, rfl, rfl, by decide +kernel, rfl, by decide +kernel, by decide +kernel⟩
theorem ok_law_better (g_min : mg "min" = none) (F : Fun K "_law_better" "_law_better" s_law_better f fd) : FnG false P w K mg base 1 f fd ["one", "other"] (spM ⟨K, mg, T, none⟩ f_law_better) :=
  fn_body F sc_law_better rfl fun cdv A outer s H E hr hgu => ⟨_, (pss_cons (ps_set (i := 2) sc_law_better.nd rfl (by first | exact Or.inl rfl | exact Or.inr rfl) (pe_lst (pa_cons pe_str (pa_cons pe_str (pa_cons pe_str (pa_cons pe_str (pa_cons pe_str pa_nil)))))))
      (pss_one (ps_ret (pe_ix ix_X (pv 2) (pe_callB (call_min2X rfl) (by rfl) g_min (by decide +kernel) (pa_cons (pe_bm PySem.F.plainAttrs_list PySem.F.slot_list_index PySem.F.type_list_index mt_index (pv 2) (pa_cons (pv 0) pa_nil)) (pa_cons (pe_bm PySem.F.plainAttrs_list PySem.F.slot_list_index PySem.F.type_list_index mt_index (pv 2) (pa_cons (pv 1) pa_nil)) pa_nil))) (fun _ _ => rfl))))),
    (sx_seq (sx_asg (ex_lst (ax_cons (ex_con fun _ => rfl) (ax_cons (ex_con fun _ => rfl) (ax_cons (ex_con fun _ => rfl) (ax_cons (ex_con fun _ => rfl) (ax_cons (ex_con fun _ => rfl) ax_nil)))))) gx_name)
      (sx_ret (ex_op (ex_var (i := 2)) (ex_cD (ax_cons (ex_idx (ex_var (i := 2)) (ax_cons (ex_var (i := 0)) ax_nil)) (ax_cons (ex_idx (ex_var (i := 2)) (ax_cons (ex_var (i := 1)) ax_nil)) ax_nil))))))⟩
def m_law_joined : S := (sSeq (sAsg (nmD 2) (eLst (aCons (eCon (.str (Str.ofString "free"))) (aCons (eCon (.str (Str.ofString "paid"))) (aCons (eCon (.str (Str.ofString "restart"))) (aCons (eCon (.str (Str.ofString "dear"))) (aCons (eCon (.str (Str.ofString "none"))) aNil)))))))
      (sRet (eOp ixD (eVar 2) (eCall max2D (aCons (eIdx (eVar 2) (aCons (eVar 0) aNil)) (aCons (eIdx (eVar 2) (aCons (eVar 1) aNil)) aNil))))))
def f_law_joined : FnM := runBody 2 1 m_law_joined
theorem sc_law_joined : FnScope ["one", "other", "order"] ["one", "other"] (defScope s_law_joined) := ⟨rfl, rfl, rfl, by decide +kernel, rfl, by decide +kernel, by decide +kernel⟩
theorem ok_law_joined (g_max : mg "max" = none) (F : Fun K "_law_joined" "_law_joined" s_law_joined f fd) : FnG false P w K mg base 1 f fd ["one", "other"] (spM ⟨K, mg, T, none⟩ f_law_joined) :=
  fn_body F sc_law_joined rfl fun cdv A outer s H E hr hgu => ⟨_, (pss_cons (ps_set (i := 2) sc_law_joined.nd rfl (by first | exact Or.inl rfl | exact Or.inr rfl) (pe_lst (pa_cons pe_str (pa_cons pe_str (pa_cons pe_str (pa_cons pe_str (pa_cons pe_str pa_nil)))))))
      (pss_one (ps_ret (pe_ix ix_X (pv 2) (pe_callB (call_max2X rfl) (by rfl) g_max (by decide +kernel) (pa_cons (pe_bm PySem.F.plainAttrs_list PySem.F.slot_list_index PySem.F.type_list_index mt_index (pv 2) (pa_cons (pv 0) pa_nil)) (pa_cons (pe_bm PySem.F.plainAttrs_list PySem.F.slot_list_index PySem.F.type_list_index mt_index (pv 2) (pa_cons (pv 1) pa_nil)) pa_nil))) (fun _ _ => rfl))))),
    (sx_seq (sx_asg (ex_lst (ax_cons (ex_con fun _ => rfl) (ax_cons (ex_con fun _ => rfl) (ax_cons (ex_con fun _ => rfl) (ax_cons (ex_con fun _ => rfl) (ax_cons (ex_con fun _ => rfl) ax_nil)))))) gx_name)
      (sx_ret (ex_op (ex_var (i := 2)) (ex_cD (ax_cons (ex_idx (ex_var (i := 2)) (ax_cons (ex_var (i := 0)) ax_nil)) (ax_cons (ex_idx (ex_var (i := 2)) (ax_cons (ex_var (i := 1)) ax_nil)) ax_nil))))))⟩
def m_law_is_a_table : S := (sSeq (sIf (tOrB (tNotB (tTru isBl (eCall isiD (aCons (eVar 1) (aCons (eCon (.rf (.ty "tuple"))) aNil))))) (tTru isBl (eOp neD (eCall lenD (aCons (eVar 1) aNil)) (eVar 0))))
      (sRet (eCon (.bl false)))
      sNext)
      (sSeq (sFor (itBy asTup (eVar 1)) (nmD 2)
      (sSeq (sIf (tOrB (tNotB (tTru isBl (eCall isiD (aCons (eVar 2) (aCons (eCon (.rf (.ty "tuple"))) aNil))))) (tTru isBl (eOp neD (eCall lenD (aCons (eVar 2) aNil)) (eVar 0))))
      (sRet (eCon (.bl false)))
      sNext)
      (sFor (itBy asTup (eVar 2)) (nmD 3)
      (sIf (tOrB (tNotB (tTru isBl (eCall isiD (aCons (eVar 3) (aCons (eCon (.rf (.ty "str"))) aNil))))) (tTru isBl (eOp ninD (eVar 3) (eTup (aCons (eCon (.str (Str.ofString "restart"))) (aCons (eCon (.str (Str.ofString "free"))) (aCons (eCon (.str (Str.ofString "paid"))) (aCons (eCon (.str (Str.ofString "dear"))) (aCons (eCon (.str (Str.ofString "none"))) aNil)))))))))
      (sRet (eCon (.bl false)))
      sNext))))
      (sRet (eCon (.bl true)))))
def f_law_is_a_table : FnM := runBody 2 2 m_law_is_a_table
theorem sc_law_is_a_table : FnScope ["size", "value", "row", "grade"] ["size", "value"] (defScope s_law_is_a_table) := ⟨rfl, rfl, rfl, by decide +kernel, rfl, by decide +kernel, by decide +kernel⟩
theorem ok_law_is_a_table (g_isinstance : mg "isinstance" = none) (g_tuple : mg "tuple" = none) (g_len : mg "len" = none) (g_str : mg "str" = none) (F : Fun K "_law_is_a_table" "_law_is_a_table" s_law_is_a_table f fd) : FnG false P w K mg base 1 f fd ["size", "value"] (spM ⟨K, mg, T, none⟩ f_law_is_a_table) :=
  fn_body F sc_law_is_a_table rfl fun cdv A outer s H E hr hgu => ⟨_, (pss_cons (ps_if (PW.pt (pw_or (pt_not (pt_val (pe_callB call_isiX (by rfl) g_isinstance (by decide +kernel) (pa_cons (pv 1) (pa_cons (pe_bltn (v := .ty "tuple") rfl g_tuple (by decide +kernel) rfl) pa_nil))))) (pw_or1 (pt_cmpR (op_neX (hr_u hr)) (pe_callB call_lenX (by rfl) g_len (by decide +kernel) (pa_cons (pv 1) pa_nil)) (pv 0) (nomark _)))))
      (pss_one (ps_ret pe_bl))
      pss_nil)
      (pss_cons (ps_for (passes_of rfl) rfl (pi_tup (pv 1)) (pg_name (i := 2) sc_law_is_a_table.nd rfl (by first | exact Or.inl rfl | exact Or.inr rfl))
      (pss_cons (ps_if (PW.pt (pw_or (pt_not (pt_val (pe_callB call_isiX (by rfl) g_isinstance (by decide +kernel) (pa_cons (pv 2) (pa_cons (pe_bltn (v := .ty "tuple") rfl g_tuple (by decide +kernel) rfl) pa_nil))))) (pw_or1 (pt_cmpR (op_neX (hr_u hr)) (pe_callB call_lenX (by rfl) g_len (by decide +kernel) (pa_cons (pv 2) pa_nil)) (pv 0) (nomark _)))))
      (pss_one (ps_ret pe_bl))
      pss_nil)
      (pss_one (ps_for (passes_of rfl) rfl (pi_tup (pv 2)) (pg_name (i := 3) sc_law_is_a_table.nd rfl (by first | exact Or.inl rfl | exact Or.inr rfl))
      (pss_one (ps_if (PW.pt (pw_or (pt_not (pt_val (pe_callB call_isiX (by rfl) g_isinstance (by decide +kernel) (pa_cons (pv 3) (pa_cons (pe_bltn (v := .ty "str") rfl g_str (by decide +kernel) rfl) pa_nil))))) (pw_or1 (pt_cmpR (op_ninX (hr_u hr)) (pv 3) (pe_tup (pa_cons pe_str (pa_cons pe_str (pa_cons pe_str (pa_cons pe_str (pa_cons pe_str pa_nil)))))) (by rfl)))))
      (pss_one (ps_ret pe_bl))
      pss_nil))))))
      (pss_one (ps_ret pe_bl)))),
    (sx_seq (sx_if (tx_or (tx_not (tx_bool (ex_cD (ax_cons (ex_var (i := 1)) (ax_cons (ex_con fun _ => rfl) ax_nil))))) (tx_test (ex_op (ex_cD (ax_cons (ex_var (i := 1)) ax_nil)) (ex_var (i := 0)))))
      (sx_ret (ex_con fun _ => rfl))
      sx_next)
      (sx_seq (sx_for (ix_tup' (ex_var (i := 1))) gx_name
      (sx_seq (sx_if (tx_or (tx_not (tx_bool (ex_cD (ax_cons (ex_var (i := 2)) (ax_cons (ex_con fun _ => rfl) ax_nil))))) (tx_test (ex_op (ex_cD (ax_cons (ex_var (i := 2)) ax_nil)) (ex_var (i := 0)))))
      (sx_ret (ex_con fun _ => rfl))
      sx_next)
      (sx_for (ix_tup' (ex_var (i := 2))) gx_name
      (sx_if (tx_or (tx_not (tx_bool (ex_cD (ax_cons (ex_var (i := 3)) (ax_cons (ex_con fun _ => rfl) ax_nil))))) (tx_test (ex_op (ex_var (i := 3)) (ex_tup (ax_cons (ex_con fun _ => rfl) (ax_cons (ex_con fun _ => rfl) (ax_cons (ex_con fun _ => rfl) (ax_cons (ex_con fun _ => rfl) (ax_cons (ex_con fun _ => rfl) ax_nil)))))))))
      (sx_ret (ex_con fun _ => rfl))
      sx_next))))
      (sx_ret (ex_con fun _ => rfl))))⟩
def m_packed_product : S := (sRet (eCall tupleD (aCons (eFr (eLc (itBy asTup (eVar 0)) (nmD 2) (M.pure true) (callM f_row_times (aoCons (eVar 2) (aoCons (eVar 1) aoNil))) [2])) aNil)))
def f_packed_product : FnM := runBody 2 1 m_packed_product
theorem sc_packed_product : FnScope ["first", "second", "row"] ["first", "second"] (defScope s_packed_product) := ⟨rfl, rfl, rfl, by decide +kernel, rfl, by decide +kernel, by decide +kernel⟩
theorem ok_packed_product (g_tuple : mg "tuple" = none) (c_row_times : HasG false P w K mg base "row_times" 1 ["row", "packed"] (spM ⟨K, mg, T, none⟩ f_row_times)) (F : Fun K "packed_product" "packed_product" s_packed_product f fd) : FnG false P w K mg base 2 f fd ["first", "second"] (spM ⟨K, mg, T, none⟩ f_packed_product) :=
  fn_body F sc_packed_product rfl fun cdv A outer s H E hr hgu => ⟨_, (pss_one (ps_ret (pe_callTy call_tupleX (by rfl) g_tuple (by decide +kernel) (pa_cons (pe_lc (own := [("row", 2)]) (by rfl) sc_packed_product.nd (pi_tup (pv 0)) (blkOk_by (own := [("row", 2)]) (N := ["first", "second", "row"]) (sc := defScope s_packed_product) (by decide +kernel)) (fun _ _ _ _ _ => (pg_name (i := 2) sc_packed_product.nd rfl (by first | exact Or.inl rfl | exact Or.inr rfl))) (fun _ _ _ _ _ => pts_nil) (fun _ _ _ _ _ => (pe_callHG c_row_times (hr.mono (by decide)) gdF (by rfl) Pl.takes0w (pa_cons (pv 2) (pa_cons (pv 1) pa_nil))))) pa_nil)))),
    (sx_ret (ex_cD (ax_cons (ex_fr (ef_lc (ix_tup' (ex_var (i := 0))) gx_name (by decide) tx_yes (ex_call (ao_cons (ex_var (i := 2)) (ao_cons (ex_var (i := 1)) ao_nil))))) ax_nil)))⟩
def m_is_packed_idempotent : S := (sSeq (sFor (itBy asTup (eVar 0)) (nmD 1)
      (sIf (tTru isBl (eOp neD (callM f_row_times (aoCons (eVar 1) (aoCons (eVar 0) aoNil))) (eVar 1)))
      (sRet (eCon (.bl false)))
      sNext))
      (sRet (eCon (.bl true))))
def f_is_packed_idempotent : FnM := runBody 1 1 m_is_packed_idempotent
theorem sc_is_packed_idempotent : FnScope ["packed", "row"] ["packed"] (defScope s_is_packed_idempotent) := ⟨rfl, rfl, rfl, by decide +kernel, rfl, by decide +kernel, by decide +kernel⟩
theorem ok_is_packed_idempotent (c_row_times : HasG false P w K mg base "row_times" 1 ["row", "packed"] (spM ⟨K, mg, T, none⟩ f_row_times)) (F : Fun K "is_packed_idempotent" "is_packed_idempotent" s_is_packed_idempotent f fd) : FnG false P w K mg base 2 f fd ["packed"] (spM ⟨K, mg, T, none⟩ f_is_packed_idempotent) :=
  fn_body F sc_is_packed_idempotent rfl fun cdv A outer s H E hr hgu => ⟨_, (pss_cons (ps_for (passes_of rfl) rfl (pi_tup (pv 0)) (pg_name (i := 1) sc_is_packed_idempotent.nd rfl (by first | exact Or.inl rfl | exact Or.inr rfl))
      (pss_one (ps_if (pt_cmpR (op_neX (hr_u hr)) (pe_callHG c_row_times (hr.mono (by decide)) gdF (by rfl) (takes_of rfl rfl rfl rfl) (pa_cons (pv 1) (pa_cons (pv 0) pa_nil))) (pv 1) (nomark _))
      (pss_one (ps_ret pe_bl))
      pss_nil)))
      (pss_one (ps_ret pe_bl))),
    (sx_seq (sx_for (ix_tup' (ex_var (i := 0))) gx_name
      (sx_if (tx_test (ex_op (ex_call (ao_cons (ex_var (i := 1)) (ao_cons (ex_var (i := 0)) ao_nil))) (ex_var (i := 1))))
      (sx_ret (ex_con fun _ => rfl))
      sx_next))
      (sx_ret (ex_con fun _ => rfl)))⟩
def m_packed_table : S := (sSeq (sAsg (nmD 2) (callM f_packed_form (aoCons (eVar 0) (aoCons (eVar 1) aoNil))))
      (sSeq (sIf (tTru isBl (eOp isD (eVar 2) (eCon .non)))
      (sRaise (Str.ofString "InvalidTable"))
      sNext)
      (sRet (eVar 2))))
def f_packed_table : FnM := runBody 2 1 m_packed_table
theorem sc_packed_table : FnScope ["size", "table", "packed"] ["size", "table"] (defScope s_packed_table) := ⟨rfl, rfl, rfl, by decide +kernel, rfl, by decide +kernel, by decide +kernel⟩
theorem ok_packed_table (c_packed_form : HasG false P w K mg base "packed_form" 1 ["size", "value"] (spM ⟨K, mg, T, none⟩ f_packed_form)) {a_X_InvalidTable : Addr} (x_InvalidTable : XOwn K mg "InvalidTable" a_X_InvalidTable) (F : Fun K "packed_table" "packed_table" s_packed_table f fd) : FnG false P w K mg base 2 f fd ["size", "table"] (spM ⟨K, mg, T, none⟩ f_packed_table) :=
  fn_body F sc_packed_table rfl fun cdv A outer s H E hr hgu => ⟨_, (pss_cons (ps_set (i := 2) sc_packed_table.nd rfl (by first | exact Or.inl rfl | exact Or.inr rfl) (pe_callHG c_packed_form (hr.mono (by decide)) gdF (by rfl) (takes_of rfl rfl rfl rfl) (pa_cons (pv 0) (pa_cons (pv 1) pa_nil))))
      (pss_cons (ps_if (pt_cmpR op_isX (pv 2) pe_non (nomark _))
      (pss_one (ps_raiseX rfl (takes_of rfl rfl rfl rfl) x_InvalidTable (by rfl)))
      pss_nil)
      (pss_one (ps_ret (pv 2))))),
    (sx_seq (sx_asg (ex_call (ao_cons (ex_var (i := 0)) (ao_cons (ex_var (i := 1)) ao_nil))) gx_name)
      (sx_seq (sx_if (tx_test (ex_op (ex_var (i := 2)) (ex_con fun _ => rfl)))
      (sx_raise x_InvalidTable.g)
      sx_next)
      (sx_ret (ex_var (i := 2)))))⟩
def m_law_times : S := (sSeq (sNew 2 (eNew aNil))
      (sSeq (sFor (itBy asTup (eVar 0)) (nmD 3)
      (sSeq (sNew 4 (eNew aNil))
      (sSeq (sFor (itBs rng1D (aCons (eCall lenD (aCons (eVar 3) aNil)) aNil)) (nmD 5)
      (sSeq (sAsg (nmD 6) (eCon (.str (Str.ofString "none"))))
      (sSeq (sFor (itBs enumAD (aCons (eVar 3) aNil)) (tupD 2 (consD (nmD 7) (consD (nmD 8) nilD)))
      (sIf (tTru isBl (eOp neD (eVar 8) (eCon (.str (Str.ofString "none")))))
      (sAsg (nmD 6) (callM f_law_better (aoCons (eVar 6) (aoCons (callM f_law_joined (aoCons (eVar 8) (aoCons (eOp ixD (eOp ixD (eVar 1) (eVar 7)) (eVar 5)) aoNil))) aoNil))))
      sNext))
      (sAppL 4 (eVar 6)))))
      (sFz 4 (sAppL 2 (eCall tupleD (aCons (eVar 4) aNil)))))))
      (sFz 2 (sRet (eCall tupleD (aCons (eVar 2) aNil))))))
def f_law_times : FnM := runBody 2 7 m_law_times
theorem sc_law_times : FnScope ["one", "other", "rows", "row", "entries", "j", "grade", "k", "part"] ["one", "other"] (defScope s_law_times) := ⟨rfl, rfl, rfl, by decide +kernel, rfl, by decide +kernel, by decide +kernel⟩
theorem ok_law_times (g_tuple : mg "tuple" = none) (g_range : mg "range" = none) (g_len : mg "len" = none) (g_enumerate : mg "enumerate" = none) (c_law_better : HasG false P w K mg base "_law_better" 1 ["one", "other"] (spM ⟨K, mg, T, none⟩ f_law_better)) (c_law_joined : HasG false P w K mg base "_law_joined" 1 ["one", "other"] (spM ⟨K, mg, T, none⟩ f_law_joined)) (F : Fun K "_law_times" "_law_times" s_law_times f fd) : FnG false P w K mg base 2 f fd ["one", "other"] (spM ⟨K, mg, T, none⟩ f_law_times) :=
  fn_body F sc_law_times rfl fun cdv A outer s H E hr hgu => ⟨_, (pss_cons (ps_set (i := 2) sc_law_times.nd rfl (by first | exact Or.inl rfl | exact Or.inr rfl) (pe_lst pa_nil))
      (pss_cons (ps_for (passes_of rfl) rfl (pi_tup (pv 0)) (pg_name (i := 3) sc_law_times.nd rfl (by first | exact Or.inl rfl | exact Or.inr rfl))
      (pss_cons (ps_set (i := 4) sc_law_times.nd rfl (by first | exact Or.inl rfl | exact Or.inr rfl) (pe_lst pa_nil))
      (pss_cons (ps_for (passes_of rfl) rfl (pi_range1 rfl g_range (pa_cons (pe_callB call_lenX (by rfl) g_len (by decide +kernel) (pa_cons (pv 3) pa_nil)) pa_nil)) (pg_name (i := 5) sc_law_times.nd rfl (by first | exact Or.inl rfl | exact Or.inr rfl))
      (pss_cons (ps_set (i := 6) sc_law_times.nd rfl (by first | exact Or.inl rfl | exact Or.inr rfl) pe_str)
      (pss_cons (ps_for (passes_of rfl) rfl (pi_enumA (by rfl) g_enumerate (pa_cons (pv 3) pa_nil)) (pg_tup (by rfl) (pgs_cons (pg_name (i := 7) sc_law_times.nd rfl (by first | exact Or.inl rfl | exact Or.inr rfl)) (pgs_cons (pg_name (i := 8) sc_law_times.nd rfl (by first | exact Or.inl rfl | exact Or.inr rfl)) pgs_nil)))
      (pss_one (ps_if (pt_cmpR (op_neX (hr_u hr)) (pv 8) pe_str (nomark _))
      (pss_one (ps_set (i := 6) sc_law_times.nd rfl (by first | exact Or.inl rfl | exact Or.inr rfl) (pe_callHG c_law_better (hr.mono (by decide)) gdF (by rfl) (takes_of rfl rfl rfl rfl) (pa_cons (pv 6) (pa_cons (pe_callHG c_law_joined (hr.mono (by decide)) gdF (by rfl) (takes_of rfl rfl rfl rfl) (pa_cons (pv 8) (pa_cons (pe_ix ix_X (pe_ix ix_X (pv 1) (pv 7) (fun _ _ => rfl)) (pv 5) (fun _ _ => rfl)) pa_nil))) pa_nil)))))
      pss_nil)))
      (pss_one (ps_expr (pe_bm PySem.F.plainAttrs_list PySem.F.slot_list_append PySem.F.type_list_append mt_append (pv 4) (pa_cons (pv 6) pa_nil)))))))
      (pss_one (ps_expr (pe_bm PySem.F.plainAttrs_list PySem.F.slot_list_append PySem.F.type_list_append mt_append (pv 2) (pa_cons (pe_callTy call_tupleX (by rfl) g_tuple (by decide +kernel) (pa_cons (pv 4) pa_nil)) pa_nil)))))))
      (pss_one (ps_ret (pe_callTy call_tupleX (by rfl) g_tuple (by decide +kernel) (pa_cons (pv 2) pa_nil)))))),
    (sx_seq (sx_new (ef_lst ax_nil) (by decide))
      (sx_seq (sx_for (ix_tup' (ex_var (i := 0))) gx_name
      (sx_seq (sx_new (ef_lst ax_nil) (by decide))
      (sx_seq (sx_for (ix_rng1 (ax_cons (ex_cD (ax_cons (ex_var (i := 3)) ax_nil)) ax_nil)) gx_name
      (sx_seq (sx_asg (ex_con fun _ => rfl) gx_name)
      (sx_seq (sx_for (ix_enumA (ax_cons (ex_var (i := 3)) ax_nil)) (gx_tup (gxs_cons gx_name (gxs_cons gx_name gxs_nil)))
      (sx_if (tx_test (ex_op (ex_var (i := 8)) (ex_con fun _ => rfl)))
      (sx_asg (ex_call (ao_cons (ex_var (i := 6)) (ao_cons (ex_call (ao_cons (ex_var (i := 8)) (ao_cons (ex_op (ex_op (ex_var (i := 1)) (ex_var (i := 7))) (ex_var (i := 5))) ao_nil))) ao_nil))) gx_name)
      sx_next))
      (sx_app (ex_var (i := 6))))))
      (sx_fz (by decide) (sx_app (ex_cD (ax_cons (ex_var (i := 4)) ax_nil)))))))
      (sx_fz (by decide) (sx_ret (ex_cD (ax_cons (ex_var (i := 2)) ax_nil))))))⟩
def m_law_other : S := (sSeq (sAsg (nmD 1) (eLst (aCons (eCon .non) (aCons (eCon (.bl true)) (aCons (eUn negD (eCon (.int 1))) (aCons (eCon (.int 0)) (aCons (eCon (.int 1)) (aCons (eCon (.str (Str.ofString ""))) (aCons (eCon (.str (Str.ofString "a"))) (aCons (eCon (.str (Str.ofString "ab"))) (aCons (eTup aNil) (aCons (eLst aNil) (aCons (eDct []) (aCons (eTup (aCons (eCon (.int 0)) aNil)) (aCons (eTup (aCons (eCon (.str (Str.ofString "a"))) aNil)) (aCons (eOp powD (eCon (.int 10)) (eCon (.int 39))) aNil))))))))))))))))
      (sSeq (sAsg (nmD 1) (eOp addD (eVar 1) (eLst (aCons (eCon (.str (Str.ofString "never"))) (aCons (eTup (aCons (eCon .non) aNil)) (aCons (eTup (aCons (eTup aNil) aNil)) (aCons (eLst (aCons (eTup aNil) aNil)) (aCons (eDct [(.inl 0, .int (1))]) aNil))))))))
      (sRet (eOp ixD (eVar 1) (callM f_law_draw (aoOwn 0 (aoCons (eCall lenD (aCons (eVar 1) aNil)) aoNil)))))))
def f_law_other : FnM := runBody 1 1 m_law_other
theorem sc_law_other : FnScope ["stream", "some"] ["stream"] (defScope s_law_other) := ⟨rfl, rfl, rfl, by decide +kernel, rfl, by decide +kernel, by decide +kernel⟩
theorem ok_law_other (c_law_draw : HasG false P w K mg base "_law_draw" 1 ["stream", "total"] (spM ⟨K, mg, T, none⟩ f_law_draw)) (g_len : mg "len" = none) (F : Fun K "_law_other" "_law_other" s_law_other f fd) : FnG false P w K mg base 2 f fd ["stream"] (spM ⟨K, mg, T, none⟩ f_law_other) :=
  fn_body F sc_law_other rfl fun cdv A outer s H E hr hgu => ⟨_, (pss_cons (ps_set (i := 1) sc_law_other.nd rfl (by first | exact Or.inl rfl | exact Or.inr rfl) (pe_lst (pa_cons pe_non (pa_cons pe_bl (pa_cons (pe_un un_negX pe_int) (pa_cons pe_int (pa_cons pe_int (pa_cons pe_str (pa_cons pe_str (pa_cons pe_str (pa_cons (pe_tup pa_nil) (pa_cons (pe_lst pa_nil) (pa_cons pe_dnewK (pa_cons (pe_tup (pa_cons pe_int pa_nil)) (pa_cons (pe_tup (pa_cons pe_str pa_nil)) (pa_cons (pe_op op_powX pe_int pe_int) pa_nil))))))))))))))))
      (pss_cons (ps_set (i := 1) sc_law_other.nd rfl (by first | exact Or.inl rfl | exact Or.inr rfl) (pe_op op_addX (pv 1) (pe_lst (pa_cons pe_str (pa_cons (pe_tup (pa_cons pe_non pa_nil)) (pa_cons (pe_tup (pa_cons (pe_tup pa_nil) pa_nil)) (pa_cons (pe_lst (pa_cons (pe_tup pa_nil) pa_nil)) (pa_cons (pe_disp (pps_cons pe_int pe_int pps_nil) (by rfl) (by rfl) (fun z => by cases z) (by decide)) pa_nil))))))))
      (pss_one (ps_ret (pe_ix ix_X (pv 1) (pe_callHG c_law_draw (hr.mono (by decide)) gdF (by rfl) (takes_of rfl rfl rfl rfl) (pa_cons (pv 0) (pa_cons (pe_callB call_lenX (by rfl) g_len (by decide +kernel) (pa_cons (pv 1) pa_nil)) pa_nil))) (fun _ _ => rfl)))))),
    (sx_seq (sx_asg (ex_lst (ax_cons (ex_con fun _ => rfl) (ax_cons (ex_con fun _ => rfl) (ax_cons (ex_un (ex_con fun _ => rfl)) (ax_cons (ex_con fun _ => rfl) (ax_cons (ex_con fun _ => rfl) (ax_cons (ex_con fun _ => rfl) (ax_cons (ex_con fun _ => rfl) (ax_cons (ex_con fun _ => rfl) (ax_cons (ex_tup ax_nil) (ax_cons (ex_lst ax_nil) (ax_cons ex_d0 (ax_cons (ex_tup (ax_cons (ex_con fun _ => rfl) ax_nil)) (ax_cons (ex_tup (ax_cons (ex_con fun _ => rfl) ax_nil)) (ax_cons (ex_op (ex_con fun _ => rfl) (ex_con fun _ => rfl)) ax_nil))))))))))))))) gx_name)
      (sx_seq (sx_asg (ex_op (ex_var (i := 1)) (ex_lst (ax_cons (ex_con fun _ => rfl) (ax_cons (ex_tup (ax_cons (ex_con fun _ => rfl) ax_nil)) (ax_cons (ex_tup (ax_cons (ex_tup ax_nil) ax_nil)) (ax_cons (ex_lst (ax_cons (ex_tup ax_nil) ax_nil)) (ax_cons (ex_dC (kvs := [(.inl 0, .int (1))]) (kds := [(.inl 0, .int (1))]) (by decide) (by rfl) (fun _ => by simp [RepL, Rep, mergeK, putK])) ax_nil))))))) gx_name)
      (sx_ret (ex_op (ex_var (i := 1)) (ex_call (ao_own (ao_cons (ex_cD (ax_cons (ex_var (i := 1)) ax_nil)) ao_nil)))))))⟩
def m_law_some_table : S := (sSeq (sAsg (nmD 2) (eOp ixD (eLst (aCons (eLst (aCons (eCon (.str (Str.ofString "restart"))) (aCons (eCon (.str (Str.ofString "free"))) (aCons (eCon (.str (Str.ofString "paid"))) (aCons (eCon (.str (Str.ofString "dear"))) (aCons (eCon (.str (Str.ofString "none"))) aNil)))))) (aCons (eLst (aCons (eCon (.str (Str.ofString "none"))) (aCons (eCon (.str (Str.ofString "none"))) (aCons (eCon (.str (Str.ofString "none"))) (aCons (eCon (.str (Str.ofString "free"))) (aCons (eCon (.str (Str.ofString "paid"))) aNil)))))) (aCons (eLst (aCons (eCon (.str (Str.ofString "paid"))) (aCons (eCon (.str (Str.ofString "paid"))) (aCons (eCon (.str (Str.ofString "free"))) (aCons (eCon (.str (Str.ofString "none"))) (aCons (eCon (.str (Str.ofString "restart"))) aNil)))))) aNil)))) (callM f_law_draw (aoOwn 0 (aoCons (eCon (.int 3)) aoNil)))))
      (sSeq (sNew 3 (eNew aNil))
      (sSeq (sFor (itBs rng1D (aCons (eVar 1) aNil)) (nmD 4)
      (sSeq (sNew 5 (eNew aNil))
      (sSeq (sFor (itBs rng1D (aCons (eVar 1) aNil)) (nmD 6)
      (sAppL 5 (eOp ixD (eVar 2) (callM f_law_draw (aoOwn 0 (aoCons (eCon (.int 5)) aoNil))))))
      (sFz 5 (sAppL 3 (eCall tupleD (aCons (eVar 5) aNil)))))))
      (sFz 3 (sRet (eCall tupleD (aCons (eVar 3) aNil)))))))
def f_law_some_table : FnM := runBody 2 5 m_law_some_table
theorem sc_law_some_table : FnScope ["stream", "size", "signs", "rows", "i", "row", "j"] ["stream", "size"] (defScope s_law_some_table) := ⟨rfl, rfl, rfl, by decide +kernel, rfl, by decide +kernel, by decide +kernel⟩
theorem ok_law_some_table (g_range : mg "range" = none) (g_tuple : mg "tuple" = none) (c_law_draw : HasG false P w K mg base "_law_draw" 1 ["stream", "total"] (spM ⟨K, mg, T, none⟩ f_law_draw)) (F : Fun K "_law_some_table" "_law_some_table" s_law_some_table f fd) : FnG false P w K mg base 2 f fd ["stream", "size"] (spM ⟨K, mg, T, none⟩ f_law_some_table) :=
  fn_body F sc_law_some_table rfl fun cdv A outer s H E hr hgu => ⟨_, (pss_cons (ps_set (i := 2) sc_law_some_table.nd rfl (by first | exact Or.inl rfl | exact Or.inr rfl) (pe_ix ix_X (pe_lst (pa_cons (pe_lst (pa_cons pe_str (pa_cons pe_str (pa_cons pe_str (pa_cons pe_str (pa_cons pe_str pa_nil)))))) (pa_cons (pe_lst (pa_cons pe_str (pa_cons pe_str (pa_cons pe_str (pa_cons pe_str (pa_cons pe_str pa_nil)))))) (pa_cons (pe_lst (pa_cons pe_str (pa_cons pe_str (pa_cons pe_str (pa_cons pe_str (pa_cons pe_str pa_nil)))))) pa_nil)))) (pe_callHG c_law_draw (hr.mono (by decide)) gdF (by rfl) (takes_of rfl rfl rfl rfl) (pa_cons (pv 0) (pa_cons pe_int pa_nil))) (fun _ _ => rfl)))
      (pss_cons (ps_set (i := 3) sc_law_some_table.nd rfl (by first | exact Or.inl rfl | exact Or.inr rfl) (pe_lst pa_nil))
      (pss_cons (ps_for (passes_of rfl) rfl (pi_range1 rfl g_range (pa_cons (pv 1) pa_nil)) (pg_name (i := 4) sc_law_some_table.nd rfl (by first | exact Or.inl rfl | exact Or.inr rfl))
      (pss_cons (ps_set (i := 5) sc_law_some_table.nd rfl (by first | exact Or.inl rfl | exact Or.inr rfl) (pe_lst pa_nil))
      (pss_cons (ps_for (passes_of rfl) rfl (pi_range1 rfl g_range (pa_cons (pv 1) pa_nil)) (pg_name (i := 6) sc_law_some_table.nd rfl (by first | exact Or.inl rfl | exact Or.inr rfl))
      (pss_one (ps_expr (pe_bm PySem.F.plainAttrs_list PySem.F.slot_list_append PySem.F.type_list_append mt_append (pv 5) (pa_cons (pe_ix ix_X (pv 2) (pe_callHG c_law_draw (hr.mono (by decide)) gdF (by rfl) (takes_of rfl rfl rfl rfl) (pa_cons (pv 0) (pa_cons pe_int pa_nil))) (fun _ _ => rfl)) pa_nil)))))
      (pss_one (ps_expr (pe_bm PySem.F.plainAttrs_list PySem.F.slot_list_append PySem.F.type_list_append mt_append (pv 3) (pa_cons (pe_callTy call_tupleX (by rfl) g_tuple (by decide +kernel) (pa_cons (pv 5) pa_nil)) pa_nil)))))))
      (pss_one (ps_ret (pe_callTy call_tupleX (by rfl) g_tuple (by decide +kernel) (pa_cons (pv 3) pa_nil))))))),
    (sx_seq (sx_asg (ex_op (ex_lst (ax_cons (ex_lst (ax_cons (ex_con fun _ => rfl) (ax_cons (ex_con fun _ => rfl) (ax_cons (ex_con fun _ => rfl) (ax_cons (ex_con fun _ => rfl) (ax_cons (ex_con fun _ => rfl) ax_nil)))))) (ax_cons (ex_lst (ax_cons (ex_con fun _ => rfl) (ax_cons (ex_con fun _ => rfl) (ax_cons (ex_con fun _ => rfl) (ax_cons (ex_con fun _ => rfl) (ax_cons (ex_con fun _ => rfl) ax_nil)))))) (ax_cons (ex_lst (ax_cons (ex_con fun _ => rfl) (ax_cons (ex_con fun _ => rfl) (ax_cons (ex_con fun _ => rfl) (ax_cons (ex_con fun _ => rfl) (ax_cons (ex_con fun _ => rfl) ax_nil)))))) ax_nil)))) (ex_call (ao_own (ao_cons (ex_con fun _ => rfl) ao_nil)))) gx_name)
      (sx_seq (sx_new (ef_lst ax_nil) (by decide))
      (sx_seq (sx_for (ix_rng1 (ax_cons (ex_var (i := 1)) ax_nil)) gx_name
      (sx_seq (sx_new (ef_lst ax_nil) (by decide))
      (sx_seq (sx_for (ix_rng1 (ax_cons (ex_var (i := 1)) ax_nil)) gx_name
      (sx_app (ex_op (ex_var (i := 2)) (ex_call (ao_own (ao_cons (ex_con fun _ => rfl) ao_nil))))))
      (sx_fz (by decide) (sx_app (ex_cD (ax_cons (ex_var (i := 5)) ax_nil)))))))
      (sx_fz (by decide) (sx_ret (ex_cD (ax_cons (ex_var (i := 3)) ax_nil)))))))⟩
def m_packed_pumped : S := (sSeq (sAsg (nmD 1) (eFr (eLc (itBs enumAD (aCons (eVar 0) aNil)) (tupD 2 (consD (nmD 2) (consD (nmD 3) nilD))) (M.pure true) (eOp andD (eOp shrD (eVar 3) (eVar 2)) (eCon (.int 16843009))) [2, 3])))
      (sSeq (sIf (tTru isBl (eOp ninD (eCon (.int 257)) (eVar 1)))
      (sRet (eVar 0))
      sNext)
      (sSeq (sAsg (nmD 4) (eFr (eLc (itBs zipBD (aCons (eVar 1) (aCons (eVar 0) aNil))) (tupD 2 (consD (nmD 5) (consD (nmD 3) nilD))) (M.pure true) (callM f_row_times (aoCons (eIf (tTru isBl (eOp eqD (eVar 5) (eCon (.int 257)))) (eCon (.int 1)) (eVar 5)) (aoCons (eTup (aCons (eVar 3) aNil)) aoNil))) [5, 3])))
      (sRet (callM f_packed_product (aoCons (eVar 0) (aoCons (eVar 4) aoNil)))))))
def f_packed_pumped : FnM := runBody 1 5 m_packed_pumped
theorem sc_packed_pumped : FnScope ["packed", "codes", "place", "row", "behind", "code"] ["packed"] (defScope s_packed_pumped) := ⟨rfl, rfl, rfl, by decide +kernel, rfl, by decide +kernel, by decide +kernel⟩
theorem ok_packed_pumped {k_PAID : Tok} (g_PAID : mg "PAID" = some (.int 257 k_PAID)) (c_packed_product : HasG false P w K mg base "packed_product" 2 ["first", "second"] (spM ⟨K, mg, T, none⟩ f_packed_product)) {k_RESTART : Tok} (g_RESTART : mg "RESTART" = some (.int 16843009 k_RESTART)) (c_row_times : HasG false P w K mg base "row_times" 1 ["row", "packed"] (spM ⟨K, mg, T, none⟩ f_row_times)) (g_enumerate : mg "enumerate" = none) {k_DEAR : Tok} (g_DEAR : mg "DEAR" = some (.int 1 k_DEAR)) (g_zip : mg "zip" = none) (F : Fun K "packed_pumped" "packed_pumped" s_packed_pumped f fd) : FnG false P w K mg base 3 f fd ["packed"] (spM ⟨K, mg, T, none⟩ f_packed_pumped) :=
  fn_body F sc_packed_pumped rfl fun cdv A outer s H E hr hgu => ⟨_, (pss_cons (ps_setLc (i := 1) (own := [("place", 2), ("row", 3)]) (by rfl) sc_packed_pumped.nd rfl rfl (sw_true rfl rfl rfl (by decide +kernel)) (pi_enumA (by rfl) g_enumerate (pa_cons (pv 0) pa_nil)) (blkOk_by (own := [("place", 2), ("row", 3)]) (N := ["packed", "codes", "place", "row", "behind", "code"]) (sc := defScope s_packed_pumped) (by decide +kernel)) (fun _ _ _ _ _ => (pg_tup (by rfl) (pgs_cons (pg_name (i := 2) sc_packed_pumped.nd rfl (by first | exact Or.inl rfl | exact Or.inr rfl)) (pgs_cons (pg_name (i := 3) sc_packed_pumped.nd rfl (by first | exact Or.inl rfl | exact Or.inr rfl)) pgs_nil)))) (fun _ _ _ _ _ => pts_nil) (fun _ _ _ _ _ => (pe_op op_andX (pe_op op_shrX (pv 3) (pv 2)) (pe_glob (v := .int 16843009) (by rfl) g_RESTART ⟨_, rfl⟩))))
      (pss_cons (ps_if (pt_cmpR (op_ninX (hr_u hr)) (pe_glob (v := .int 257) (by rfl) g_PAID ⟨_, rfl⟩) (pv 1) (by rfl))
      (pss_one (ps_ret (pv 0)))
      pss_nil)
      (pss_cons (ps_setLc (i := 4) (own := [("code", 5), ("row", 3)]) (by rfl) sc_packed_pumped.nd rfl rfl (sw_true rfl rfl rfl (by decide +kernel)) (pi_zipB (by rfl) g_zip (pa_cons (pv 1) (pa_cons (pv 0) pa_nil))) (blkOk_by (own := [("code", 5), ("row", 3)]) (N := ["packed", "codes", "place", "row", "behind", "code"]) (sc := defScope s_packed_pumped) (by decide +kernel)) (fun _ _ _ _ _ => (pg_tup (by rfl) (pgs_cons (pg_name (i := 5) sc_packed_pumped.nd rfl (by first | exact Or.inl rfl | exact Or.inr rfl)) (pgs_cons (pg_name (i := 3) sc_packed_pumped.nd rfl (by first | exact Or.inl rfl | exact Or.inr rfl)) pgs_nil)))) (fun _ _ _ _ _ => pts_nil) (fun _ _ _ _ _ => (pe_callHG c_row_times (hr.mono (by decide)) gdF (by rfl) Pl.takes0w (pa_cons (pe_ifExp (pt_cmpR (op_eqX (hr_u hr)) (pv 5) (pe_glob (v := .int 257) (by rfl) g_PAID ⟨_, rfl⟩) (nomark _)) (pe_glob (v := .int 1) (by rfl) g_DEAR ⟨_, rfl⟩) (pv 5)) (pa_cons (pe_tup (pa_cons (pv 3) pa_nil)) pa_nil)))))
      (pss_one (ps_ret (pe_callHG c_packed_product (hr.mono (by decide)) gdF (by rfl) (takes_of rfl rfl rfl rfl) (pa_cons (pv 0) (pa_cons (pv 4) pa_nil)))))))),
    (sx_seq (sx_asg (ex_fr (ef_lc (ix_enumA (ax_cons (ex_var (i := 0)) ax_nil)) (gx_tup (gxs_cons gx_name (gxs_cons gx_name gxs_nil))) (by decide) tx_yes (ex_op (ex_op (ex_var (i := 3)) (ex_var (i := 2))) (ex_con fun _ => rfl)))) gx_name)
      (sx_seq (sx_if (tx_test (ex_op (ex_con fun _ => rfl) (ex_var (i := 1))))
      (sx_ret (ex_var (i := 0)))
      sx_next)
      (sx_seq (sx_asg (ex_fr (ef_lc (ix_zipB (ax_cons (ex_var (i := 1)) (ax_cons (ex_var (i := 0)) ax_nil))) (gx_tup (gxs_cons gx_name (gxs_cons gx_name gxs_nil))) (by decide) tx_yes (ex_call (ao_cons (ex_if (tx_test (ex_op (ex_var (i := 5)) (ex_con fun _ => rfl))) (ex_con fun _ => rfl) (ex_var (i := 5))) (ao_cons (ex_tup (ax_cons (ex_var (i := 3)) ax_nil)) ao_nil))))) gx_name)
      (sx_ret (ex_call (ao_cons (ex_var (i := 0)) (ao_cons (ex_var (i := 4)) ao_nil)))))))⟩
def m_is_table : S := (sSeq (sIf (tNotB (tTru isBl (callM f_is_between (aoCons (eVar 0) (aoCons (eCon (.int 1)) (aoCons (eCon (.int 8)) aoNil))))))
      (sRaiseV (Str.ofString "InvalidNumber") (Str.ofString "value") (eVar 0))
      sNext)
      (sRet (eOp isntD (callM f_packed_form (aoCons (eVar 0) (aoCons (eVar 1) aoNil))) (eCon .non))))
def f_is_table : FnM := runBody 2 0 m_is_table
theorem sc_is_table : FnScope ["size", "value"] ["size", "value"] (defScope s_is_table) := ⟨rfl, rfl, rfl, by decide +kernel, rfl, by decide +kernel, by decide +kernel⟩
theorem ok_is_table (c_is_between : HasG false P w K mg base "is_between" 1 ["value", "low", "high"] (spM ⟨K, mg, T, none⟩ f_is_between)) {k_MAX_STATES : Tok} (g_MAX_STATES : mg "MAX_STATES" = some (.int 8 k_MAX_STATES)) {a_X_InvalidNumber : Addr} (x_InvalidNumber : XVal P w K mg base "InvalidNumber" "value" a_X_InvalidNumber) (c_packed_form : HasG false P w K mg base "packed_form" 1 ["size", "value"] (spM ⟨K, mg, T, none⟩ f_packed_form)) (F : Fun K "is_table" "is_table" s_is_table f fd) : FnG false P w K mg base 3 f fd ["size", "value"] (spM ⟨K, mg, T, none⟩ f_is_table) :=
  fn_body F sc_is_table rfl fun cdv A outer s H E hr hgu => ⟨_, (pss_cons (ps_if (pt_not (pt_val (pe_callHG c_is_between (hr.mono (by decide)) gdF (by rfl) (takes_of rfl rfl rfl rfl) (pa_cons (pv 0) (pa_cons pe_int (pa_cons (pe_glob (v := .int 8) (by rfl) g_MAX_STATES ⟨_, rfl⟩) pa_nil))))))
      (pss_one (ps_raiseV rfl (takes_of rfl rfl rfl rfl) x_InvalidNumber (hr.mono (by decide)) (by rfl) (pv 0)))
      pss_nil)
      (pss_one (ps_ret (pe_cmpR op_isntX (pe_callHG c_packed_form (hr.mono (by decide)) gdF (by rfl) (takes_of rfl rfl rfl rfl) (pa_cons (pv 0) (pa_cons (pv 1) pa_nil))) pe_non (nomark _))))),
    (sx_seq (sx_if (tx_not (tx_bool (ex_call (ao_cons (ex_var (i := 0)) (ao_cons (ex_con fun _ => rfl) (ao_cons (ex_con fun _ => rfl) ao_nil))))))
      (sx_raiseV x_InvalidNumber.g (ex_var (i := 0)))
      sx_next)
      (sx_ret (ex_op (ex_call (ao_cons (ex_var (i := 0)) (ao_cons (ex_var (i := 1)) ao_nil))) (ex_con fun _ => rfl))))⟩
def m_first_packed : S := (sSeq (sIf (tOrB (tNotB (tTru isBl (eCall isiD (aCons (eVar 0) (aCons (eCon (.rf (.ty "tuple"))) aNil))))) (tNotB (tTru isBl (eChain leD leD (eCon (.int 1)) (eCall lenD (aCons (eVar 0) aNil)) (eCon (.int 8))))))
      (sRaise (Str.ofString "InvalidTable"))
      sNext)
      (sRet (callM f_packed_table (aoCons (eCall lenD (aCons (eVar 0) aNil)) (aoCons (eVar 0) aoNil)))))
def f_first_packed : FnM := runBody 1 0 m_first_packed
theorem sc_first_packed : FnScope ["table"] ["table"] (defScope s_first_packed) := ⟨rfl, rfl, rfl, by decide +kernel, rfl, by decide +kernel, by decide +kernel⟩
theorem ok_first_packed (c_packed_table : HasG false P w K mg base "packed_table" 2 ["size", "table"] (spM ⟨K, mg, T, none⟩ f_packed_table)) {a_X_InvalidTable : Addr} (x_InvalidTable : XOwn K mg "InvalidTable" a_X_InvalidTable) (g_len : mg "len" = none) (g_isinstance : mg "isinstance" = none) (g_tuple : mg "tuple" = none) {k_MAX_STATES : Tok} (g_MAX_STATES : mg "MAX_STATES" = some (.int 8 k_MAX_STATES)) (F : Fun K "first_packed" "first_packed" s_first_packed f fd) : FnG false P w K mg base 3 f fd ["table"] (spM ⟨K, mg, T, none⟩ f_first_packed) :=
  fn_body F sc_first_packed rfl fun cdv A outer s H E hr hgu => ⟨_, (pss_cons (ps_if (PW.pt (pw_or (pt_not (pt_val (pe_callB call_isiX (by rfl) g_isinstance (by decide +kernel) (pa_cons (pv 0) (pa_cons (pe_bltn (v := .ty "tuple") rfl g_tuple (by decide +kernel) rfl) pa_nil))))) (pw_or1 (pt_not (pt_chain op_leX op_leX pe_int (pe_callB call_lenX (by rfl) g_len (by decide +kernel) (pa_cons (pv 0) pa_nil)) (pe_glob (v := .int 8) (by rfl) g_MAX_STATES ⟨_, rfl⟩))))))
      (pss_one (ps_raiseX rfl (takes_of rfl rfl rfl rfl) x_InvalidTable (by rfl)))
      pss_nil)
      (pss_one (ps_ret (pe_callHG c_packed_table (hr.mono (by decide)) gdF (by rfl) (takes_of rfl rfl rfl rfl) (pa_cons (pe_callB call_lenX (by rfl) g_len (by decide +kernel) (pa_cons (pv 0) pa_nil)) (pa_cons (pv 0) pa_nil)))))),
    (sx_seq (sx_if (tx_or (tx_not (tx_bool (ex_cD (ax_cons (ex_var (i := 0)) (ax_cons (ex_con fun _ => rfl) ax_nil))))) (tx_not (tx_test (ex_chain (ex_con fun _ => rfl) (ex_cD (ax_cons (ex_var (i := 0)) ax_nil)) (ex_con fun _ => rfl)))))
      (sx_raise x_InvalidTable.g)
      sx_next)
      (sx_ret (ex_call (ao_cons (ex_cD (ax_cons (ex_var (i := 0)) ax_nil)) (ao_cons (ex_var (i := 0)) ao_nil)))))⟩
def m_law_steady : S := (sSeq (sAsg (nmD 1) (eVar 0))
      (sSeq (sFor (itBs rng1D (aCons (eCon (.int 40)) aNil)) (nmD 2)
      (sSeq (sIf (tTru isBl (eOp eqD (callM f_law_times (aoCons (eVar 1) (aoCons (eVar 1) aoNil))) (eVar 1)))
      (sRet (eVar 1))
      sNext)
      (sAsg (nmD 1) (callM f_law_times (aoCons (eVar 1) (aoCons (eVar 0) aoNil))))))
      (sRet (eCon .non))))
def f_law_steady : FnM := runBody 1 2 m_law_steady
theorem sc_law_steady : FnScope ["table", "found", "turn"] ["table"] (defScope s_law_steady) := ⟨rfl, rfl, rfl, by decide +kernel, rfl, by decide +kernel, by decide +kernel⟩
theorem ok_law_steady (g_range : mg "range" = none) (c_law_times : HasG false P w K mg base "_law_times" 2 ["one", "other"] (spM ⟨K, mg, T, none⟩ f_law_times)) (F : Fun K "_law_steady" "_law_steady" s_law_steady f fd) : FnG false P w K mg base 3 f fd ["table"] (spM ⟨K, mg, T, none⟩ f_law_steady) :=
  fn_body F sc_law_steady rfl fun cdv A outer s H E hr hgu => ⟨_, (pss_cons (ps_set (i := 1) sc_law_steady.nd rfl (by first | exact Or.inl rfl | exact Or.inr rfl) (pv 0))
      (pss_cons (ps_for (passes_of rfl) rfl (pi_range1 rfl g_range (pa_cons pe_int pa_nil)) (pg_name (i := 2) sc_law_steady.nd rfl (by first | exact Or.inl rfl | exact Or.inr rfl))
      (pss_cons (ps_if (pt_cmpR (op_eqX (hr_u hr)) (pe_callHG c_law_times (hr.mono (by decide)) gdF (by rfl) (takes_of rfl rfl rfl rfl) (pa_cons (pv 1) (pa_cons (pv 1) pa_nil))) (pv 1) (nomark _))
      (pss_one (ps_ret (pv 1)))
      pss_nil)
      (pss_one (ps_set (i := 1) sc_law_steady.nd rfl (by first | exact Or.inl rfl | exact Or.inr rfl) (pe_callHG c_law_times (hr.mono (by decide)) gdF (by rfl) (takes_of rfl rfl rfl rfl) (pa_cons (pv 1) (pa_cons (pv 0) pa_nil)))))))
      (pss_one (ps_ret pe_non)))),
    (sx_seq (sx_asg (ex_var (i := 0)) gx_name)
      (sx_seq (sx_for (ix_rng1 (ax_cons (ex_con fun _ => rfl) ax_nil)) gx_name
      (sx_seq (sx_if (tx_test (ex_op (ex_call (ao_cons (ex_var (i := 1)) (ao_cons (ex_var (i := 1)) ao_nil))) (ex_var (i := 1))))
      (sx_ret (ex_var (i := 1)))
      sx_next)
      (sx_asg (ex_call (ao_cons (ex_var (i := 1)) (ao_cons (ex_var (i := 0)) ao_nil))) gx_name)))
      (sx_ret (ex_con fun _ => rfl))))⟩
def m_product : S := (sSeq (sAsg (nmD 2) (callM f_first_packed (aoCons (eVar 0) aoNil)))
      (sSeq (sFor (itBy asLst (eFr (eLcX (itBy asTup (eVar 1)) (nmD 4) (M.pure true) (callM f_packed_table (aoCons (eCall lenD (aCons (eVar 2) aNil)) (aoCons (eVar 4) aoNil))) [4]))) (nmD 3)
      (sAsg (nmD 2) (callM f_packed_product (aoCons (eVar 2) (aoCons (eVar 3) aoNil)))))
      (sRet (callM f_table_from (aoCons (eVar 2) aoNil)))))
def f_product : FnM := runStar1 3 m_product
theorem sc_product : FnScope ["table", "tables", "found", "other", "further"] ["table", "tables"] (defScope s_product) := ⟨rfl, rfl, rfl, by decide +kernel, rfl, by decide +kernel, by decide +kernel⟩
theorem ok_product (c_first_packed : HasG false P w K mg base "first_packed" 3 ["table"] (spM ⟨K, mg, T, none⟩ f_first_packed)) (c_table_from : HasG false P w K mg base "table_from" 1 ["packed"] (spM ⟨K, mg, T, none⟩ f_table_from)) (c_packed_table : HasG false P w K mg base "packed_table" 2 ["size", "table"] (spM ⟨K, mg, T, none⟩ f_packed_table)) (c_packed_product : HasG false P w K mg base "packed_product" 2 ["first", "second"] (spM ⟨K, mg, T, none⟩ f_packed_product)) (g_len : mg "len" = none) (F : Fun K "product" "product" s_product f fd) (bi : ∀ (v : Value) (rest : List Value), bindArgs fd ⟨v :: rest, []⟩ = (newTuple rest >>= fun t => pure [(("table" : Str), v), (("tables" : Str), t)])) : FnS false P w K mg base 4 f (spM ⟨K, mg, T, none⟩ f_product) :=
  fn_rest1 F sc_product rfl bi fun cdv A outer s H E hr hgu => ⟨_, (pss_cons (ps_set (i := 2) sc_product.nd rfl (by first | exact Or.inl rfl | exact Or.inr rfl) (pe_callHG c_first_packed (hr.mono (by decide)) gdF (by rfl) (takes_of rfl rfl rfl rfl) (pa_cons (pv 0) pa_nil)))
      (pss_cons (ps_for (passes_of rfl) rfl (pi_list (pe_lcE (own := [("further", 4)]) (by rfl) (takes_of rfl rfl rfl rfl) rfl rfl sc_product.nd (pi_tup (pv 1)) (blkOk_by (own := [("further", 4)]) (N := ["table", "tables", "found", "other", "further"]) (sc := defScope s_product) (by decide +kernel)) (fun _ _ _ _ _ => (pg_name (i := 4) sc_product.nd rfl (by first | exact Or.inl rfl | exact Or.inr rfl))) (fun _ _ _ _ _ => pts_nil) (fun _ _ _ _ _ _ _ tk' => (pe_callHG c_packed_table (hr.mono (by decide)) gdF (by rfl) tk' (pa_cons (pe_callB call_lenX (by rfl) g_len (by decide +kernel) (pa_cons (pv 2) pa_nil)) (pa_cons (pv 4) pa_nil)))))) (pg_name (i := 3) sc_product.nd rfl (by first | exact Or.inl rfl | exact Or.inr rfl))
      (pss_one (ps_set (i := 2) sc_product.nd rfl (by first | exact Or.inl rfl | exact Or.inr rfl) (pe_callHG c_packed_product (hr.mono (by decide)) gdF (by rfl) (takes_of rfl rfl rfl rfl) (pa_cons (pv 2) (pa_cons (pv 3) pa_nil))))))
      (pss_one (ps_ret (pe_callHG c_table_from (hr.mono (by decide)) gdF (by rfl) (takes_of rfl rfl rfl rfl) (pa_cons (pv 2) pa_nil)))))),
    (sx_seq (sx_asg (ex_call (ao_cons (ex_var (i := 0)) ao_nil)) gx_name)
      (sx_seq (sx_for (ix_list (ex_fr (ef_lcX (ix_tup' (ex_var (i := 1))) gx_name (by decide) tx_yes (fun _ => (ex_call (ao_cons (ex_cD (ax_cons (ex_var (i := 2)) ax_nil)) (ao_cons (ex_var (i := 4)) ao_nil))))))) gx_name
      (sx_asg (ex_call (ao_cons (ex_var (i := 2)) (ao_cons (ex_var (i := 3)) ao_nil))) gx_name))
      (sx_ret (ex_call (ao_cons (ex_var (i := 2)) ao_nil)))))⟩
def m_is_idempotent : S := (sRet (callM f_is_packed_idempotent (aoCons (callM f_first_packed (aoCons (eVar 0) aoNil)) aoNil)))
def f_is_idempotent : FnM := runBody 1 0 m_is_idempotent
theorem sc_is_idempotent : FnScope ["table"] ["table"] (defScope s_is_idempotent) := ⟨rfl, rfl, rfl, by decide +kernel, rfl, by decide +kernel, by decide +kernel⟩
theorem ok_is_idempotent (c_is_packed_idempotent : HasG false P w K mg base "is_packed_idempotent" 2 ["packed"] (spM ⟨K, mg, T, none⟩ f_is_packed_idempotent)) (c_first_packed : HasG false P w K mg base "first_packed" 3 ["table"] (spM ⟨K, mg, T, none⟩ f_first_packed)) (F : Fun K "is_idempotent" "is_idempotent" s_is_idempotent f fd) : FnG false P w K mg base 4 f fd ["table"] (spM ⟨K, mg, T, none⟩ f_is_idempotent) :=
  fn_body F sc_is_idempotent rfl fun cdv A outer s H E hr hgu => ⟨_, (pss_one (ps_ret (pe_callHG c_is_packed_idempotent (hr.mono (by decide)) gdF (by rfl) (takes_of rfl rfl rfl rfl) (pa_cons (pe_callHG c_first_packed (hr.mono (by decide)) gdF (by rfl) (takes_of rfl rfl rfl rfl) (pa_cons (pv 0) pa_nil)) pa_nil)))),
    (sx_ret (ex_call (ao_cons (ex_call (ao_cons (ex_var (i := 0)) ao_nil)) ao_nil)))⟩
def m_pumped : S := (sSeq (sAsg (nmD 1) (callM f_first_packed (aoCons (eVar 0) aoNil)))
      (sSeq (sIf (tNotB (tTru isBl (callM f_is_packed_idempotent (aoCons (eVar 1) aoNil))))
      (sRaise (Str.ofString "InvalidOperation"))
      sNext)
      (sRet (callM f_table_from (aoCons (callM f_packed_pumped (aoCons (eVar 1) aoNil)) aoNil)))))
def f_pumped : FnM := runBody 1 1 m_pumped
theorem sc_pumped : FnScope ["table", "packed"] ["table"] (defScope s_pumped) := ⟨rfl, rfl, rfl, by decide +kernel, rfl, by decide +kernel, by decide +kernel⟩
theorem ok_pumped (c_first_packed : HasG false P w K mg base "first_packed" 3 ["table"] (spM ⟨K, mg, T, none⟩ f_first_packed)) (c_table_from : HasG false P w K mg base "table_from" 1 ["packed"] (spM ⟨K, mg, T, none⟩ f_table_from)) (c_is_packed_idempotent : HasG false P w K mg base "is_packed_idempotent" 2 ["packed"] (spM ⟨K, mg, T, none⟩ f_is_packed_idempotent)) {a_X_InvalidOperation : Addr} (x_InvalidOperation : XOwn K mg "InvalidOperation" a_X_InvalidOperation) (c_packed_pumped : HasG false P w K mg base "packed_pumped" 3 ["packed"] (spM ⟨K, mg, T, none⟩ f_packed_pumped)) (F : Fun K "pumped" "pumped" s_pumped f fd) : FnG false P w K mg base 4 f fd ["table"] (spM ⟨K, mg, T, none⟩ f_pumped) :=
  fn_body F sc_pumped rfl fun cdv A outer s H E hr hgu => ⟨_, (pss_cons (ps_set (i := 1) sc_pumped.nd rfl (by first | exact Or.inl rfl | exact Or.inr rfl) (pe_callHG c_first_packed (hr.mono (by decide)) gdF (by rfl) (takes_of rfl rfl rfl rfl) (pa_cons (pv 0) pa_nil)))
      (pss_cons (ps_if (pt_not (pt_val (pe_callHG c_is_packed_idempotent (hr.mono (by decide)) gdF (by rfl) (takes_of rfl rfl rfl rfl) (pa_cons (pv 1) pa_nil))))
      (pss_one (ps_raiseX rfl (takes_of rfl rfl rfl rfl) x_InvalidOperation (by rfl)))
      pss_nil)
      (pss_one (ps_ret (pe_callHG c_table_from (hr.mono (by decide)) gdF (by rfl) (takes_of rfl rfl rfl rfl) (pa_cons (pe_callHG c_packed_pumped (hr.mono (by decide)) gdF (by rfl) (takes_of rfl rfl rfl rfl) (pa_cons (pv 1) pa_nil)) pa_nil)))))),
    (sx_seq (sx_asg (ex_call (ao_cons (ex_var (i := 0)) ao_nil)) gx_name)
      (sx_seq (sx_if (tx_not (tx_bool (ex_call (ao_cons (ex_var (i := 1)) ao_nil))))
      (sx_raise x_InvalidOperation.g)
      sx_next)
      (sx_ret (ex_call (ao_cons (ex_call (ao_cons (ex_var (i := 1)) ao_nil)) ao_nil)))))⟩
def m_law_right : S := (sSeq (sAsg (nmD 2) (eFr (eLc (itBs rng1D (aCons (eCon (.int 5)) aNil)) (nmD 3) (M.pure true) (callM f_law_some_table (aoOwn 0 (aoCons (eVar 1) aoNil))) [3])))
      (sSeq (sAsg (tupD 4 (consD (nmD 4) (consD (nmD 5) (consD (nmD 6) (consD (nmD 7) nilD))))) (eTup (aCons (eCall reprD (aCons (eVar 2) aNil)) (aCons (eOp ixD (eVar 2) (eCon (.int 0))) (aCons (eOp ixD (eVar 2) (eCon (.int 1))) (aCons (eOp ixD (eVar 2) (eCon (.int 2))) aNil))))))
      (sSeq (sPar 8 9 (aCons (callM f_law_times (aoCons (callM f_law_times (aoCons (eVar 5) (aoCons (eVar 6) aoNil))) (aoCons (eVar 7) aoNil))) (aCons (callM f_law_times (aoCons (eVar 5) (aoCons (eVar 6) aoNil))) aNil)))
      (sSeq (sIf (tOrB (tTru isBl (eOp neD (callM f_product (aoCons (eVar 5) aoNil)) (eVar 5))) (tOrB (tTru isBl (eOp neD (callM f_product (aoCons (eVar 5) (aoCons (eVar 6) aoNil))) (eVar 9))) (tTru isBl (eOp neD (callM f_product (aoCons (eVar 5) (aoCons (eVar 6) (aoCons (eVar 7) aoNil)))) (eVar 8)))))
      (sRet (eCon (.bl false)))
      sNext)
      (sSeq (sIf (tOrB (tTru isBl (eOp neD (callM f_product (aoCons (eVar 5) (aoCons (callM f_product (aoCons (eVar 6) (aoCons (eVar 7) aoNil))) aoNil))) (eVar 8))) (tTru isBl (eOp neD (callM f_product (aoCons (callM f_product (aoCons (eVar 5) (aoCons (eVar 6) aoNil))) (aoCons (eVar 7) aoNil))) (eVar 8))))
      (sRet (eCon (.bl false)))
      sNext)
      (sSeq (sAsg (nmD 10) (callM f_law_times (aoCons (callM f_law_times (aoCons (eVar 8) (aoCons (eOp ixD (eVar 2) (eCon (.int 3))) aoNil))) (aoCons (eOp ixD (eVar 2) (eCon (.int 4))) aoNil))))
      (sSeq (sIf (tOrB (tTru isBl (eOp neD (callM f_product (aoCons (eVar 5) (aoCons (eVar 6) (aoCons (eVar 7) (aoCons (eOp ixD (eVar 2) (eCon (.int 3))) (aoCons (eOp ixD (eVar 2) (eCon (.int 4))) aoNil)))))) (eVar 10))) (tTru isBl (eOp neD (eCall reprD (aCons (eVar 2) aNil)) (eVar 4))))
      (sRet (eCon (.bl false)))
      sNext)
      (sSeq (sAsg (nmD 11) (callM f_law_steady (aoCons (eVar 5) aoNil)))
      (sSeq (sFor (itBy asLst (eOp addD (eOp addD (eVar 2) (eLst (aCons (eVar 8) (aCons (eVar 10) aNil)))) (eIf (tTru isBl (eOp isD (eVar 11) (eCon .non))) (eLst aNil) (eLst (aCons (eVar 11) aNil))))) (nmD 12)
      (sIf (tTru isBl (eOp neD (eCall reprD (aCons (callM f_is_idempotent (aoCons (eVar 12) aoNil)) aNil)) (eCall reprD (aCons (eOp eqD (callM f_law_times (aoCons (eVar 12) (aoCons (eVar 12) aoNil))) (eVar 12)) aNil))))
      (sRet (eCon (.bl false)))
      sNext))
      (sRet (eCon (.bl true))))))))))))
def f_law_right : FnM := runBody 2 11 m_law_right
theorem sc_law_right : FnScope ["stream", "size", "tables", "turn", "kept", "one", "two", "three", "due", "first", "last", "steady", "table"] ["stream", "size"] (defScope s_law_right) := ⟨rfl, rfl, rfl, by decide +kernel, rfl, by decide +kernel, by decide +kernel⟩
theorem ok_law_right (c_law_times : HasG false P w K mg base "_law_times" 2 ["one", "other"] (spM ⟨K, mg, T, none⟩ f_law_times)) (c_law_steady : HasG false P w K mg base "_law_steady" 3 ["table"] (spM ⟨K, mg, T, none⟩ f_law_steady)) (c_law_some_table : HasG false P w K mg base "_law_some_table" 2 ["stream", "size"] (spM ⟨K, mg, T, none⟩ f_law_some_table)) (g_repr : mg "repr" = none) (g_range : mg "range" = none) (c_product : HasS false P w K mg base "product" 4 (spM ⟨K, mg, T, none⟩ f_product)) (c_is_idempotent : HasG false P w K mg base "is_idempotent" 4 ["table"] (spM ⟨K, mg, T, none⟩ f_is_idempotent)) (F : Fun K "_law_right" "_law_right" s_law_right f fd) : FnG true P w K mg base 5 f fd ["stream", "size"] (spM ⟨K, mg, T, none⟩ f_law_right) :=
  fn_body F sc_law_right rfl fun cdv A outer s H E hr hgu => ⟨_, (pss_cons (ps_setLc (i := 2) (own := [("turn", 3)]) (by rfl) sc_law_right.nd rfl rfl (sw_true rfl rfl rfl (by decide +kernel)) (pi_range1 rfl g_range (pa_cons pe_int pa_nil)) (blkOk_by (own := [("turn", 3)]) (N := ["stream", "size", "tables", "turn", "kept", "one", "two", "three", "due", "first", "last", "steady", "table"]) (sc := defScope s_law_right) (by decide +kernel)) (fun _ _ _ _ _ => (pg_name (i := 3) sc_law_right.nd rfl (by first | exact Or.inl rfl | exact Or.inr rfl))) (fun _ _ _ _ _ => pts_nil) (fun _ _ _ _ _ => (pe_callHG c_law_some_table (hr.mono (by decide)) gdF (by rfl) Pl.takes0w (pa_cons (pv 0) (pa_cons (pv 1) pa_nil)))))
      (pss_cons (ps_asg (pe_tup (pa_cons (pe_callB (call_reprX (hgu rfl) (hr_u hr)) (by rfl) g_repr (by decide +kernel) (pa_cons (pv 2) pa_nil)) (pa_cons (pe_ix ix_X (pv 2) pe_int (fun _ _ => rfl)) (pa_cons (pe_ix ix_X (pv 2) pe_int (fun _ _ => rfl)) (pa_cons (pe_ix ix_X (pv 2) pe_int (fun _ _ => rfl)) pa_nil))))) (pg_tup (by rfl) (pgs_cons (pg_name (i := 4) sc_law_right.nd rfl (by first | exact Or.inl rfl | exact Or.inr rfl)) (pgs_cons (pg_name (i := 5) sc_law_right.nd rfl (by first | exact Or.inl rfl | exact Or.inr rfl)) (pgs_cons (pg_name (i := 6) sc_law_right.nd rfl (by first | exact Or.inl rfl | exact Or.inr rfl)) (pgs_cons (pg_name (i := 7) sc_law_right.nd rfl (by first | exact Or.inl rfl | exact Or.inr rfl)) pgs_nil))))))
      (pss_cons (ps_par (by rfl) sc_law_right.nd rfl rfl (by decide) rfl rfl (pa_cons (pe_callHG c_law_times (hr.mono (by decide)) gdF (by rfl) (takes_of rfl rfl rfl rfl) (pa_cons (pe_callHG c_law_times (hr.mono (by decide)) gdF (by rfl) (takes_of rfl rfl rfl rfl) (pa_cons (pv 5) (pa_cons (pv 6) pa_nil))) (pa_cons (pv 7) pa_nil))) (pa_cons (pe_callHG c_law_times (hr.mono (by decide)) gdF (by rfl) (takes_of rfl rfl rfl rfl) (pa_cons (pv 5) (pa_cons (pv 6) pa_nil))) pa_nil)) (by rfl))
      (pss_cons (ps_if (PW.pt (pw_or (pt_cmpR (op_neX (hr_u hr)) (pe_callHS c_product (hr.mono (by decide)) gdF (by rfl) (takes_of rfl rfl rfl rfl) (pa_cons (pv 5) pa_nil)) (pv 5) (nomark _)) (pw_or (pt_cmpR (op_neX (hr_u hr)) (pe_callHS c_product (hr.mono (by decide)) gdF (by rfl) (takes_of rfl rfl rfl rfl) (pa_cons (pv 5) (pa_cons (pv 6) pa_nil))) (pv 9) (nomark _)) (pw_or1 (pt_cmpR (op_neX (hr_u hr)) (pe_callHS c_product (hr.mono (by decide)) gdF (by rfl) (takes_of rfl rfl rfl rfl) (pa_cons (pv 5) (pa_cons (pv 6) (pa_cons (pv 7) pa_nil)))) (pv 8) (nomark _))))))
      (pss_one (ps_ret pe_bl))
      pss_nil)
      (pss_cons (ps_if (PW.pt (pw_or (pt_cmpR (op_neX (hr_u hr)) (pe_callHS c_product (hr.mono (by decide)) gdF (by rfl) (takes_of rfl rfl rfl rfl) (pa_cons (pv 5) (pa_cons (pe_callHS c_product (hr.mono (by decide)) gdF (by rfl) (takes_of rfl rfl rfl rfl) (pa_cons (pv 6) (pa_cons (pv 7) pa_nil))) pa_nil))) (pv 8) (nomark _)) (pw_or1 (pt_cmpR (op_neX (hr_u hr)) (pe_callHS c_product (hr.mono (by decide)) gdF (by rfl) (takes_of rfl rfl rfl rfl) (pa_cons (pe_callHS c_product (hr.mono (by decide)) gdF (by rfl) (takes_of rfl rfl rfl rfl) (pa_cons (pv 5) (pa_cons (pv 6) pa_nil))) (pa_cons (pv 7) pa_nil))) (pv 8) (nomark _)))))
      (pss_one (ps_ret pe_bl))
      pss_nil)
      (pss_cons (ps_set (i := 10) sc_law_right.nd rfl (by first | exact Or.inl rfl | exact Or.inr rfl) (pe_callHG c_law_times (hr.mono (by decide)) gdF (by rfl) (takes_of rfl rfl rfl rfl) (pa_cons (pe_callHG c_law_times (hr.mono (by decide)) gdF (by rfl) (takes_of rfl rfl rfl rfl) (pa_cons (pv 8) (pa_cons (pe_ix ix_X (pv 2) pe_int (fun _ _ => rfl)) pa_nil))) (pa_cons (pe_ix ix_X (pv 2) pe_int (fun _ _ => rfl)) pa_nil))))
      (pss_cons (ps_if (PW.pt (pw_or (pt_cmpR (op_neX (hr_u hr)) (pe_callHS c_product (hr.mono (by decide)) gdF (by rfl) (takes_of rfl rfl rfl rfl) (pa_cons (pv 5) (pa_cons (pv 6) (pa_cons (pv 7) (pa_cons (pe_ix ix_X (pv 2) pe_int (fun _ _ => rfl)) (pa_cons (pe_ix ix_X (pv 2) pe_int (fun _ _ => rfl)) pa_nil)))))) (pv 10) (nomark _)) (pw_or1 (pt_cmpR (op_neX (hr_u hr)) (pe_callB (call_reprX (hgu rfl) (hr_u hr)) (by rfl) g_repr (by decide +kernel) (pa_cons (pv 2) pa_nil)) (pv 4) (nomark _)))))
      (pss_one (ps_ret pe_bl))
      pss_nil)
      (pss_cons (ps_set (i := 11) sc_law_right.nd rfl (by first | exact Or.inl rfl | exact Or.inr rfl) (pe_callHG c_law_steady (hr.mono (by decide)) gdF (by rfl) (takes_of rfl rfl rfl rfl) (pa_cons (pv 5) pa_nil)))
      (pss_cons (ps_for (passes_of rfl) rfl (pi_list (pe_op op_addX (pe_op op_addX (pv 2) (pe_lst (pa_cons (pv 8) (pa_cons (pv 10) pa_nil)))) (pe_ifExp (pt_cmpR op_isX (pv 11) pe_non (nomark _)) (pe_lst pa_nil) (pe_lst (pa_cons (pv 11) pa_nil))))) (pg_name (i := 12) sc_law_right.nd rfl (by first | exact Or.inl rfl | exact Or.inr rfl))
      (pss_one (ps_if (pt_cmpR (op_neX (hr_u hr)) (pe_callB (call_reprX (hgu rfl) (hr_u hr)) (by rfl) g_repr (by decide +kernel) (pa_cons (pe_callHG c_is_idempotent (hr.mono (by decide)) gdF (by rfl) (takes_of rfl rfl rfl rfl) (pa_cons (pv 12) pa_nil)) pa_nil)) (pe_callB (call_reprX (hgu rfl) (hr_u hr)) (by rfl) g_repr (by decide +kernel) (pa_cons (pe_cmpR (op_eqX (hr_u hr)) (pe_callHG c_law_times (hr.mono (by decide)) gdF (by rfl) (takes_of rfl rfl rfl rfl) (pa_cons (pv 12) (pa_cons (pv 12) pa_nil))) (pv 12) (nomark _)) pa_nil)) (nomark _))
      (pss_one (ps_ret pe_bl))
      pss_nil)))
      (pss_one (ps_ret pe_bl))))))))))),
    (sx_seq (sx_asg (ex_fr (ef_lc (ix_rng1 (ax_cons (ex_con fun _ => rfl) ax_nil)) gx_name (by decide) tx_yes (ex_call (ao_own (ao_cons (ex_var (i := 1)) ao_nil))))) gx_name)
      (sx_seq (sx_asg (ex_tup (ax_cons (ex_cD (ax_cons (ex_var (i := 2)) ax_nil)) (ax_cons (ex_op (ex_var (i := 2)) (ex_con fun _ => rfl)) (ax_cons (ex_op (ex_var (i := 2)) (ex_con fun _ => rfl)) (ax_cons (ex_op (ex_var (i := 2)) (ex_con fun _ => rfl)) ax_nil))))) (gx_tup (gxs_cons gx_name (gxs_cons gx_name (gxs_cons gx_name (gxs_cons gx_name gxs_nil))))))
      (sx_seq (sx_par (ax_cons (ex_call (ao_cons (ex_call (ao_cons (ex_var (i := 5)) (ao_cons (ex_var (i := 6)) ao_nil))) (ao_cons (ex_var (i := 7)) ao_nil))) (ax_cons (ex_call (ao_cons (ex_var (i := 5)) (ao_cons (ex_var (i := 6)) ao_nil))) ax_nil)))
      (sx_seq (sx_if (tx_or (tx_test (ex_op (ex_call (ao_cons (ex_var (i := 5)) ao_nil)) (ex_var (i := 5)))) (tx_or (tx_test (ex_op (ex_call (ao_cons (ex_var (i := 5)) (ao_cons (ex_var (i := 6)) ao_nil))) (ex_var (i := 9)))) (tx_test (ex_op (ex_call (ao_cons (ex_var (i := 5)) (ao_cons (ex_var (i := 6)) (ao_cons (ex_var (i := 7)) ao_nil)))) (ex_var (i := 8))))))
      (sx_ret (ex_con fun _ => rfl))
      sx_next)
      (sx_seq (sx_if (tx_or (tx_test (ex_op (ex_call (ao_cons (ex_var (i := 5)) (ao_cons (ex_call (ao_cons (ex_var (i := 6)) (ao_cons (ex_var (i := 7)) ao_nil))) ao_nil))) (ex_var (i := 8)))) (tx_test (ex_op (ex_call (ao_cons (ex_call (ao_cons (ex_var (i := 5)) (ao_cons (ex_var (i := 6)) ao_nil))) (ao_cons (ex_var (i := 7)) ao_nil))) (ex_var (i := 8)))))
      (sx_ret (ex_con fun _ => rfl))
      sx_next)
      (sx_seq (sx_asg (ex_call (ao_cons (ex_call (ao_cons (ex_var (i := 8)) (ao_cons (ex_op (ex_var (i := 2)) (ex_con fun _ => rfl)) ao_nil))) (ao_cons (ex_op (ex_var (i := 2)) (ex_con fun _ => rfl)) ao_nil))) gx_name)
      (sx_seq (sx_if (tx_or (tx_test (ex_op (ex_call (ao_cons (ex_var (i := 5)) (ao_cons (ex_var (i := 6)) (ao_cons (ex_var (i := 7)) (ao_cons (ex_op (ex_var (i := 2)) (ex_con fun _ => rfl)) (ao_cons (ex_op (ex_var (i := 2)) (ex_con fun _ => rfl)) ao_nil)))))) (ex_var (i := 10)))) (tx_test (ex_op (ex_cD (ax_cons (ex_var (i := 2)) ax_nil)) (ex_var (i := 4)))))
      (sx_ret (ex_con fun _ => rfl))
      sx_next)
      (sx_seq (sx_asg (ex_call (ao_cons (ex_var (i := 5)) ao_nil)) gx_name)
      (sx_seq (sx_for (ix_list (ex_op (ex_op (ex_var (i := 2)) (ex_lst (ax_cons (ex_var (i := 8)) (ax_cons (ex_var (i := 10)) ax_nil)))) (ex_if (tx_test (ex_op (ex_var (i := 11)) (ex_con fun _ => rfl))) (ex_lst ax_nil) (ex_lst (ax_cons (ex_var (i := 11)) ax_nil))))) gx_name
      (sx_if (tx_test (ex_op (ex_cD (ax_cons (ex_call (ao_cons (ex_var (i := 12)) ao_nil)) ax_nil)) (ex_cD (ax_cons (ex_op (ex_call (ao_cons (ex_var (i := 12)) (ao_cons (ex_var (i := 12)) ao_nil))) (ex_var (i := 12))) ax_nil))))
      (sx_ret (ex_con fun _ => rfl))
      sx_next))
      (sx_ret (ex_con fun _ => rfl)))))))))))⟩
def m_law_changed (r : FnM) : S := (sSeq (sIf (tAndB (tTru isBl (eCall isiD (aCons (eVar 1) (aCons (eCon (.rf (.ty "tuple"))) aNil)))) (tAndB (tTru isBl (eOp neD (eVar 1) (eTup aNil))) (tTru isBl (eOp gtD (callM f_law_draw (aoOwn 0 (aoCons (eCon (.int 4)) aoNil))) (eCon (.int 0))))))
      (sSeq (sAsg (nmD 2) (callM f_law_draw (aoOwn 0 (aoCons (eCall lenD (aCons (eVar 1) aNil)) aoNil))))
      (sSeq (sAsg (nmD 3) (callM f_law_draw (aoOwn 0 (aoCons (eCon (.int 6)) aoNil))))
      (sSeq (sIf (tTru isBl (eOp eqD (eVar 3) (eCon (.int 0))))
      (sRet (eOp addD (eSl (eVar 1) oNo (oPart (eVar 2))) (eSl (eVar 1) (oPart (eOp addD (eVar 2) (eCon (.int 1)))) oNo)))
      sNext)
      (sSeq (sIf (tTru isBl (eOp eqD (eVar 3) (eCon (.int 1))))
      (sRet (eOp addD (eOp addD (eSl (eVar 1) oNo (oPart (eVar 2))) (eSl (eVar 1) (oPart (eVar 2)) (oPart (eOp addD (eVar 2) (eCon (.int 1)))))) (eSl (eVar 1) (oPart (eVar 2)) oNo)))
      sNext)
      (sRet (eOp addD (eOp addD (eSl (eVar 1) oNo (oPart (eVar 2))) (eTup (aCons (callM r (aoOwn 0 (aoCons (eOp ixD (eVar 1) (eVar 2)) aoNil))) aNil))) (eSl (eVar 1) (oPart (eOp addD (eVar 2) (eCon (.int 1)))) oNo)))))))
      sNext)
      (sSeq (sIf (tAndB (tTru isBl (eCall isiD (aCons (eVar 1) (aCons (eCon (.rf (.ty "int"))) aNil)))) (tAndB (tNotB (tTru isBl (eCall isiD (aCons (eVar 1) (aCons (eCon (.rf (.ty "bool"))) aNil))))) (tTru isBl (eOp gtD (callM f_law_draw (aoOwn 0 (aoCons (eCon (.int 3)) aoNil))) (eCon (.int 0))))))
      (sRet (eOp addD (eVar 1) (eOp ixD (eLst (aCons (eCon (.int 1)) (aCons (eUn negD (eCon (.int 1))) (aCons (eCon (.int 2)) (aCons (eCon (.int 30)) aNil))))) (callM f_law_draw (aoOwn 0 (aoCons (eCon (.int 4)) aoNil))))))
      sNext)
      (sSeq (sIf (tAndB (tTru isBl (eCall isiD (aCons (eVar 1) (aCons (eCon (.rf (.ty "str"))) aNil)))) (tTru isBl (eOp eqD (callM f_law_draw (aoOwn 0 (aoCons (eCon (.int 2)) aoNil))) (eCon (.int 0)))))
      (sRet (eOp ixD (eLst (aCons (eCon (.str (Str.ofString "a"))) (aCons (eCon (.str (Str.ofString "b"))) (aCons (eCon (.str (Str.ofString "ba"))) (aCons (eCon (.str (Str.ofString "z"))) (aCons (eCon (.str (Str.ofString "paid"))) (aCons (eCon (.str (Str.ofString "dear"))) (aCons (eCon (.str (Str.ofString "free"))) (aCons (eOp addD (eVar 1) (eCon (.str (Str.ofString "a")))) aNil))))))))) (callM f_law_draw (aoOwn 0 (aoCons (eCon (.int 8)) aoNil)))))
      sNext)
      (sRet (callM f_law_other (aoOwn 0 aoNil))))))
def f_law_changed : Nat → FnM := recM fun r => runBody 2 2 (m_law_changed r)
theorem sc_law_changed : FnScope ["stream", "value", "at", "way"] ["stream", "value"] (defScope s_law_changed) := ⟨rfl, rfl, rfl, by decide +kernel, rfl, by decide +kernel, by decide +kernel⟩
theorem ok_law_changed (c_law_other : HasG false P w K mg base "_law_other" 2 ["stream"] (spM ⟨K, mg, T, none⟩ f_law_other)) (g_isinstance : mg "isinstance" = none) (g_tuple : mg "tuple" = none) (c_law_draw : HasG false P w K mg base "_law_draw" 1 ["stream", "total"] (spM ⟨K, mg, T, none⟩ f_law_draw)) (g_int : mg "int" = none) (g_str : mg "str" = none) (g_len : mg "len" = none) (g_bool : mg "bool" = none) (F : Fun K "_law_changed" "_law_changed" s_law_changed f fd) (gS : mg "_law_changed" = some (.ref f)) (bS : Binds K fd ["stream", "value"] []) : FnG false P w K mg base 6 f fd ["stream", "value"] (spM ⟨K, mg, T, none⟩ (f_law_changed 4)) :=
  fn_rec (k := 2) (m := fun r => runBody 2 2 (m_law_changed r)) (fun nn r ih => have c_law_changed := hasG F gS bS ih
    fn_body F sc_law_changed rfl fun cdv A outer s H E hr hgu => ⟨_, (pss_cons (ps_if (PW.pt (pw_and (pt_val (pe_callB call_isiX (by rfl) g_isinstance (by decide +kernel) (pa_cons (pv 1) (pa_cons (pe_bltn (v := .ty "tuple") rfl g_tuple (by decide +kernel) rfl) pa_nil)))) (pw_and (pt_cmpR (op_neX (hr_u hr)) (pv 1) (pe_tup pa_nil) (nomark _)) (pw_and1 (pt_cmpR op_gtX (pe_callHG c_law_draw (hr.mono (by omega)) gdF (by rfl) (takes_of rfl rfl rfl rfl) (pa_cons (pv 0) (pa_cons pe_int pa_nil))) pe_int (nomark _))))))
      (pss_cons (ps_set (i := 2) sc_law_changed.nd rfl (by first | exact Or.inl rfl | exact Or.inr rfl) (pe_callHG c_law_draw (hr.mono (by omega)) gdF (by rfl) (takes_of rfl rfl rfl rfl) (pa_cons (pv 0) (pa_cons (pe_callB call_lenX (by rfl) g_len (by decide +kernel) (pa_cons (pv 1) pa_nil)) pa_nil))))
      (pss_cons (ps_set (i := 3) sc_law_changed.nd rfl (by first | exact Or.inl rfl | exact Or.inr rfl) (pe_callHG c_law_draw (hr.mono (by omega)) gdF (by rfl) (takes_of rfl rfl rfl rfl) (pa_cons (pv 0) (pa_cons pe_int pa_nil))))
      (pss_cons (ps_if (pt_cmpR (op_eqX (hr_u hr)) (pv 3) pe_int (nomark _))
      (pss_one (ps_ret (pe_op op_addX (pe_slice sl_X (pv 1) po_none (po_some (pv 2))) (pe_slice sl_X (pv 1) (po_some (pe_op op_addX (pv 2) pe_int)) po_none))))
      pss_nil)
      (pss_cons (ps_if (pt_cmpR (op_eqX (hr_u hr)) (pv 3) pe_int (nomark _))
      (pss_one (ps_ret (pe_op op_addX (pe_op op_addX (pe_slice sl_X (pv 1) po_none (po_some (pv 2))) (pe_slice sl_X (pv 1) (po_some (pv 2)) (po_some (pe_op op_addX (pv 2) pe_int)))) (pe_slice sl_X (pv 1) (po_some (pv 2)) po_none))))
      pss_nil)
      (pss_one (ps_ret (pe_op op_addX (pe_op op_addX (pe_slice sl_X (pv 1) po_none (po_some (pv 2))) (pe_tup (pa_cons (pe_callHG c_law_changed (hr.mono (Nat.le_refl _)) gdF (by rfl) (takes_of rfl rfl rfl rfl) (pa_cons (pv 0) (pa_cons (pe_ix ix_X (pv 1) (pv 2) (fun _ _ => rfl)) pa_nil))) pa_nil))) (pe_slice sl_X (pv 1) (po_some (pe_op op_addX (pv 2) pe_int)) po_none))))))))
      pss_nil)
      (pss_cons (ps_if (PW.pt (pw_and (pt_val (pe_callB call_isiX (by rfl) g_isinstance (by decide +kernel) (pa_cons (pv 1) (pa_cons (pe_bltn (v := .ty "int") rfl g_int (by decide +kernel) rfl) pa_nil)))) (pw_and (pt_not (pt_val (pe_callB call_isiX (by rfl) g_isinstance (by decide +kernel) (pa_cons (pv 1) (pa_cons (pe_bltn (v := .ty "bool") rfl g_bool (by decide +kernel) rfl) pa_nil))))) (pw_and1 (pt_cmpR op_gtX (pe_callHG c_law_draw (hr.mono (by omega)) gdF (by rfl) (takes_of rfl rfl rfl rfl) (pa_cons (pv 0) (pa_cons pe_int pa_nil))) pe_int (nomark _))))))
      (pss_one (ps_ret (pe_op op_addX (pv 1) (pe_ix ix_X (pe_lst (pa_cons pe_int (pa_cons (pe_un un_negX pe_int) (pa_cons pe_int (pa_cons pe_int pa_nil))))) (pe_callHG c_law_draw (hr.mono (by omega)) gdF (by rfl) (takes_of rfl rfl rfl rfl) (pa_cons (pv 0) (pa_cons pe_int pa_nil))) (fun _ _ => rfl)))))
      pss_nil)
      (pss_cons (ps_if (PW.pt (pw_and (pt_val (pe_callB call_isiX (by rfl) g_isinstance (by decide +kernel) (pa_cons (pv 1) (pa_cons (pe_bltn (v := .ty "str") rfl g_str (by decide +kernel) rfl) pa_nil)))) (pw_and1 (pt_cmpR (op_eqX (hr_u hr)) (pe_callHG c_law_draw (hr.mono (by omega)) gdF (by rfl) (takes_of rfl rfl rfl rfl) (pa_cons (pv 0) (pa_cons pe_int pa_nil))) pe_int (nomark _)))))
      (pss_one (ps_ret (pe_ix ix_X (pe_lst (pa_cons pe_str (pa_cons pe_str (pa_cons pe_str (pa_cons pe_str (pa_cons pe_str (pa_cons pe_str (pa_cons pe_str (pa_cons (pe_op op_addX (pv 1) pe_str) pa_nil))))))))) (pe_callHG c_law_draw (hr.mono (by omega)) gdF (by rfl) (takes_of rfl rfl rfl rfl) (pa_cons (pv 0) (pa_cons pe_int pa_nil))) (fun _ _ => rfl))))
      pss_nil)
      (pss_one (ps_ret (pe_callHG c_law_other (hr.mono (by omega)) gdF (by rfl) (takes_of rfl rfl rfl rfl) (pa_cons (pv 0) pa_nil))))))),
    (sx_seq (sx_if (tx_and (tx_bool (ex_cD (ax_cons (ex_var (i := 1)) (ax_cons (ex_con fun _ => rfl) ax_nil)))) (tx_and (tx_test (ex_op (ex_var (i := 1)) (ex_tup ax_nil))) (tx_test (ex_op (ex_call (ao_own (ao_cons (ex_con fun _ => rfl) ao_nil))) (ex_con fun _ => rfl)))))
      (sx_seq (sx_asg (ex_call (ao_own (ao_cons (ex_cD (ax_cons (ex_var (i := 1)) ax_nil)) ao_nil))) gx_name)
      (sx_seq (sx_asg (ex_call (ao_own (ao_cons (ex_con fun _ => rfl) ao_nil))) gx_name)
      (sx_seq (sx_if (tx_test (ex_op (ex_var (i := 3)) (ex_con fun _ => rfl)))
      (sx_ret (ex_op (ex_sl (ex_var (i := 1)) ox_no (ox_part (ex_var (i := 2)))) (ex_sl (ex_var (i := 1)) (ox_part (ex_op (ex_var (i := 2)) (ex_con fun _ => rfl))) ox_no)))
      sx_next)
      (sx_seq (sx_if (tx_test (ex_op (ex_var (i := 3)) (ex_con fun _ => rfl)))
      (sx_ret (ex_op (ex_op (ex_sl (ex_var (i := 1)) ox_no (ox_part (ex_var (i := 2)))) (ex_sl (ex_var (i := 1)) (ox_part (ex_var (i := 2))) (ox_part (ex_op (ex_var (i := 2)) (ex_con fun _ => rfl))))) (ex_sl (ex_var (i := 1)) (ox_part (ex_var (i := 2))) ox_no)))
      sx_next)
      (sx_ret (ex_op (ex_op (ex_sl (ex_var (i := 1)) ox_no (ox_part (ex_var (i := 2)))) (ex_tup (ax_cons (ex_call (ao_own (ao_cons (ex_op (ex_var (i := 1)) (ex_var (i := 2))) ao_nil))) ax_nil))) (ex_sl (ex_var (i := 1)) (ox_part (ex_op (ex_var (i := 2)) (ex_con fun _ => rfl))) ox_no)))))))
      sx_next)
      (sx_seq (sx_if (tx_and (tx_bool (ex_cD (ax_cons (ex_var (i := 1)) (ax_cons (ex_con fun _ => rfl) ax_nil)))) (tx_and (tx_not (tx_bool (ex_cD (ax_cons (ex_var (i := 1)) (ax_cons (ex_con fun _ => rfl) ax_nil))))) (tx_test (ex_op (ex_call (ao_own (ao_cons (ex_con fun _ => rfl) ao_nil))) (ex_con fun _ => rfl)))))
      (sx_ret (ex_op (ex_var (i := 1)) (ex_op (ex_lst (ax_cons (ex_con fun _ => rfl) (ax_cons (ex_un (ex_con fun _ => rfl)) (ax_cons (ex_con fun _ => rfl) (ax_cons (ex_con fun _ => rfl) ax_nil))))) (ex_call (ao_own (ao_cons (ex_con fun _ => rfl) ao_nil))))))
      sx_next)
      (sx_seq (sx_if (tx_and (tx_bool (ex_cD (ax_cons (ex_var (i := 1)) (ax_cons (ex_con fun _ => rfl) ax_nil)))) (tx_test (ex_op (ex_call (ao_own (ao_cons (ex_con fun _ => rfl) ao_nil))) (ex_con fun _ => rfl))))
      (sx_ret (ex_op (ex_lst (ax_cons (ex_con fun _ => rfl) (ax_cons (ex_con fun _ => rfl) (ax_cons (ex_con fun _ => rfl) (ax_cons (ex_con fun _ => rfl) (ax_cons (ex_con fun _ => rfl) (ax_cons (ex_con fun _ => rfl) (ax_cons (ex_con fun _ => rfl) (ax_cons (ex_op (ex_var (i := 1)) (ex_con fun _ => rfl)) ax_nil))))))))) (ex_call (ao_own (ao_cons (ex_con fun _ => rfl) ao_nil)))))
      sx_next)
      (sx_ret (ex_call (ao_own ao_nil))))))⟩) 4
def m_law_values_right : S := (sSeq (sAsg (nmD 2) (callM f_law_some_table (aoOwn 0 (aoCons (eVar 1) aoNil))))
      (sSeq (sAsg (nmD 3) (eLst (aCons (eVar 2) (aCons (eSl (eVar 2) oNo (oPart (eUn negD (eCon (.int 1))))) (aCons (eOp addD (eVar 2) (eSl (eVar 2) oNo (oPart (eCon (.int 1))))) (aCons (eFr (eN listD (aCons (eVar 2) aNil))) (aCons (eCall tupleD (aCons (eFr (eLc (itBy asTup (eVar 2)) (nmD 4) (M.pure true) (eFr (eN listD (aCons (eVar 4) aNil))) [4])) aNil)) (aCons (eCon .non) (aCons (eTup aNil) (aCons (eCon (.str (Str.ofString "table"))) aNil))))))))))
      (sSeq (sAsg (nmD 3) (eOp addD (eOp addD (eVar 3) (eFr (eLc (itBs rng1D (aCons (eCon (.int 6)) aNil)) (nmD 5) (M.pure true) (callM (f_law_changed 4) (aoOwn 0 (aoCons (eVar 2) aoNil))) [5]))) (eLst (aCons (callM f_law_other (aoOwn 0 aoNil)) (aCons (eOp ixD (eVar 2) (eCon (.int 0))) (aCons (eTup (aCons (eVar 2) aNil)) aNil))))))
      (sSeq (sFor (itBy asLst (eVar 3)) (nmD 6)
      (sSeq (sFor (itBy asTup (eTup (aCons (eVar 1) (aCons (eOp addD (eVar 1) (eCon (.int 1))) (aCons (eCon (.int 1)) aNil))))) (nmD 7)
      (sIf (tTru isBl (eOp neD (eCall reprD (aCons (callM f_is_table (aoCons (eVar 7) (aoCons (eVar 6) aoNil))) aNil)) (eCall reprD (aCons (callM f_law_is_a_table (aoCons (eVar 7) (aoCons (eVar 6) aoNil))) aNil))))
      (sRet (eCon (.bl false)))
      sNext))
      (sSeq (sAsg (nmD 8) (eIf (tTru isBl (callM f_law_is_a_table (aoCons (eVar 1) (aoCons (eVar 6) aoNil)))) (eCon (.str (Str.ofString "returned"))) (eCon (.str (Str.ofString "table")))))
      (sSeq (sNew 9 (eNew (aCons (eLam gm_law_error (callM f_product (aoCons (eVar 2) (aoCons (eVar 6) aoNil)))) aNil)))
      (sSeq (sAppL 9 (eLam gm_law_error (callM f_product (aoCons (eVar 2) (aoCons (eVar 2) (aoCons (eVar 6) aoNil))))))
      (sFz 9 (sSeq (sIf (tTru isBl (eOp neD (eVar 9) (eLst (aCons (eVar 8) (aCons (eVar 8) aNil)))))
      (sRet (eCon (.bl false)))
      sNext)
      (sSeq (sAsg (nmD 7) (eIf (tTru isBl (eCall isiD (aCons (eVar 6) (aCons (eCon (.rf (.ty "tuple"))) aNil)))) (eCall lenD (aCons (eVar 6) aNil)) (eCon (.int 0))))
      (sSeq (sAsg (nmD 8) (eIf (tAndB (tTru isBl (eChain ltD ltD (eCon (.int 0)) (eVar 7) (eCon (.int 9)))) (tTru isBl (callM f_law_is_a_table (aoCons (eVar 7) (aoCons (eVar 6) aoNil))))) (eCon (.str (Str.ofString "returned"))) (eCon (.str (Str.ofString "table")))))
      (sSeq (sNew 9 (eNew (aCons (eLam gm_law_error (callM f_product (aoCons (eVar 6) aoNil))) aNil)))
      (sSeq (sAppL 9 (eLam gm_law_error (callM f_is_idempotent (aoCons (eVar 6) aoNil))))
      (sFz 9 (sIf (tTru isBl (eOp neD (eVar 9) (eLst (aCons (eVar 8) (aCons (eVar 8) aNil)))))
      (sRet (eCon (.bl false)))
      sNext)))))))))))))
      (sSeq (sAsg (nmD 10) (eOp ixD (eLst (aCons (eCon (.int 0)) (aCons (eCon (.int 9)) (aCons (eUn negD (eCon (.int 1))) (aCons (eCon .non) (aCons (eCon (.bl true)) (aCons (eCon (.str (Str.ofString "2"))) (aCons (eTup (aCons (eCon (.int 1)) aNil)) (aCons (eLst (aCons (eCon (.int 1)) aNil)) (aCons (eOp powD (eCon (.int 10)) (eCon (.int 39))) aNil)))))))))) (callM f_law_draw (aoOwn 0 (aoCons (eCon (.int 9)) aoNil)))))
      (sRet (eOp eqD (eLam gm_law_error (callM f_is_table (aoCons (eVar 10) (aoCons (eVar 2) aoNil)))) (eOp addD (eCon (.str (Str.ofString "number "))) (eCall reprD (aCons (eVar 10) aNil))))))))))
def f_law_values_right : FnM := runBody 2 9 m_law_values_right
theorem sc_law_values_right : FnScope ["stream", "size", "table", "values", "row", "turn", "value", "wide", "due", "found", "odd"] ["stream", "size"] (defScope s_law_values_right) := ⟨rfl, rfl, rfl, by decide +kernel, rfl, by decide +kernel, by decide +kernel⟩
theorem ok_law_values_right (c_law_some_table : HasG false P w K mg base "_law_some_table" 2 ["stream", "size"] (spM ⟨K, mg, T, none⟩ f_law_some_table)) (g_list : mg "list" = none) (g_tuple : mg "tuple" = none) (c_law_draw : HasG false P w K mg base "_law_draw" 1 ["stream", "total"] (spM ⟨K, mg, T, none⟩ f_law_draw)) (c_law_other : HasG false P w K mg base "_law_other" 2 ["stream"] (spM ⟨K, mg, T, none⟩ f_law_other)) (c_law_is_a_table : HasG false P w K mg base "_law_is_a_table" 1 ["size", "value"] (spM ⟨K, mg, T, none⟩ f_law_is_a_table)) (g_isinstance : mg "isinstance" = none) (g_len : mg "len" = none) (g_repr : mg "repr" = none) (c_law_changed : HasG false P w K mg base "_law_changed" 6 ["stream", "value"] (spM ⟨K, mg, T, none⟩ (f_law_changed 4))) (c_is_table : HasG false P w K mg base "is_table" 3 ["size", "value"] (spM ⟨K, mg, T, none⟩ f_is_table)) (g_range : mg "range" = none) (c_product : HasS false P w K mg base "product" 4 (spM ⟨K, mg, T, none⟩ f_product)) (c_is_idempotent : HasG false P w K mg base "is_idempotent" 4 ["table"] (spM ⟨K, mg, T, none⟩ f_is_idempotent)) {g_law_error : Addr} {fd_law_error : FuncData} (F_law_error : Fun K "_law_error" "_law_error" s_law_error g_law_error fd_law_error) (b_law_error : Binds K fd_law_error ["call"] []) (h_law_error : mg "_law_error" = some (.ref g_law_error)) (gives_law_error : ∀ {X : Cx} {cdg : Value} {q : Str}, X.mg = mg → X.K = K → X.A.guards = some [] → Room 1 X.A → LamX.GivesTo X ["call", "e"] "_law_error" (defScope s_law_error) g_law_error cdg (defBody s_law_error) "call" q (LamGo ⟨X.K, X.mg, T, none⟩ gm_law_error)) {cLam pLam : Addr} (TB : LamX.TabB base mg cLam pLam) (hmT : (pLam, ("_law_values_right" : Str) ++ ".<locals>." ++ "<lambda>") ∈ T) (hu : ∀ p ∈ T, p.1 = pLam → p.2 = ("_law_values_right" : Str) ++ ".<locals>." ++ "<lambda>") (F : FunC K "_law_values_right" "_law_values_right" s_law_values_right f fd (.ref cLam)) : FnG true P w K mg base 7 f fd ["stream", "size"] (spM ⟨K, mg, T, none⟩ f_law_values_right) :=
  fn_bodyC F sc_law_values_right rfl fun A outer s H E hr hgu => ⟨_, (pss_cons (ps_set (i := 2) sc_law_values_right.nd rfl (by first | exact Or.inl rfl | exact Or.inr rfl) (pe_callHG c_law_some_table (hr.mono (by decide)) gdF (by rfl) (takes_of rfl rfl rfl rfl) (pa_cons (pv 0) (pa_cons (pv 1) pa_nil))))
      (pss_cons (ps_set (i := 3) sc_law_values_right.nd rfl (by first | exact Or.inl rfl | exact Or.inr rfl) (pe_lst (pa_cons (pv 2) (pa_cons (pe_slice sl_X (pv 2) po_none (po_some (pe_un un_negX pe_int))) (pa_cons (pe_op op_addX (pv 2) (pe_slice sl_X (pv 2) po_none (po_some pe_int))) (pa_cons (pe_callTy (call_listX rfl) (by rfl) g_list (by decide +kernel) (pa_cons (pv 2) pa_nil)) (pa_cons (pe_callTy call_tupleX (by rfl) g_tuple (by decide +kernel) (pa_cons (pe_lc (own := [("row", 4)]) (by rfl) sc_law_values_right.nd (pi_tup (pv 2)) (blkOk_by (own := [("row", 4)]) (N := ["stream", "size", "table", "values", "row", "turn", "value", "wide", "due", "found", "odd"]) (sc := defScope s_law_values_right) (by decide +kernel)) (fun _ _ _ _ _ => (pg_name (i := 4) sc_law_values_right.nd rfl (by first | exact Or.inl rfl | exact Or.inr rfl))) (fun _ _ _ _ _ => pts_nil) (fun _ _ _ _ _ => (pe_callTy (call_listX rfl) (by rfl) g_list (by decide +kernel) (pa_cons (pv 4) pa_nil)))) pa_nil)) (pa_cons pe_non (pa_cons (pe_tup pa_nil) (pa_cons pe_str pa_nil))))))))))
      (pss_cons (ps_set (i := 3) sc_law_values_right.nd rfl (by first | exact Or.inl rfl | exact Or.inr rfl) (pe_op op_addX (pe_op op_addX (pv 3) (pe_lc (own := [("turn", 5)]) (by rfl) sc_law_values_right.nd (pi_range1 rfl g_range (pa_cons pe_int pa_nil)) (blkOk_by (own := [("turn", 5)]) (N := ["stream", "size", "table", "values", "row", "turn", "value", "wide", "due", "found", "odd"]) (sc := defScope s_law_values_right) (by decide +kernel)) (fun _ _ _ _ _ => (pg_name (i := 5) sc_law_values_right.nd rfl (by first | exact Or.inl rfl | exact Or.inr rfl))) (fun _ _ _ _ _ => pts_nil) (fun _ _ _ _ _ => (pe_callHG c_law_changed (hr.mono (by decide)) gdF (by rfl) Pl.takes0w (pa_cons (pv 0) (pa_cons (pv 2) pa_nil)))))) (pe_lst (pa_cons (pe_callHG c_law_other (hr.mono (by decide)) gdF (by rfl) (takes_of rfl rfl rfl rfl) (pa_cons (pv 0) pa_nil)) (pa_cons (pe_ix ix_X (pv 2) pe_int (fun _ _ => rfl)) (pa_cons (pe_tup (pa_cons (pv 2) pa_nil)) pa_nil))))))
      (pss_cons (ps_for (passes_of rfl) rfl (pi_list (pv 3)) (pg_name (i := 6) sc_law_values_right.nd rfl (by first | exact Or.inl rfl | exact Or.inr rfl))
      (pss_cons (ps_for (passes_of rfl) rfl (pi_tup (pe_tup (pa_cons (pv 1) (pa_cons (pe_op op_addX (pv 1) pe_int) (pa_cons pe_int pa_nil))))) (pg_name (i := 7) sc_law_values_right.nd rfl (by first | exact Or.inl rfl | exact Or.inr rfl))
      (pss_one (ps_if (pt_cmpR (op_neX (hr_u hr)) (pe_callB (call_reprX (hgu rfl) (hr_u hr)) (by rfl) g_repr (by decide +kernel) (pa_cons (pe_callHG c_is_table (hr.mono (by decide)) gdF (by rfl) (takes_of rfl rfl rfl rfl) (pa_cons (pv 7) (pa_cons (pv 6) pa_nil))) pa_nil)) (pe_callB (call_reprX (hgu rfl) (hr_u hr)) (by rfl) g_repr (by decide +kernel) (pa_cons (pe_callHG c_law_is_a_table (hr.mono (by decide)) gdF (by rfl) (takes_of rfl rfl rfl rfl) (pa_cons (pv 7) (pa_cons (pv 6) pa_nil))) pa_nil)) (nomark _))
      (pss_one (ps_ret pe_bl))
      pss_nil)))
      (pss_cons (ps_set (i := 8) sc_law_values_right.nd rfl (by first | exact Or.inl rfl | exact Or.inr rfl) (pe_ifExp (pt_val (pe_callHG c_law_is_a_table (hr.mono (by decide)) gdF (by rfl) (takes_of rfl rfl rfl rfl) (pa_cons (pv 1) (pa_cons (pv 6) pa_nil)))) pe_str pe_str))
      (pss_cons (ps_set (i := 9) sc_law_values_right.nd rfl (by first | exact Or.inl rfl | exact Or.inr rfl) (pe_lst (pa_cons (pe_lamG (k := 4) F_law_error b_law_error h_law_error sc_law_error (fun cdg => gives_law_error rfl rfl (hgu rfl) (hr.mono (by decide))) TB rfl hmT hu (hr.mono (by decide)) (fun A outer s H E f c' hr => (pe_callHS c_product (hr.mono (by decide)) gdF (by rfl) (takes_of rfl rfl rfl rfl) (pa_cons (pv 2) (pa_cons (pv 6) pa_nil)))) (by rfl) rfl (Or.inl rfl) (LamX.lamS_by (sc := defScope s_law_values_right) (by decide +kernel)) rfl (fun _ _ _ _ _ => rfl)) pa_nil)))
      (pss_cons (ps_expr (pe_bm PySem.F.plainAttrs_list PySem.F.slot_list_append PySem.F.type_list_append mt_append (pv 9) (pa_cons (pe_lamG (k := 4) F_law_error b_law_error h_law_error sc_law_error (fun cdg => gives_law_error rfl rfl (hgu rfl) (hr.mono (by decide))) TB rfl hmT hu (hr.mono (by decide)) (fun A outer s H E f c' hr => (pe_callHS c_product (hr.mono (by decide)) gdF (by rfl) (takes_of rfl rfl rfl rfl) (pa_cons (pv 2) (pa_cons (pv 2) (pa_cons (pv 6) pa_nil))))) (by rfl) rfl (Or.inl rfl) (LamX.lamS_by (sc := defScope s_law_values_right) (by decide +kernel)) rfl (fun _ _ _ _ _ => rfl)) pa_nil)))
      (pss_cons (ps_if (pt_cmpR (op_neX (hr_u hr)) (pv 9) (pe_lst (pa_cons (pv 8) (pa_cons (pv 8) pa_nil))) (nomark _))
      (pss_one (ps_ret pe_bl))
      pss_nil)
      (pss_cons (ps_set (i := 7) sc_law_values_right.nd rfl (by first | exact Or.inl rfl | exact Or.inr rfl) (pe_ifExp (pt_val (pe_callB call_isiX (by rfl) g_isinstance (by decide +kernel) (pa_cons (pv 6) (pa_cons (pe_bltn (v := .ty "tuple") rfl g_tuple (by decide +kernel) rfl) pa_nil)))) (pe_callB call_lenX (by rfl) g_len (by decide +kernel) (pa_cons (pv 6) pa_nil)) pe_int))
      (pss_cons (ps_set (i := 8) sc_law_values_right.nd rfl (by first | exact Or.inl rfl | exact Or.inr rfl) (pe_ifExp (PW.pt (pw_and (pt_chain (op_ltX (hr_u hr)) (op_ltX (hr_u hr)) pe_int (pv 7) pe_int) (pw_and1 (pt_val (pe_callHG c_law_is_a_table (hr.mono (by decide)) gdF (by rfl) (takes_of rfl rfl rfl rfl) (pa_cons (pv 7) (pa_cons (pv 6) pa_nil))))))) pe_str pe_str))
      (pss_cons (ps_set (i := 9) sc_law_values_right.nd rfl (by first | exact Or.inl rfl | exact Or.inr rfl) (pe_lst (pa_cons (pe_lamG (k := 4) F_law_error b_law_error h_law_error sc_law_error (fun cdg => gives_law_error rfl rfl (hgu rfl) (hr.mono (by decide))) TB rfl hmT hu (hr.mono (by decide)) (fun A outer s H E f c' hr => (pe_callHS c_product (hr.mono (by decide)) gdF (by rfl) (takes_of rfl rfl rfl rfl) (pa_cons (pv 6) pa_nil))) (by rfl) rfl (Or.inl rfl) (LamX.lamS_by (sc := defScope s_law_values_right) (by decide +kernel)) rfl (fun _ _ _ _ _ => rfl)) pa_nil)))
      (pss_cons (ps_expr (pe_bm PySem.F.plainAttrs_list PySem.F.slot_list_append PySem.F.type_list_append mt_append (pv 9) (pa_cons (pe_lamG (k := 4) F_law_error b_law_error h_law_error sc_law_error (fun cdg => gives_law_error rfl rfl (hgu rfl) (hr.mono (by decide))) TB rfl hmT hu (hr.mono (by decide)) (fun A outer s H E f c' hr => (pe_callHG c_is_idempotent (hr.mono (by decide)) gdF (by rfl) (takes_of rfl rfl rfl rfl) (pa_cons (pv 6) pa_nil))) (by rfl) rfl (Or.inl rfl) (LamX.lamS_by (sc := defScope s_law_values_right) (by decide +kernel)) rfl (fun _ _ _ _ _ => rfl)) pa_nil)))
      (pss_one (ps_if (pt_cmpR (op_neX (hr_u hr)) (pv 9) (pe_lst (pa_cons (pv 8) (pa_cons (pv 8) pa_nil))) (nomark _))
      (pss_one (ps_ret pe_bl))
      pss_nil))))))))))))
      (pss_cons (ps_set (i := 10) sc_law_values_right.nd rfl (by first | exact Or.inl rfl | exact Or.inr rfl) (pe_ix ix_X (pe_lst (pa_cons pe_int (pa_cons pe_int (pa_cons (pe_un un_negX pe_int) (pa_cons pe_non (pa_cons pe_bl (pa_cons pe_str (pa_cons (pe_tup (pa_cons pe_int pa_nil)) (pa_cons (pe_lst (pa_cons pe_int pa_nil)) (pa_cons (pe_op op_powX pe_int pe_int) pa_nil)))))))))) (pe_callHG c_law_draw (hr.mono (by decide)) gdF (by rfl) (takes_of rfl rfl rfl rfl) (pa_cons (pv 0) (pa_cons pe_int pa_nil))) (fun _ _ => rfl)))
      (pss_one (ps_ret (pe_cmpR (op_eqX (hr_u hr)) (pe_lamG (k := 4) F_law_error b_law_error h_law_error sc_law_error (fun cdg => gives_law_error rfl rfl (hgu rfl) (hr.mono (by decide))) TB rfl hmT hu (hr.mono (by decide)) (fun A outer s H E f c' hr => (pe_callHG c_is_table (hr.mono (by decide)) gdF (by rfl) (takes_of rfl rfl rfl rfl) (pa_cons (pv 10) (pa_cons (pv 2) pa_nil)))) (by rfl) rfl (Or.inl rfl) (LamX.lamS_by (sc := defScope s_law_values_right) (by decide +kernel)) rfl (fun _ _ _ _ _ => rfl)) (pe_op op_addX pe_str (pe_callB (call_reprX (hgu rfl) (hr_u hr)) (by rfl) g_repr (by decide +kernel) (pa_cons (pv 10) pa_nil))) (nomark _))))))))),
    (sx_seq (sx_asg (ex_call (ao_own (ao_cons (ex_var (i := 1)) ao_nil))) gx_name)
      (sx_seq (sx_asg (ex_lst (ax_cons (ex_var (i := 2)) (ax_cons (ex_sl (ex_var (i := 2)) ox_no (ox_part (ex_un (ex_con fun _ => rfl)))) (ax_cons (ex_op (ex_var (i := 2)) (ex_sl (ex_var (i := 2)) ox_no (ox_part (ex_con fun _ => rfl)))) (ax_cons (ex_fr (ef_n (ax_cons (ex_var (i := 2)) ax_nil))) (ax_cons (ex_cD (ax_cons (ex_fr (ef_lc (ix_tup' (ex_var (i := 2))) gx_name (by decide) tx_yes (ex_fr (ef_n (ax_cons (ex_var (i := 4)) ax_nil))))) ax_nil)) (ax_cons (ex_con fun _ => rfl) (ax_cons (ex_tup ax_nil) (ax_cons (ex_con fun _ => rfl) ax_nil))))))))) gx_name)
      (sx_seq (sx_asg (ex_op (ex_op (ex_var (i := 3)) (ex_fr (ef_lc (ix_rng1 (ax_cons (ex_con fun _ => rfl) ax_nil)) gx_name (by decide) tx_yes (ex_call (ao_own (ao_cons (ex_var (i := 2)) ao_nil)))))) (ex_lst (ax_cons (ex_call (ao_own ao_nil)) (ax_cons (ex_op (ex_var (i := 2)) (ex_con fun _ => rfl)) (ax_cons (ex_tup (ax_cons (ex_var (i := 2)) ax_nil)) ax_nil))))) gx_name)
      (sx_seq (sx_for (ix_list (ex_var (i := 3))) gx_name
      (sx_seq (sx_for (ix_tup' (ex_tup (ax_cons (ex_var (i := 1)) (ax_cons (ex_op (ex_var (i := 1)) (ex_con fun _ => rfl)) (ax_cons (ex_con fun _ => rfl) ax_nil))))) gx_name
      (sx_if (tx_test (ex_op (ex_cD (ax_cons (ex_call (ao_cons (ex_var (i := 7)) (ao_cons (ex_var (i := 6)) ao_nil))) ax_nil)) (ex_cD (ax_cons (ex_call (ao_cons (ex_var (i := 7)) (ao_cons (ex_var (i := 6)) ao_nil))) ax_nil))))
      (sx_ret (ex_con fun _ => rfl))
      sx_next))
      (sx_seq (sx_asg (ex_if (tx_bool (ex_call (ao_cons (ex_var (i := 1)) (ao_cons (ex_var (i := 6)) ao_nil)))) (ex_con fun _ => rfl) (ex_con fun _ => rfl)) gx_name)
      (sx_seq (sx_new (ef_lst (ax_cons (ex_lam fun E' => (ex_call (ao_cons (ex_var (i := 2)) (ao_cons (ex_var (i := 6)) ao_nil)))) ax_nil)) (by decide))
      (sx_seq (sx_app (ex_lam fun E' => (ex_call (ao_cons (ex_var (i := 2)) (ao_cons (ex_var (i := 2)) (ao_cons (ex_var (i := 6)) ao_nil))))))
      (sx_fz (by decide) (sx_seq (sx_if (tx_test (ex_op (ex_var (i := 9)) (ex_lst (ax_cons (ex_var (i := 8)) (ax_cons (ex_var (i := 8)) ax_nil)))))
      (sx_ret (ex_con fun _ => rfl))
      sx_next)
      (sx_seq (sx_asg (ex_if (tx_bool (ex_cD (ax_cons (ex_var (i := 6)) (ax_cons (ex_con fun _ => rfl) ax_nil)))) (ex_cD (ax_cons (ex_var (i := 6)) ax_nil)) (ex_con fun _ => rfl)) gx_name)
      (sx_seq (sx_asg (ex_if (tx_and (tx_test (ex_chain (ex_con fun _ => rfl) (ex_var (i := 7)) (ex_con fun _ => rfl))) (tx_bool (ex_call (ao_cons (ex_var (i := 7)) (ao_cons (ex_var (i := 6)) ao_nil))))) (ex_con fun _ => rfl) (ex_con fun _ => rfl)) gx_name)
      (sx_seq (sx_new (ef_lst (ax_cons (ex_lam fun E' => (ex_call (ao_cons (ex_var (i := 6)) ao_nil))) ax_nil)) (by decide))
      (sx_seq (sx_app (ex_lam fun E' => (ex_call (ao_cons (ex_var (i := 6)) ao_nil))))
      (sx_fz (by decide) (sx_if (tx_test (ex_op (ex_var (i := 9)) (ex_lst (ax_cons (ex_var (i := 8)) (ax_cons (ex_var (i := 8)) ax_nil)))))
      (sx_ret (ex_con fun _ => rfl))
      sx_next)))))))))))))
      (sx_seq (sx_asg (ex_op (ex_lst (ax_cons (ex_con fun _ => rfl) (ax_cons (ex_con fun _ => rfl) (ax_cons (ex_un (ex_con fun _ => rfl)) (ax_cons (ex_con fun _ => rfl) (ax_cons (ex_con fun _ => rfl) (ax_cons (ex_con fun _ => rfl) (ax_cons (ex_tup (ax_cons (ex_con fun _ => rfl) ax_nil)) (ax_cons (ex_lst (ax_cons (ex_con fun _ => rfl) ax_nil)) (ax_cons (ex_op (ex_con fun _ => rfl) (ex_con fun _ => rfl)) ax_nil)))))))))) (ex_call (ao_own (ao_cons (ex_con fun _ => rfl) ao_nil)))) gx_name)
      (sx_ret (ex_op (ex_lam fun E' => (ex_call (ao_cons (ex_var (i := 10)) (ao_cons (ex_var (i := 2)) ao_nil)))) (ex_op (ex_con fun _ => rfl) (ex_cD (ax_cons (ex_var (i := 10)) ax_nil))))))))))⟩
def m_law_written_right : S := (sSeq (sNew 0 (eNew aNil))
      (sSeq (sFor (itBs rng1D (aCons (eCon (.int 8)) aNil)) (nmD 1)
      (sAppL 0 (eCall tupleD (aCons (eFr (eLc (itBs rng1D (aCons (eCon (.int 8)) aNil)) (nmD 2) (M.pure true) (eIf (tOrB (tTru isBl (eOp neD (eVar 1) (eCon (.int 7)))) (tTru isBl (eOp neD (eVar 2) (eCon (.int 0))))) (eOp ixD (eLst (aCons (eCon (.str (Str.ofString "none"))) (aCons (eCon (.str (Str.ofString "free"))) aNil))) (eCall intD (aCons (eOp eqD (eVar 2) (eOp modD (eOp addD (eVar 1) (eCon (.int 1))) (eCon (.int 8)))) aNil))) (eCon (.str (Str.ofString "paid")))) [2])) aNil))))
      (sFz 0 (sSeq (sAsg (tupD 2 (consD (nmD 3) (consD (nmD 4) nilD))) (eTup (aCons (eCall tupleD (aCons (eVar 0) aNil)) (aCons (eCall tupleD (aCons (eVar 0) aNil)) aNil))))
      (sSeq (sFor (itBs rng1D (aCons (eCon (.int 7)) aNil)) (nmD 5)
      (sAsg (nmD 4) (callM f_product (aoCons (eVar 4) (aoCons (eVar 3) aoNil)))))
      (sSeq (sAsg (nmD 6) (eCall tupleD (aCons (eFr (eLc (itBs rng1D (aCons (eCon (.int 8)) aNil)) (nmD 1) (M.pure true) (eCall tupleD (aCons (eFr (eLc (itBs rng1D (aCons (eCon (.int 8)) aNil)) (nmD 2) (M.pure true) (eOp ixD (eLst (aCons (eCon (.str (Str.ofString "none"))) (aCons (eCon (.str (Str.ofString "paid"))) aNil))) (eCall intD (aCons (eOp eqD (eVar 1) (eVar 2)) aNil))) [2])) aNil)) [1])) aNil)))
      (sSeq (sIf (tOrB (tTru isBl (eOp neD (eVar 4) (eVar 6))) (tOrB (tNotB (tTru isBl (callM f_is_idempotent (aoCons (eVar 4) aoNil)))) (tOrB (tTru isBl (callM f_is_idempotent (aoCons (eVar 3) aoNil))) (tTru isBl (eOp neD (eOp ixD (eOp ixD (callM f_pumped (aoCons (eVar 4) aoNil)) (eCon (.int 3))) (eCon (.int 3))) (eCon (.str (Str.ofString "dear"))))))))
      (sRet (eCon (.bl false)))
      sNext)
      (sSeq (sAsg (nmD 7) (eCall tupleD (aCons (eOp mulD (eLst (aCons (eOp mulD (eTup (aCons (eCon (.str (Str.ofString "free"))) aNil)) (eCon (.int 9))) aNil)) (eCon (.int 9))) aNil)))
      (sSeq (sNew 8 (eNew (aCons (eLam gm_law_error (callM f_product (aoCons (eVar 7) aoNil))) aNil)))
      (sSeq (sAppL 8 (eLam gm_law_error (callM f_is_idempotent (aoCons (eVar 7) aoNil))))
      (sSeq (sAppL 8 (eLam gm_law_error (callM f_product (aoCons (eTup (aCons (eTup (aCons (eCon (.str (Str.ofString "free"))) aNil)) aNil)) (aoCons (eVar 4) aoNil)))))
      (sSeq (sAppL 8 (eLam gm_law_error (callM f_pumped (aoCons (eVar 7) aoNil))))
      (sFz 8 (sRet (eAnd (eOp eqD (eVar 8) (eOp mulD (eLst (aCons (eCon (.str (Str.ofString "table"))) aNil)) (eCon (.int 4)))) (eAnd (callM f_is_table (aoCons (eCon (.int 8)) (aoCons (eVar 3) aoNil))) (eNot (callM f_is_table (aoCons (eCon (.int 8)) (aoCons (eVar 7) aoNil))))))))))))))))))))
def f_law_written_right : FnM := runBody 0 9 m_law_written_right
theorem sc_law_written_right : FnScope ["rows", "i", "j", "circle", "power", "turn", "due", "nine", "found"] [] (defScope s_law_written_right) := ⟨rfl, rfl, rfl, by decide +kernel, rfl, by decide +kernel, by decide +kernel⟩
theorem ok_law_written_right (g_range : mg "range" = none) (g_tuple : mg "tuple" = none) (c_product : HasS false P w K mg base "product" 4 (spM ⟨K, mg, T, none⟩ f_product)) (c_is_idempotent : HasG false P w K mg base "is_idempotent" 4 ["table"] (spM ⟨K, mg, T, none⟩ f_is_idempotent)) (c_is_table : HasG false P w K mg base "is_table" 3 ["size", "value"] (spM ⟨K, mg, T, none⟩ f_is_table)) (c_pumped : HasG false P w K mg base "pumped" 4 ["table"] (spM ⟨K, mg, T, none⟩ f_pumped)) (g_int : mg "int" = none) {g_law_error : Addr} {fd_law_error : FuncData} (F_law_error : Fun K "_law_error" "_law_error" s_law_error g_law_error fd_law_error) (b_law_error : Binds K fd_law_error ["call"] []) (h_law_error : mg "_law_error" = some (.ref g_law_error)) (gives_law_error : ∀ {X : Cx} {cdg : Value} {q : Str}, X.mg = mg → X.K = K → X.A.guards = some [] → Room 1 X.A → LamX.GivesTo X ["call", "e"] "_law_error" (defScope s_law_error) g_law_error cdg (defBody s_law_error) "call" q (LamGo ⟨X.K, X.mg, T, none⟩ gm_law_error)) {cLam pLam : Addr} (TB : LamX.TabB base mg cLam pLam) (hmT : (pLam, ("_law_written_right" : Str) ++ ".<locals>." ++ "<lambda>") ∈ T) (hu : ∀ p ∈ T, p.1 = pLam → p.2 = ("_law_written_right" : Str) ++ ".<locals>." ++ "<lambda>") (F : FunC K "_law_written_right" "_law_written_right" s_law_written_right f fd (.ref cLam)) : FnG true P w K mg base 7 f fd [] (spM ⟨K, mg, T, none⟩ f_law_written_right) :=
  fn_bodyC F sc_law_written_right rfl fun A outer s H E hr hgu => ⟨_, (pss_cons (ps_set (i := 0) sc_law_written_right.nd rfl (by first | exact Or.inl rfl | exact Or.inr rfl) (pe_lst pa_nil))
      (pss_cons (ps_for (passes_of rfl) rfl (pi_range1 rfl g_range (pa_cons pe_int pa_nil)) (pg_name (i := 1) sc_law_written_right.nd rfl (by first | exact Or.inl rfl | exact Or.inr rfl))
      (pss_one (ps_expr (pe_bm PySem.F.plainAttrs_list PySem.F.slot_list_append PySem.F.type_list_append mt_append (pv 0) (pa_cons (pe_callTy call_tupleX (by rfl) g_tuple (by decide +kernel) (pa_cons (pe_lc (own := [("j", 2)]) (by rfl) sc_law_written_right.nd (pi_range1 rfl g_range (pa_cons pe_int pa_nil)) (blkOk_by (own := [("j", 2)]) (N := ["rows", "i", "j", "circle", "power", "turn", "due", "nine", "found"]) (sc := defScope s_law_written_right) (by decide +kernel)) (fun _ _ _ _ _ => (pg_name (i := 2) sc_law_written_right.nd rfl (by first | exact Or.inl rfl | exact Or.inr rfl))) (fun _ _ _ _ _ => pts_nil) (fun _ _ _ _ _ => (pe_ifExp (PW.pt (pw_or (pt_cmpR (op_neX (hr_u hr)) (pv 1) pe_int (nomark _)) (pw_or1 (pt_cmpR (op_neX (hr_u hr)) (pv 2) pe_int (nomark _))))) (pe_ix ix_X (pe_lst (pa_cons pe_str (pa_cons pe_str pa_nil))) (pe_callTy call_intX (by rfl) g_int (by decide +kernel) (pa_cons (pe_cmpR (op_eqX (hr_u hr)) (pv 2) (pe_op op_modX (pe_op op_addX (pv 1) pe_int) pe_int) (nomark _)) pa_nil)) (fun _ _ => rfl)) pe_str))) pa_nil)) pa_nil)))))
      (pss_cons (ps_asg (pe_tup (pa_cons (pe_callTy call_tupleX (by rfl) g_tuple (by decide +kernel) (pa_cons (pv 0) pa_nil)) (pa_cons (pe_callTy call_tupleX (by rfl) g_tuple (by decide +kernel) (pa_cons (pv 0) pa_nil)) pa_nil))) (pg_tup (by rfl) (pgs_cons (pg_name (i := 3) sc_law_written_right.nd rfl (by first | exact Or.inl rfl | exact Or.inr rfl)) (pgs_cons (pg_name (i := 4) sc_law_written_right.nd rfl (by first | exact Or.inl rfl | exact Or.inr rfl)) pgs_nil))))
      (pss_cons (ps_for (passes_of rfl) rfl (pi_range1 rfl g_range (pa_cons pe_int pa_nil)) (pg_name (i := 5) sc_law_written_right.nd rfl (by first | exact Or.inl rfl | exact Or.inr rfl))
      (pss_one (ps_set (i := 4) sc_law_written_right.nd rfl (by first | exact Or.inl rfl | exact Or.inr rfl) (pe_callHS c_product (hr.mono (by decide)) gdF (by rfl) (takes_of rfl rfl rfl rfl) (pa_cons (pv 4) (pa_cons (pv 3) pa_nil))))))
      (pss_cons (ps_set (i := 6) sc_law_written_right.nd rfl (by first | exact Or.inl rfl | exact Or.inr rfl) (pe_callTy call_tupleX (by rfl) g_tuple (by decide +kernel) (pa_cons (pe_lc (own := [("i", 1)]) (by rfl) sc_law_written_right.nd (pi_range1 rfl g_range (pa_cons pe_int pa_nil)) (blkOk_by (own := [("i", 1)]) (N := ["rows", "i", "j", "circle", "power", "turn", "due", "nine", "found"]) (sc := defScope s_law_written_right) (by decide +kernel)) (fun _ _ _ _ _ => (pg_name (i := 1) sc_law_written_right.nd rfl (by first | exact Or.inl rfl | exact Or.inr rfl))) (fun _ _ _ _ _ => pts_nil) (fun _ _ _ _ _ => (pe_callTy call_tupleX (by rfl) g_tuple (by decide +kernel) (pa_cons (pe_lc (own := [("j", 2)]) (by rfl) sc_law_written_right.nd (pi_range1 rfl g_range (pa_cons pe_int pa_nil)) (blkOk_by (own := [("j", 2)]) (N := _) (sc := _) (by kernel_rfl)) (fun _ _ _ _ _ => (pg_name (i := 2) sc_law_written_right.nd rfl (by first | exact Or.inl rfl | exact Or.inr rfl))) (fun _ _ _ _ _ => pts_nil) (fun _ _ _ _ _ => (pe_ix ix_X (pe_lst (pa_cons pe_str (pa_cons pe_str pa_nil))) (pe_callTy call_intX (by rfl) g_int (by decide +kernel) (pa_cons (pe_cmpR (op_eqX (hr_u hr)) (pv 1) (pv 2) (nomark _)) pa_nil)) (fun _ _ => rfl)))) pa_nil)))) pa_nil)))
      (pss_cons (ps_if (PW.pt (pw_or (pt_cmpR (op_neX (hr_u hr)) (pv 4) (pv 6) (nomark _)) (pw_or (pt_not (pt_val (pe_callHG c_is_idempotent (hr.mono (by decide)) gdF (by rfl) (takes_of rfl rfl rfl rfl) (pa_cons (pv 4) pa_nil)))) (pw_or (pt_val (pe_callHG c_is_idempotent (hr.mono (by decide)) gdF (by rfl) (takes_of rfl rfl rfl rfl) (pa_cons (pv 3) pa_nil))) (pw_or1 (pt_cmpR (op_neX (hr_u hr)) (pe_ix ix_X (pe_ix ix_X (pe_callHG c_pumped (hr.mono (by decide)) gdF (by rfl) (takes_of rfl rfl rfl rfl) (pa_cons (pv 4) pa_nil)) pe_int (fun _ _ => rfl)) pe_int (fun _ _ => rfl)) pe_str (nomark _)))))))
      (pss_one (ps_ret pe_bl))
      pss_nil)
      (pss_cons (ps_set (i := 7) sc_law_written_right.nd rfl (by first | exact Or.inl rfl | exact Or.inr rfl) (pe_callTy call_tupleX (by rfl) g_tuple (by decide +kernel) (pa_cons (pe_op op_mulX (pe_lst (pa_cons (pe_op op_mulX (pe_tup (pa_cons pe_str pa_nil)) pe_int) pa_nil)) pe_int) pa_nil)))
      (pss_cons (ps_set (i := 8) sc_law_written_right.nd rfl (by first | exact Or.inl rfl | exact Or.inr rfl) (pe_lst (pa_cons (pe_lamG (k := 4) F_law_error b_law_error h_law_error sc_law_error (fun cdg => gives_law_error rfl rfl (hgu rfl) (hr.mono (by decide))) TB rfl hmT hu (hr.mono (by decide)) (fun A outer s H E f c' hr => (pe_callHS c_product (hr.mono (by decide)) gdF (by rfl) (takes_of rfl rfl rfl rfl) (pa_cons (pv 7) pa_nil))) (by rfl) rfl (Or.inl rfl) (LamX.lamS_by (sc := defScope s_law_written_right) (by decide +kernel)) rfl (fun _ _ _ _ _ => rfl)) pa_nil)))
      (pss_cons (ps_expr (pe_bm PySem.F.plainAttrs_list PySem.F.slot_list_append PySem.F.type_list_append mt_append (pv 8) (pa_cons (pe_lamG (k := 4) F_law_error b_law_error h_law_error sc_law_error (fun cdg => gives_law_error rfl rfl (hgu rfl) (hr.mono (by decide))) TB rfl hmT hu (hr.mono (by decide)) (fun A outer s H E f c' hr => (pe_callHG c_is_idempotent (hr.mono (by decide)) gdF (by rfl) (takes_of rfl rfl rfl rfl) (pa_cons (pv 7) pa_nil))) (by rfl) rfl (Or.inl rfl) (LamX.lamS_by (sc := defScope s_law_written_right) (by decide +kernel)) rfl (fun _ _ _ _ _ => rfl)) pa_nil)))
      (pss_cons (ps_expr (pe_bm PySem.F.plainAttrs_list PySem.F.slot_list_append PySem.F.type_list_append mt_append (pv 8) (pa_cons (pe_lamG (k := 4) F_law_error b_law_error h_law_error sc_law_error (fun cdg => gives_law_error rfl rfl (hgu rfl) (hr.mono (by decide))) TB rfl hmT hu (hr.mono (by decide)) (fun A outer s H E f c' hr => (pe_callHS c_product (hr.mono (by decide)) gdF (by rfl) (takes_of rfl rfl rfl rfl) (pa_cons (pe_tup (pa_cons (pe_tup (pa_cons pe_str pa_nil)) pa_nil)) (pa_cons (pv 4) pa_nil)))) (by rfl) rfl (Or.inl rfl) (LamX.lamS_by (sc := defScope s_law_written_right) (by decide +kernel)) rfl (fun _ _ _ _ _ => rfl)) pa_nil)))
      (pss_cons (ps_expr (pe_bm PySem.F.plainAttrs_list PySem.F.slot_list_append PySem.F.type_list_append mt_append (pv 8) (pa_cons (pe_lamG (k := 4) F_law_error b_law_error h_law_error sc_law_error (fun cdg => gives_law_error rfl rfl (hgu rfl) (hr.mono (by decide))) TB rfl hmT hu (hr.mono (by decide)) (fun A outer s H E f c' hr => (pe_callHG c_pumped (hr.mono (by decide)) gdF (by rfl) (takes_of rfl rfl rfl rfl) (pa_cons (pv 7) pa_nil))) (by rfl) rfl (Or.inl rfl) (LamX.lamS_by (sc := defScope s_law_written_right) (by decide +kernel)) rfl (fun _ _ _ _ _ => rfl)) pa_nil)))
      (pss_one (ps_ret (pe_and (pe_cmpR (op_eqX (hr_u hr)) (pv 8) (pe_op op_mulX (pe_lst (pa_cons pe_str pa_nil)) pe_int) (nomark _)) (pe_and (pe_callHG c_is_table (hr.mono (by decide)) gdF (by rfl) (takes_of rfl rfl rfl rfl) (pa_cons pe_int (pa_cons (pv 3) pa_nil))) (pe_one (pe_not (pe_callHG c_is_table (hr.mono (by decide)) gdF (by rfl) (takes_of rfl rfl rfl rfl) (pa_cons pe_int (pa_cons (pv 7) pa_nil)))))))))))))))))))),
    (sx_seq (sx_new (ef_lst ax_nil) (by decide))
      (sx_seq (sx_for (ix_rng1 (ax_cons (ex_con fun _ => rfl) ax_nil)) gx_name
      (sx_app (ex_cD (ax_cons (ex_fr (ef_lc (ix_rng1 (ax_cons (ex_con fun _ => rfl) ax_nil)) gx_name (by decide) tx_yes (ex_if (tx_or (tx_test (ex_op (ex_var (i := 1)) (ex_con fun _ => rfl))) (tx_test (ex_op (ex_var (i := 2)) (ex_con fun _ => rfl)))) (ex_op (ex_lst (ax_cons (ex_con fun _ => rfl) (ax_cons (ex_con fun _ => rfl) ax_nil))) (ex_cD (ax_cons (ex_op (ex_var (i := 2)) (ex_op (ex_op (ex_var (i := 1)) (ex_con fun _ => rfl)) (ex_con fun _ => rfl))) ax_nil))) (ex_con fun _ => rfl)))) ax_nil))))
      (sx_fz (by decide) (sx_seq (sx_asg (ex_tup (ax_cons (ex_cD (ax_cons (ex_var (i := 0)) ax_nil)) (ax_cons (ex_cD (ax_cons (ex_var (i := 0)) ax_nil)) ax_nil))) (gx_tup (gxs_cons gx_name (gxs_cons gx_name gxs_nil))))
      (sx_seq (sx_for (ix_rng1 (ax_cons (ex_con fun _ => rfl) ax_nil)) gx_name
      (sx_asg (ex_call (ao_cons (ex_var (i := 4)) (ao_cons (ex_var (i := 3)) ao_nil))) gx_name))
      (sx_seq (sx_asg (ex_cD (ax_cons (ex_fr (ef_lc (ix_rng1 (ax_cons (ex_con fun _ => rfl) ax_nil)) gx_name (by decide) tx_yes (ex_cD (ax_cons (ex_fr (ef_lc (ix_rng1 (ax_cons (ex_con fun _ => rfl) ax_nil)) gx_name (by decide) tx_yes (ex_op (ex_lst (ax_cons (ex_con fun _ => rfl) (ax_cons (ex_con fun _ => rfl) ax_nil))) (ex_cD (ax_cons (ex_op (ex_var (i := 1)) (ex_var (i := 2))) ax_nil))))) ax_nil)))) ax_nil)) gx_name)
      (sx_seq (sx_if (tx_or (tx_test (ex_op (ex_var (i := 4)) (ex_var (i := 6)))) (tx_or (tx_not (tx_bool (ex_call (ao_cons (ex_var (i := 4)) ao_nil)))) (tx_or (tx_bool (ex_call (ao_cons (ex_var (i := 3)) ao_nil))) (tx_test (ex_op (ex_op (ex_op (ex_call (ao_cons (ex_var (i := 4)) ao_nil)) (ex_con fun _ => rfl)) (ex_con fun _ => rfl)) (ex_con fun _ => rfl))))))
      (sx_ret (ex_con fun _ => rfl))
      sx_next)
      (sx_seq (sx_asg (ex_cD (ax_cons (ex_op (ex_lst (ax_cons (ex_op (ex_tup (ax_cons (ex_con fun _ => rfl) ax_nil)) (ex_con fun _ => rfl)) ax_nil)) (ex_con fun _ => rfl)) ax_nil)) gx_name)
      (sx_seq (sx_new (ef_lst (ax_cons (ex_lam fun E' => (ex_call (ao_cons (ex_var (i := 7)) ao_nil))) ax_nil)) (by decide))
      (sx_seq (sx_app (ex_lam fun E' => (ex_call (ao_cons (ex_var (i := 7)) ao_nil))))
      (sx_seq (sx_app (ex_lam fun E' => (ex_call (ao_cons (ex_tup (ax_cons (ex_tup (ax_cons (ex_con fun _ => rfl) ax_nil)) ax_nil)) (ao_cons (ex_var (i := 4)) ao_nil)))))
      (sx_seq (sx_app (ex_lam fun E' => (ex_call (ao_cons (ex_var (i := 7)) ao_nil))))
      (sx_fz (by decide) (sx_ret (ex_and (ex_op (ex_var (i := 8)) (ex_op (ex_lst (ax_cons (ex_con fun _ => rfl) ax_nil)) (ex_con fun _ => rfl))) (ex_and (ex_call (ao_cons (ex_con fun _ => rfl) (ao_cons (ex_var (i := 3)) ao_nil))) (ex_not (ex_call (ao_cons (ex_con fun _ => rfl) (ao_cons (ex_var (i := 7)) ao_nil))))))))))))))))))))⟩
def m_law : S := (sSeq (sFor (itBs rng1D (aCons (eCall max2D (aCons (eCon (.int 1)) (aCons (eCall min2D (aCons (eCon (.int 5)) (aCons (eCall lenD (aCons (eVar 0) aNil)) aNil))) aNil))) aNil)) (nmD 1)
      (sSeq (sNew 2 (callN f_law_stream (aoCons (eVar 0) (aoCons (eVar 1) aoNil))))
      (sFor (itBs rng1D (aCons (eCon (.int 2)) aNil)) (nmD 3)
      (sSeq (sAsg (nmD 4) (eOp addD (eCon (.int 1)) (callM f_law_draw (aoOwn 2 (aoCons (eCon (.int 7)) aoNil)))))
      (sIf (tOrB (tNotB (tTru isBl (callM f_law_right (aoOwn 2 (aoCons (eVar 4) aoNil))))) (tNotB (tTru isBl (callM f_law_values_right (aoOwn 2 (aoCons (eVar 4) aoNil))))))
      (sRet (eCon (.bl false)))
      sNext)))))
      (sRet (callM f_law_written_right aoNil)))
def f_law : FnM := runBody 1 4 m_law
theorem sc_law : FnScope ["script", "at", "stream", "turn", "size"] ["script"] (defScope s_law) := ⟨rfl, rfl, rfl, by decide +kernel, rfl, by decide +kernel, by decide +kernel⟩
theorem ok_law (g_range : mg "range" = none) (c_law_written_right : HasG true P w K mg base "_law_written_right" 7 [] (spM ⟨K, mg, T, none⟩ f_law_written_right)) (g_max : mg "max" = none) (c_law_stream : HasG false P w K mg base "_law_stream" 1 ["script", "at"] (spM ⟨K, mg, T, none⟩ f_law_stream)) (g_min : mg "min" = none) (g_len : mg "len" = none) (c_law_draw : HasG false P w K mg base "_law_draw" 1 ["stream", "total"] (spM ⟨K, mg, T, none⟩ f_law_draw)) (c_law_right : HasG true P w K mg base "_law_right" 5 ["stream", "size"] (spM ⟨K, mg, T, none⟩ f_law_right)) (c_law_values_right : HasG true P w K mg base "_law_values_right" 7 ["stream", "size"] (spM ⟨K, mg, T, none⟩ f_law_values_right)) (F : Fun K "law" "law" s_law f fd) : FnG true P w K mg base 8 f fd ["script"] (spM ⟨K, mg, T, none⟩ f_law) :=
  fn_body F sc_law rfl fun cdv A outer s H E hr hgu => ⟨_, (pss_cons (ps_for (passes_of rfl) rfl (pi_range1 rfl g_range (pa_cons (pe_callB (call_max2X rfl) (by rfl) g_max (by decide +kernel) (pa_cons pe_int (pa_cons (pe_callB (call_min2X rfl) (by rfl) g_min (by decide +kernel) (pa_cons pe_int (pa_cons (pe_callB call_lenX (by rfl) g_len (by decide +kernel) (pa_cons (pv 0) pa_nil)) pa_nil))) pa_nil))) pa_nil)) (pg_name (i := 1) sc_law.nd rfl (by first | exact Or.inl rfl | exact Or.inr rfl))
      (pss_cons (ps_set (i := 2) sc_law.nd rfl (by first | exact Or.inl rfl | exact Or.inr rfl) (pe_callHG c_law_stream (hr.mono (by decide)) gdF (by rfl) (takes_of rfl rfl rfl rfl) (pa_cons (pv 0) (pa_cons (pv 1) pa_nil))))
      (pss_one (ps_for (passes_of rfl) rfl (pi_range1 rfl g_range (pa_cons pe_int pa_nil)) (pg_name (i := 3) sc_law.nd rfl (by first | exact Or.inl rfl | exact Or.inr rfl))
      (pss_cons (ps_set (i := 4) sc_law.nd rfl (by first | exact Or.inl rfl | exact Or.inr rfl) (pe_op op_addX pe_int (pe_callHG c_law_draw (hr.mono (by decide)) gdF (by rfl) (takes_of rfl rfl rfl rfl) (pa_cons (pv 2) (pa_cons pe_int pa_nil)))))
      (pss_one (ps_if (PW.pt (pw_or (pt_not (pt_val (pe_callHG c_law_right (hr.mono (by decide)) hgu (by rfl) (takes_of rfl rfl rfl rfl) (pa_cons (pv 2) (pa_cons (pv 4) pa_nil))))) (pw_or1 (pt_not (pt_val (pe_callHG c_law_values_right (hr.mono (by decide)) hgu (by rfl) (takes_of rfl rfl rfl rfl) (pa_cons (pv 2) (pa_cons (pv 4) pa_nil))))))))
      (pss_one (ps_ret pe_bl))
      pss_nil)))))))
      (pss_one (ps_ret (pe_callHG0 c_law_written_right (hr.mono (by decide)) hgu (by rfl) (takes_of rfl rfl rfl rfl))))),
    (sx_seq (sx_for (ix_rng1 (ax_cons (ex_cD (ax_cons (ex_con fun _ => rfl) (ax_cons (ex_cD (ax_cons (ex_con fun _ => rfl) (ax_cons (ex_cD (ax_cons (ex_var (i := 0)) ax_nil)) ax_nil))) ax_nil))) ax_nil)) gx_name
      (sx_seq (sx_new (ef_call (ao_cons (ex_var (i := 0)) (ao_cons (ex_var (i := 1)) ao_nil))) (by decide))
      (sx_for (ix_rng1 (ax_cons (ex_con fun _ => rfl) ax_nil)) gx_name
      (sx_seq (sx_asg (ex_op (ex_con fun _ => rfl) (ex_call (ao_own (ao_cons (ex_con fun _ => rfl) ao_nil)))) gx_name)
      (sx_if (tx_or (tx_not (tx_bool (ex_call (ao_own (ao_cons (ex_var (i := 4)) ao_nil))))) (tx_not (tx_bool (ex_call (ao_own (ao_cons (ex_var (i := 4)) ao_nil))))))
      (sx_ret (ex_con fun _ => rfl))
      sx_next)))))
      (sx_ret (ex_call ao_nil)))⟩
end
end Pl
namespace Pl
open PySem PySem.Spec PyProof.Rows L2
def b_packed_form_1 : S := (sSeq (sIf (tTru isBl (eOp ninD (eVar 5) (eCon (.tup tab_ORDER)))) (sRet (eCon .non)) sNext) (sAsg (nmD 4) (eOp orD (eOp shlD (eVar 4) (eCon (.int 1))) (eUn (lookS tab_CODES) (eVar 5)))))
def b_packed_form_2 : S := (sSeq (sIf (tOrB (tNotB (tTru isBl (eCall isiD (aCons (eVar 3) (aCons (eCon (.rf (.ty "tuple"))) aNil))))) (tTru isBl (eOp neD (eCall lenD (aCons (eVar 3) aNil)) (eVar 0)))) (sRet (eCon .non)) sNext) (sSeq (sAsg (nmD 4) (eCon (.int 0))) (sSeq (sFor (itBy asTup (eUn backD (eVar 3))) (nmD 5) b_packed_form_1) (sAppL 2 (eVar 4)))))
theorem q_packed_form : m_packed_form = (sSeq (sIf (tOrB (tNotB (tTru isBl (eCall isiD (aCons (eVar 1) (aCons (eCon (.rf (.ty "tuple"))) aNil))))) (tTru isBl (eOp neD (eCall lenD (aCons (eVar 1) aNil)) (eVar 0)))) (sRet (eCon .non)) sNext) (sSeq (sNew 2 (eNew aNil)) (sSeq (sFor (itBy asTup (eVar 1)) (nmD 3) b_packed_form_2) (sFz 2 (sRet (eCall tupleD (aCons (eVar 2) aNil))))))) := rfl
def b_table_from_1 : S := (sSeq (sAppL 3 (eUn (lookI tab_NAMES) (eOp andD (eVar 2) (eCon (.int 16843009))))) (sAsg (nmD 2) (eOp shrD (eVar 2) (eCon (.int 1)))))
def b_table_from_2 : S := (sSeq (sNew 3 (eNew aNil)) (sSeq (sFor (itBy asTup (eVar 0)) (nmD 4) b_table_from_1) (sFz 3 (sAppL 1 (eCall tupleD (aCons (eVar 3) aNil))))))
theorem q_table_from : m_table_from = (sSeq (sNew 1 (eNew aNil)) (sSeq (sFor (itBy asTup (eVar 0)) (nmD 2) b_table_from_2) (sFz 1 (sRet (eCall tupleD (aCons (eVar 1) aNil)))))) := rfl
def b_row_times_1 : S := (sSeq (sAsg (nmD 4) (eOp andD (eVar 0) (eCon (.int 16843009)))) (sSeq (sIf (tTru isBl (eOp eqD (eVar 4) (eCon (.int 65793)))) (sAsg (nmD 2) (eOp orD (eVar 2) (eVar 3))) (sIf (tTru isBl (eOp eqD (eVar 4) (eCon (.int 257)))) (sAsg (nmD 2) (eOp orD (eOp orD (eVar 2) (eOp andD (eVar 3) (eCon (.int 4278255615)))) (eOp andD (eOp shrD (eVar 3) (eCon (.int 8))) (eCon (.int 16711680))))) (sIf (tTru isBl (eOp eqD (eVar 4) (eCon (.int 16843009)))) (sAsg (nmD 2) (eOp orD (eOp orD (eVar 2) (eOp andD (eVar 3) (eCon (.int 255)))) (eOp mulD (eOp andD (eOp shrD (eVar 3) (eCon (.int 8))) (eCon (.int 255))) (eCon (.int 16843008))))) (sIf (tTru isBl (eOp eqD (eVar 4) (eCon (.int 1)))) (sAsg (nmD 2) (eOp orD (eVar 2) (eOp andD (eVar 3) (eCon (.int 255))))) sNext)))) (sAsg (nmD 0) (eOp shrD (eVar 0) (eCon (.int 1))))))
theorem q_row_times : m_row_times = (sSeq (sAsg (nmD 2) (eCon (.int 0))) (sSeq (sFor (itBy asSeq (eVar 1)) (nmD 3) b_row_times_1) (sRet (eVar 2)))) := rfl
def b_law_is_a_table_1 : S := (sIf (tOrB (tNotB (tTru isBl (eCall isiD (aCons (eVar 3) (aCons (eCon (.rf (.ty "str"))) aNil))))) (tTru isBl (eOp ninD (eVar 3) (eTup (aCons (eCon (.str (Str.ofString "restart"))) (aCons (eCon (.str (Str.ofString "free"))) (aCons (eCon (.str (Str.ofString "paid"))) (aCons (eCon (.str (Str.ofString "dear"))) (aCons (eCon (.str (Str.ofString "none"))) aNil))))))))) (sRet (eCon (.bl false))) sNext)
def b_law_is_a_table_2 : S := (sSeq (sIf (tOrB (tNotB (tTru isBl (eCall isiD (aCons (eVar 2) (aCons (eCon (.rf (.ty "tuple"))) aNil))))) (tTru isBl (eOp neD (eCall lenD (aCons (eVar 2) aNil)) (eVar 0)))) (sRet (eCon (.bl false))) sNext) (sFor (itBy asTup (eVar 2)) (nmD 3) b_law_is_a_table_1))
theorem q_law_is_a_table : m_law_is_a_table = (sSeq (sIf (tOrB (tNotB (tTru isBl (eCall isiD (aCons (eVar 1) (aCons (eCon (.rf (.ty "tuple"))) aNil))))) (tTru isBl (eOp neD (eCall lenD (aCons (eVar 1) aNil)) (eVar 0)))) (sRet (eCon (.bl false))) sNext) (sSeq (sFor (itBy asTup (eVar 1)) (nmD 2) b_law_is_a_table_2) (sRet (eCon (.bl true))))) := rfl
def e_packed_product_1 : M D := (callM f_row_times (aoCons (eVar 2) (aoCons (eVar 1) aoNil)))
theorem q_packed_product : m_packed_product = (sRet (eCall tupleD (aCons (eFr (eLc (itBy asTup (eVar 0)) (nmD 2) (M.pure true) e_packed_product_1 [2])) aNil))) := rfl
def b_is_packed_idempotent_1 : S := (sIf (tTru isBl (eOp neD (callM f_row_times (aoCons (eVar 1) (aoCons (eVar 0) aoNil))) (eVar 1))) (sRet (eCon (.bl false))) sNext)
theorem q_is_packed_idempotent : m_is_packed_idempotent = (sSeq (sFor (itBy asTup (eVar 0)) (nmD 1) b_is_packed_idempotent_1) (sRet (eCon (.bl true)))) := rfl
def b_law_times_1 : S := (sIf (tTru isBl (eOp neD (eVar 8) (eCon (.str (Str.ofString "none"))))) (sAsg (nmD 6) (callM f_law_better (aoCons (eVar 6) (aoCons (callM f_law_joined (aoCons (eVar 8) (aoCons (eOp ixD (eOp ixD (eVar 1) (eVar 7)) (eVar 5)) aoNil))) aoNil)))) sNext)
def b_law_times_2 : S := (sSeq (sAsg (nmD 6) (eCon (.str (Str.ofString "none")))) (sSeq (sFor (itBs enumAD (aCons (eVar 3) aNil)) (tupD 2 (consD (nmD 7) (consD (nmD 8) nilD))) b_law_times_1) (sAppL 4 (eVar 6))))
def b_law_times_3 : S := (sSeq (sNew 4 (eNew aNil)) (sSeq (sFor (itBs rng1D (aCons (eCall lenD (aCons (eVar 3) aNil)) aNil)) (nmD 5) b_law_times_2) (sFz 4 (sAppL 2 (eCall tupleD (aCons (eVar 4) aNil))))))
theorem q_law_times : m_law_times = (sSeq (sNew 2 (eNew aNil)) (sSeq (sFor (itBy asTup (eVar 0)) (nmD 3) b_law_times_3) (sFz 2 (sRet (eCall tupleD (aCons (eVar 2) aNil)))))) := rfl
def b_law_some_table_1 : S := (sAppL 5 (eOp ixD (eVar 2) (callM f_law_draw (aoOwn 0 (aoCons (eCon (.int 5)) aoNil)))))
def b_law_some_table_2 : S := (sSeq (sNew 5 (eNew aNil)) (sSeq (sFor (itBs rng1D (aCons (eVar 1) aNil)) (nmD 6) b_law_some_table_1) (sFz 5 (sAppL 3 (eCall tupleD (aCons (eVar 5) aNil))))))
theorem q_law_some_table : m_law_some_table = (sSeq (sAsg (nmD 2) (eOp ixD (eLst (aCons (eLst (aCons (eCon (.str (Str.ofString "restart"))) (aCons (eCon (.str (Str.ofString "free"))) (aCons (eCon (.str (Str.ofString "paid"))) (aCons (eCon (.str (Str.ofString "dear"))) (aCons (eCon (.str (Str.ofString "none"))) aNil)))))) (aCons (eLst (aCons (eCon (.str (Str.ofString "none"))) (aCons (eCon (.str (Str.ofString "none"))) (aCons (eCon (.str (Str.ofString "none"))) (aCons (eCon (.str (Str.ofString "free"))) (aCons (eCon (.str (Str.ofString "paid"))) aNil)))))) (aCons (eLst (aCons (eCon (.str (Str.ofString "paid"))) (aCons (eCon (.str (Str.ofString "paid"))) (aCons (eCon (.str (Str.ofString "free"))) (aCons (eCon (.str (Str.ofString "none"))) (aCons (eCon (.str (Str.ofString "restart"))) aNil)))))) aNil)))) (callM f_law_draw (aoOwn 0 (aoCons (eCon (.int 3)) aoNil))))) (sSeq (sNew 3 (eNew aNil)) (sSeq (sFor (itBs rng1D (aCons (eVar 1) aNil)) (nmD 4) b_law_some_table_2) (sFz 3 (sRet (eCall tupleD (aCons (eVar 3) aNil))))))) := rfl
def e_packed_pumped_1 : M D := (eOp andD (eOp shrD (eVar 3) (eVar 2)) (eCon (.int 16843009)))
def e_packed_pumped_2 : M D := (callM f_row_times (aoCons (eIf (tTru isBl (eOp eqD (eVar 5) (eCon (.int 257)))) (eCon (.int 1)) (eVar 5)) (aoCons (eTup (aCons (eVar 3) aNil)) aoNil)))
theorem q_packed_pumped : m_packed_pumped = (sSeq (sAsg (nmD 1) (eFr (eLc (itBs enumAD (aCons (eVar 0) aNil)) (tupD 2 (consD (nmD 2) (consD (nmD 3) nilD))) (M.pure true) e_packed_pumped_1 [2, 3]))) (sSeq (sIf (tTru isBl (eOp ninD (eCon (.int 257)) (eVar 1))) (sRet (eVar 0)) sNext) (sSeq (sAsg (nmD 4) (eFr (eLc (itBs zipBD (aCons (eVar 1) (aCons (eVar 0) aNil))) (tupD 2 (consD (nmD 5) (consD (nmD 3) nilD))) (M.pure true) e_packed_pumped_2 [5, 3]))) (sRet (callM f_packed_product (aoCons (eVar 0) (aoCons (eVar 4) aoNil))))))) := rfl
def b_law_steady_1 : S := (sSeq (sIf (tTru isBl (eOp eqD (callM f_law_times (aoCons (eVar 1) (aoCons (eVar 1) aoNil))) (eVar 1))) (sRet (eVar 1)) sNext) (sAsg (nmD 1) (callM f_law_times (aoCons (eVar 1) (aoCons (eVar 0) aoNil)))))
theorem q_law_steady : m_law_steady = (sSeq (sAsg (nmD 1) (eVar 0)) (sSeq (sFor (itBs rng1D (aCons (eCon (.int 40)) aNil)) (nmD 2) b_law_steady_1) (sRet (eCon .non)))) := rfl
def e_product_1 : M D := (callM f_packed_table (aoCons (eCall lenD (aCons (eVar 2) aNil)) (aoCons (eVar 4) aoNil)))
def b_product_2 : S := (sAsg (nmD 2) (callM f_packed_product (aoCons (eVar 2) (aoCons (eVar 3) aoNil))))
theorem q_product : m_product = (sSeq (sAsg (nmD 2) (callM f_first_packed (aoCons (eVar 0) aoNil))) (sSeq (sFor (itBy asLst (eFr (eLcX (itBy asTup (eVar 1)) (nmD 4) (M.pure true) e_product_1 [4]))) (nmD 3) b_product_2) (sRet (callM f_table_from (aoCons (eVar 2) aoNil))))) := rfl
def e_law_right_1 : M D := (callM f_law_some_table (aoOwn 0 (aoCons (eVar 1) aoNil)))
def b_law_right_2 : S := (sIf (tTru isBl (eOp neD (eCall reprD (aCons (callM f_is_idempotent (aoCons (eVar 12) aoNil)) aNil)) (eCall reprD (aCons (eOp eqD (callM f_law_times (aoCons (eVar 12) (aoCons (eVar 12) aoNil))) (eVar 12)) aNil)))) (sRet (eCon (.bl false))) sNext)
theorem q_law_right : m_law_right = (sSeq (sAsg (nmD 2) (eFr (eLc (itBs rng1D (aCons (eCon (.int 5)) aNil)) (nmD 3) (M.pure true) e_law_right_1 [3]))) (sSeq (sAsg (tupD 4 (consD (nmD 4) (consD (nmD 5) (consD (nmD 6) (consD (nmD 7) nilD))))) (eTup (aCons (eCall reprD (aCons (eVar 2) aNil)) (aCons (eOp ixD (eVar 2) (eCon (.int 0))) (aCons (eOp ixD (eVar 2) (eCon (.int 1))) (aCons (eOp ixD (eVar 2) (eCon (.int 2))) aNil)))))) (sSeq (sPar 8 9 (aCons (callM f_law_times (aoCons (callM f_law_times (aoCons (eVar 5) (aoCons (eVar 6) aoNil))) (aoCons (eVar 7) aoNil))) (aCons (callM f_law_times (aoCons (eVar 5) (aoCons (eVar 6) aoNil))) aNil))) (sSeq (sIf (tOrB (tTru isBl (eOp neD (callM f_product (aoCons (eVar 5) aoNil)) (eVar 5))) (tOrB (tTru isBl (eOp neD (callM f_product (aoCons (eVar 5) (aoCons (eVar 6) aoNil))) (eVar 9))) (tTru isBl (eOp neD (callM f_product (aoCons (eVar 5) (aoCons (eVar 6) (aoCons (eVar 7) aoNil)))) (eVar 8))))) (sRet (eCon (.bl false))) sNext) (sSeq (sIf (tOrB (tTru isBl (eOp neD (callM f_product (aoCons (eVar 5) (aoCons (callM f_product (aoCons (eVar 6) (aoCons (eVar 7) aoNil))) aoNil))) (eVar 8))) (tTru isBl (eOp neD (callM f_product (aoCons (callM f_product (aoCons (eVar 5) (aoCons (eVar 6) aoNil))) (aoCons (eVar 7) aoNil))) (eVar 8)))) (sRet (eCon (.bl false))) sNext) (sSeq (sAsg (nmD 10) (callM f_law_times (aoCons (callM f_law_times (aoCons (eVar 8) (aoCons (eOp ixD (eVar 2) (eCon (.int 3))) aoNil))) (aoCons (eOp ixD (eVar 2) (eCon (.int 4))) aoNil)))) (sSeq (sIf (tOrB (tTru isBl (eOp neD (callM f_product (aoCons (eVar 5) (aoCons (eVar 6) (aoCons (eVar 7) (aoCons (eOp ixD (eVar 2) (eCon (.int 3))) (aoCons (eOp ixD (eVar 2) (eCon (.int 4))) aoNil)))))) (eVar 10))) (tTru isBl (eOp neD (eCall reprD (aCons (eVar 2) aNil)) (eVar 4)))) (sRet (eCon (.bl false))) sNext) (sSeq (sAsg (nmD 11) (callM f_law_steady (aoCons (eVar 5) aoNil))) (sSeq (sFor (itBy asLst (eOp addD (eOp addD (eVar 2) (eLst (aCons (eVar 8) (aCons (eVar 10) aNil)))) (eIf (tTru isBl (eOp isD (eVar 11) (eCon .non))) (eLst aNil) (eLst (aCons (eVar 11) aNil))))) (nmD 12) b_law_right_2) (sRet (eCon (.bl true)))))))))))) := rfl
def e_law_values_right_1 : M D := (eFr (eN listD (aCons (eVar 4) aNil)))
def e_law_values_right_2 : M D := (callM (f_law_changed 4) (aoOwn 0 (aoCons (eVar 2) aoNil)))
def b_law_values_right_3 : S := (sIf (tTru isBl (eOp neD (eCall reprD (aCons (callM f_is_table (aoCons (eVar 7) (aoCons (eVar 6) aoNil))) aNil)) (eCall reprD (aCons (callM f_law_is_a_table (aoCons (eVar 7) (aoCons (eVar 6) aoNil))) aNil)))) (sRet (eCon (.bl false))) sNext)
def b_law_values_right_4 : S := (sSeq (sFor (itBy asTup (eTup (aCons (eVar 1) (aCons (eOp addD (eVar 1) (eCon (.int 1))) (aCons (eCon (.int 1)) aNil))))) (nmD 7) b_law_values_right_3) (sSeq (sAsg (nmD 8) (eIf (tTru isBl (callM f_law_is_a_table (aoCons (eVar 1) (aoCons (eVar 6) aoNil)))) (eCon (.str (Str.ofString "returned"))) (eCon (.str (Str.ofString "table"))))) (sSeq (sNew 9 (eNew (aCons (eLam gm_law_error (callM f_product (aoCons (eVar 2) (aoCons (eVar 6) aoNil)))) aNil))) (sSeq (sAppL 9 (eLam gm_law_error (callM f_product (aoCons (eVar 2) (aoCons (eVar 2) (aoCons (eVar 6) aoNil)))))) (sFz 9 (sSeq (sIf (tTru isBl (eOp neD (eVar 9) (eLst (aCons (eVar 8) (aCons (eVar 8) aNil))))) (sRet (eCon (.bl false))) sNext) (sSeq (sAsg (nmD 7) (eIf (tTru isBl (eCall isiD (aCons (eVar 6) (aCons (eCon (.rf (.ty "tuple"))) aNil)))) (eCall lenD (aCons (eVar 6) aNil)) (eCon (.int 0)))) (sSeq (sAsg (nmD 8) (eIf (tAndB (tTru isBl (eChain ltD ltD (eCon (.int 0)) (eVar 7) (eCon (.int 9)))) (tTru isBl (callM f_law_is_a_table (aoCons (eVar 7) (aoCons (eVar 6) aoNil))))) (eCon (.str (Str.ofString "returned"))) (eCon (.str (Str.ofString "table"))))) (sSeq (sNew 9 (eNew (aCons (eLam gm_law_error (callM f_product (aoCons (eVar 6) aoNil))) aNil))) (sSeq (sAppL 9 (eLam gm_law_error (callM f_is_idempotent (aoCons (eVar 6) aoNil)))) (sFz 9 (sIf (tTru isBl (eOp neD (eVar 9) (eLst (aCons (eVar 8) (aCons (eVar 8) aNil))))) (sRet (eCon (.bl false))) sNext))))))))))))
theorem q_law_values_right : m_law_values_right = (sSeq (sAsg (nmD 2) (callM f_law_some_table (aoOwn 0 (aoCons (eVar 1) aoNil)))) (sSeq (sAsg (nmD 3) (eLst (aCons (eVar 2) (aCons (eSl (eVar 2) oNo (oPart (eUn negD (eCon (.int 1))))) (aCons (eOp addD (eVar 2) (eSl (eVar 2) oNo (oPart (eCon (.int 1))))) (aCons (eFr (eN listD (aCons (eVar 2) aNil))) (aCons (eCall tupleD (aCons (eFr (eLc (itBy asTup (eVar 2)) (nmD 4) (M.pure true) e_law_values_right_1 [4])) aNil)) (aCons (eCon .non) (aCons (eTup aNil) (aCons (eCon (.str (Str.ofString "table"))) aNil)))))))))) (sSeq (sAsg (nmD 3) (eOp addD (eOp addD (eVar 3) (eFr (eLc (itBs rng1D (aCons (eCon (.int 6)) aNil)) (nmD 5) (M.pure true) e_law_values_right_2 [5]))) (eLst (aCons (callM f_law_other (aoOwn 0 aoNil)) (aCons (eOp ixD (eVar 2) (eCon (.int 0))) (aCons (eTup (aCons (eVar 2) aNil)) aNil)))))) (sSeq (sFor (itBy asLst (eVar 3)) (nmD 6) b_law_values_right_4) (sSeq (sAsg (nmD 10) (eOp ixD (eLst (aCons (eCon (.int 0)) (aCons (eCon (.int 9)) (aCons (eUn negD (eCon (.int 1))) (aCons (eCon .non) (aCons (eCon (.bl true)) (aCons (eCon (.str (Str.ofString "2"))) (aCons (eTup (aCons (eCon (.int 1)) aNil)) (aCons (eLst (aCons (eCon (.int 1)) aNil)) (aCons (eOp powD (eCon (.int 10)) (eCon (.int 39))) aNil)))))))))) (callM f_law_draw (aoOwn 0 (aoCons (eCon (.int 9)) aoNil))))) (sRet (eOp eqD (eLam gm_law_error (callM f_is_table (aoCons (eVar 10) (aoCons (eVar 2) aoNil)))) (eOp addD (eCon (.str (Str.ofString "number "))) (eCall reprD (aCons (eVar 10) aNil)))))))))) := rfl
def e_law_written_right_1 : M D := (eIf (tOrB (tTru isBl (eOp neD (eVar 1) (eCon (.int 7)))) (tTru isBl (eOp neD (eVar 2) (eCon (.int 0))))) (eOp ixD (eLst (aCons (eCon (.str (Str.ofString "none"))) (aCons (eCon (.str (Str.ofString "free"))) aNil))) (eCall intD (aCons (eOp eqD (eVar 2) (eOp modD (eOp addD (eVar 1) (eCon (.int 1))) (eCon (.int 8)))) aNil))) (eCon (.str (Str.ofString "paid"))))
def b_law_written_right_2 : S := (sAppL 0 (eCall tupleD (aCons (eFr (eLc (itBs rng1D (aCons (eCon (.int 8)) aNil)) (nmD 2) (M.pure true) e_law_written_right_1 [2])) aNil)))
def b_law_written_right_3 : S := (sAsg (nmD 4) (callM f_product (aoCons (eVar 4) (aoCons (eVar 3) aoNil))))
def e_law_written_right_4 : M D := (eOp ixD (eLst (aCons (eCon (.str (Str.ofString "none"))) (aCons (eCon (.str (Str.ofString "paid"))) aNil))) (eCall intD (aCons (eOp eqD (eVar 1) (eVar 2)) aNil)))
def e_law_written_right_5 : M D := (eCall tupleD (aCons (eFr (eLc (itBs rng1D (aCons (eCon (.int 8)) aNil)) (nmD 2) (M.pure true) e_law_written_right_4 [2])) aNil))
theorem q_law_written_right : m_law_written_right = (sSeq (sNew 0 (eNew aNil)) (sSeq (sFor (itBs rng1D (aCons (eCon (.int 8)) aNil)) (nmD 1) b_law_written_right_2) (sFz 0 (sSeq (sAsg (tupD 2 (consD (nmD 3) (consD (nmD 4) nilD))) (eTup (aCons (eCall tupleD (aCons (eVar 0) aNil)) (aCons (eCall tupleD (aCons (eVar 0) aNil)) aNil)))) (sSeq (sFor (itBs rng1D (aCons (eCon (.int 7)) aNil)) (nmD 5) b_law_written_right_3) (sSeq (sAsg (nmD 6) (eCall tupleD (aCons (eFr (eLc (itBs rng1D (aCons (eCon (.int 8)) aNil)) (nmD 1) (M.pure true) e_law_written_right_5 [1])) aNil))) (sSeq (sIf (tOrB (tTru isBl (eOp neD (eVar 4) (eVar 6))) (tOrB (tNotB (tTru isBl (callM f_is_idempotent (aoCons (eVar 4) aoNil)))) (tOrB (tTru isBl (callM f_is_idempotent (aoCons (eVar 3) aoNil))) (tTru isBl (eOp neD (eOp ixD (eOp ixD (callM f_pumped (aoCons (eVar 4) aoNil)) (eCon (.int 3))) (eCon (.int 3))) (eCon (.str (Str.ofString "dear")))))))) (sRet (eCon (.bl false))) sNext) (sSeq (sAsg (nmD 7) (eCall tupleD (aCons (eOp mulD (eLst (aCons (eOp mulD (eTup (aCons (eCon (.str (Str.ofString "free"))) aNil)) (eCon (.int 9))) aNil)) (eCon (.int 9))) aNil))) (sSeq (sNew 8 (eNew (aCons (eLam gm_law_error (callM f_product (aoCons (eVar 7) aoNil))) aNil))) (sSeq (sAppL 8 (eLam gm_law_error (callM f_is_idempotent (aoCons (eVar 7) aoNil)))) (sSeq (sAppL 8 (eLam gm_law_error (callM f_product (aoCons (eTup (aCons (eTup (aCons (eCon (.str (Str.ofString "free"))) aNil)) aNil)) (aoCons (eVar 4) aoNil))))) (sSeq (sAppL 8 (eLam gm_law_error (callM f_pumped (aoCons (eVar 7) aoNil)))) (sFz 8 (sRet (eAnd (eOp eqD (eVar 8) (eOp mulD (eLst (aCons (eCon (.str (Str.ofString "table"))) aNil)) (eCon (.int 4)))) (eAnd (callM f_is_table (aoCons (eCon (.int 8)) (aoCons (eVar 3) aoNil))) (eNot (callM f_is_table (aoCons (eCon (.int 8)) (aoCons (eVar 7) aoNil)))))))))))))))))))) := rfl
def b_law_1 : S := (sSeq (sAsg (nmD 4) (eOp addD (eCon (.int 1)) (callM f_law_draw (aoOwn 2 (aoCons (eCon (.int 7)) aoNil))))) (sIf (tOrB (tNotB (tTru isBl (callM f_law_right (aoOwn 2 (aoCons (eVar 4) aoNil))))) (tNotB (tTru isBl (callM f_law_values_right (aoOwn 2 (aoCons (eVar 4) aoNil)))))) (sRet (eCon (.bl false))) sNext))
def b_law_2 : S := (sSeq (sNew 2 (callN f_law_stream (aoCons (eVar 0) (aoCons (eVar 1) aoNil)))) (sFor (itBs rng1D (aCons (eCon (.int 2)) aNil)) (nmD 3) b_law_1))
theorem q_law : m_law = (sSeq (sFor (itBs rng1D (aCons (eCall max2D (aCons (eCon (.int 1)) (aCons (eCall min2D (aCons (eCon (.int 5)) (aCons (eCall lenD (aCons (eVar 0) aNil)) aNil))) aNil))) aNil)) (nmD 1) b_law_2) (sRet (callM f_law_written_right aoNil))) := rfl
end Pl
namespace Pl
open PySem PySem.Spec PyProof.Rows L2
/-- the law's stream -/
structure Stm (x : Slot) (n : Nat) : Prop where
  ex : ∃ a b c : Int, x = .o [.int a, .int b, .int c] ∧ 0 ≤ a ∧ 0 ≤ b ∧ b < 2147483647 ∧ 0 ≤ c ∧ c ≤ n
theorem draw_ok {x : Slot} {n : Nat} {t : Int} (hx : Stm x n) (hn : n ≤ 1000000) (h0 : 0 < t) (h1 : t < 1000) : ∃ r y, f_law_draw [x, .d (.int t)] = .ok (.v (.int r)) [y, .d (.int t)] ∧ 0 ≤ r ∧ r < t ∧ Stm y (n + 1) := by
  obtain ⟨a, b, c, rfl, ha, hb, hb2, hc, hc2⟩ := hx.ex
  have run : ∀ {r : D} {y : List D} {s2 s3 s4 : Slot}, m_law_draw [.o [.int a, .int b, .int c], .d (.int t), .u, .u, .u] = .ok (.rt r) [.o y, .d (.int t), s2, s3, s4] → f_law_draw [.o [.int a, .int b, .int c], .d (.int t)] = .ok (.v r) [.o y, .d (.int t)] := fun {r y s2 s3 s4} h => by
    unfold f_law_draw runBody
    rw [if_pos (show [Slot.o [.int a, .int b, .int c], .d (.int t)].length = 2 from rfl)]
    show (match m_law_draw [.o [.int a, .int b, .int c], .d (.int t), .u, .u, .u] with
      | .ok .nx ρ => if keepOk [.o [.int a, .int b, .int c], .d (.int t)] ρ = true then Rs.ok (An.v .non) (ρ.take 2) else .bad
      | .ok (.rt d) ρ => if keepOk [.o [.int a, .int b, .int c], .d (.int t)] ρ = true then .ok (.v d) (ρ.take 2) else .bad
      | .ok (.rn ds) ρ => if keepOk [.o [.int a, .int b, .int c], .d (.int t)] ρ = true then .ok (.n ds) (ρ.take 2) else .bad
      | .ex e ρ => if keepOk [.o [.int a, .int b, .int c], .d (.int t)] ρ = true then .ex e (ρ.take 2) else .bad
      | _ => .bad) = _
    rw [h]
    rfl
  have t0 : tTru isBl (eOp gtD (eIxO 0 (eCon (.int 0))) (eCon (.int 0))) [.o [.int a, .int b, .int c], .d (.int t), .u, .u, .u] = .ok (decide (0 < a)) [.o [.int a, .int b, .int c], .d (.int t), .u, .u, .u] := rfl
  by_cases pos : 0 < a
  · rw [decide_eq_true pos] at t0
    refine ⟨a % t, .o [.int (a / t), .int b, .int c], run (s2 := .d (.int (a % t))) (s3 := .u) (s4 := .u) ?_, Int.emod_nonneg _ (by omega), Int.emod_lt_of_pos _ h0, ⟨_, _, _, rfl, Int.ediv_nonneg ha (by omega), hb, hb2, hc, by omega⟩⟩
    unfold m_law_draw
    refine seq_rt ((if_yes t0).trans ?_)
    refine (seq_nx (ρ' := [.o [.int a, .int b, .int c], .d (.int t), .d (.int (a % t)), .u, .u]) ?_).trans ?_
    · exact asg_ok (op_ok (x := .int a) (y := .int t) rfl rfl (mod_ok h0)) rfl
    refine (seq_nx (ρ' := [.o [.int (a / t), .int b, .int c], .d (.int t), .d (.int (a % t)), .u, .u]) ?_).trans rfl
    have hdiv : eOp fdivD (eIxO 0 (eCon (.int 0))) (eVar 1) [.o [.int a, .int b, .int c], .d (.int t), .d (.int (a % t)), .u, .u] = .ok (.int (a / t)) [.o [.int a, .int b, .int c], .d (.int t), .d (.int (a % t)), .u, .u] := op_ok (x := .int a) (y := .int t) rfl rfl (fdiv_ok ⟨h0, by omega⟩)
    unfold sSetO
    rw [bind_ok hdiv]
    rfl
  · rw [decide_eq_false pos] at t0
    have e1 : (b + 1000003 * (c + 1)) % 2305843009213693951 < 2305843009213693951 := Int.emod_lt_of_pos _ (by decide)
    have e2 : 0 ≤ (b + 1000003 * (c + 1)) % 2305843009213693951 := Int.emod_nonneg _ (by decide)
    generalize hz : (b + 1000003 * (c + 1)) % 2305843009213693951 = z at e1 e2
    have e3 : z * z % 2305843009213693921 < 2305843009213693921 := Int.emod_lt_of_pos _ (by decide)
    have e4 : 0 ≤ z * z % 2305843009213693921 := Int.emod_nonneg _ (by decide)
    refine ⟨(z * z % 2305843009213693921 * z + 8191 * (c + 1)) % 2305843009213693907 / 4096 % t, .o [.int a, .int b, .int (c + 1)], run (s2 := .u) (s3 := .d (.int z)) (s4 := .d (.int ((z * z % 2305843009213693921 * z + 8191 * (c + 1)) % 2305843009213693907))) ?_, Int.emod_nonneg _ (by omega), Int.emod_lt_of_pos _ h0, ⟨_, _, _, rfl, ha, hb, hb2, by omega, by omega⟩⟩
    unfold m_law_draw
    refine (seq_nx (ρ' := [.o [.int a, .int b, .int c], .d (.int t), .u, .u, .u]) ((if_no t0).trans rfl)).trans ?_
    refine (seq_nx (ρ' := [.o [.int a, .int b, .int (c + 1)], .d (.int t), .u, .u, .u]) rfl).trans ?_
    refine (seq_nx (ρ' := [.o [.int a, .int b, .int (c + 1)], .d (.int t), .u, .d (.int z), .u]) ?_).trans ?_
    · rw [← hz]
      exact asg_ok (op_ok (x := .int (b + 1000003 * (c + 1))) (y := .int 2305843009213693951) (op_ok (x := .int b) (y := .int (1000003 * (c + 1))) rfl (op_ok (x := .int 1000003) (y := .int (c + 1)) rfl rfl (mul_ok (by decide) (by omega))) rfl) rfl (mod_ok (by decide))) rfl
    refine (seq_nx (ρ' := [.o [.int a, .int b, .int (c + 1)], .d (.int t), .u, .d (.int z), .d (.int ((z * z % 2305843009213693921 * z + 8191 * (c + 1)) % 2305843009213693907))]) ?_).trans ?_
    · exact asg_ok (op_ok (x := .int (z * z % 2305843009213693921 * z + 8191 * (c + 1))) (y := .int 2305843009213693907)
      (op_ok (x := .int (z * z % 2305843009213693921 * z)) (y := .int (8191 * (c + 1))) (op_ok (x := .int (z * z % 2305843009213693921)) (y := .int z) (op_ok (x := .int (z * z)) (y := .int 2305843009213693921) (op_ok (x := .int z) (y := .int z) rfl rfl (mul_ok (by omega) (by omega))) rfl (mod_ok (by decide))) rfl (mul_ok (by omega) (by omega)))
        (op_ok (x := .int 8191) (y := .int (c + 1)) rfl rfl (mul_ok (by decide) (by omega))) rfl) rfl (mod_ok (by decide))) rfl
    exact ret_ok (op_ok (x := .int ((z * z % 2305843009213693921 * z + 8191 * (c + 1)) % 2305843009213693907 / 4096)) (y := .int t) (op_ok (x := .int ((z * z % 2305843009213693921 * z + 8191 * (c + 1)) % 2305843009213693907)) (y := .int 4096) rfl rfl (fdiv_ok ⟨by decide, by decide⟩)) rfl (mod_ok h0))
def P60 : Int := 10 ^ 60
def PP : Int := P60 ^ 12
theorem pow1 : powD (.int 10) (.int 60) = some (.int P60) := by kernel_rfl
theorem pow2 : powD (.int P60) (.int 12) = some (.int PP) := by kernel_rfl
theorem pow3 : powD (.int 10) (.int 18) = some (.int 1000000000000000000) := by kernel_rfl
theorem PPpos : 0 < PP := by decide +kernel
theorem at_scr {ns : List Int} {i : Int} (h0 : 0 ≤ i) (h1 : i < ns.length) : ∃ v, ixD (.scr ns) (.int i) = some (.int v) := by
  have hn : i.toNat < ns.length := by omega
  refine ⟨ns[i.toNat], ?_⟩
  show (atI ns i).map D.int = _
  unfold atI ixN
  rw [if_pos h0, if_pos h1]
  show (ns[i.toNat]?).map D.int = _
  rw [List.getElem?_eq_getElem hn]
  rfl
theorem un_ok {g : D → Option D} {e : M D} {x z : D} {ρ ρ1 : Env} (h1 : e ρ = .ok x ρ1) (h : g x = some z) : eUn g e ρ = .ok z ρ1 := by
  unfold eUn
  rw [bind_ok h1, h]
  rfl
theorem cons_ok {e : M D} {r : M (List D)} {x : D} {xs : List D} {ρ ρ1 ρ2 : Env} (h1 : e ρ = .ok x ρ1) (h2 : r ρ1 = .ok xs ρ2) : aCons e r ρ = .ok (x :: xs) ρ2 := by
  unfold aCons
  rw [bind_ok h1, bind_ok h2]
  rfl
theorem call_ok {g : List D → Option D} {a : M (List D)} {xs : List D} {z : D} {ρ ρ1 : Env} (h1 : a ρ = .ok xs ρ1) (h : g xs = some z) : eCall g a ρ = .ok z ρ1 := by
  unfold eCall
  rw [bind_ok h1, h]
  rfl
theorem seq_inv {s t : S} {ρ ρ' : Env} (h : sSeq s t ρ = .ok .nx ρ') : ∃ ρ1, s ρ = .ok .nx ρ1 ∧ t ρ1 = .ok .nx ρ' := by
  unfold sSeq M.bind at h
  revert h
  cases s ρ with
  | ok k ρ1 =>
    cases k with
    | nx => exact fun h => ⟨ρ1, rfl, h⟩
    | _ => exact fun h => by cases h
  | ex e ρ1 => exact fun h => by cases h
  | bad => exact fun h => by cases h
theorem stream_ok {ns : List Int} {i : Int} (hl : ns.length ≤ 63) (h0 : 0 ≤ i) (h1 : i < 64) : ∃ l, f_law_stream [.d (.scr ns), .d (.int i)] = .ok (.n l) [.d (.scr ns), .d (.int i)] ∧ Stm (.o l) 0 := by
  -- behind the first rows
  obtain ⟨cell, hcell⟩ : ∃ cell : Int, sSeq (sAsg (nmD 2) (eOp addD (eOp mulD (eCon (.int 7)) (eVar 1)) (eCon (.int 3)))) (sIf (tTru isBl (eOp ltD (eVar 1) (eCall lenD (aCons (eVar 0) aNil)))) (sAsg (nmD 2) (eOp ixD (eVar 0) (eVar 1))) sNext) [.d (.scr ns), .d (.int i), .u, .u, .u] = .ok .nx [.d (.scr ns), .d (.int i), .d (.int cell), .u, .u] := by
    have a1 : sAsg (nmD 2) (eOp addD (eOp mulD (eCon (.int 7)) (eVar 1)) (eCon (.int 3))) [.d (.scr ns), .d (.int i), .u, .u, .u] = .ok .nx [.d (.scr ns), .d (.int i), .d (.int (7 * i + 3)), .u, .u] :=
      asg_ok (op_ok (x := .int (7 * i)) (y := .int 3) (op_ok (x := .int 7) (y := .int i) rfl rfl (mul_ok (by decide) (by omega))) rfl rfl) rfl
    have a2 : tTru isBl (eOp ltD (eVar 1) (eCall lenD (aCons (eVar 0) aNil))) [.d (.scr ns), .d (.int i), .d (.int (7 * i + 3)), .u, .u] = .ok (decide (i < ns.length)) [.d (.scr ns), .d (.int i), .d (.int (7 * i + 3)), .u, .u] := rfl
    by_cases hi : i < ns.length
    · obtain ⟨v, hv⟩ := at_scr h0 hi
      refine ⟨v, (seq_nx a1).trans ?_⟩
      rw [decide_eq_true hi] at a2
      refine (if_yes a2).trans ?_
      exact asg_ok (op_ok (x := .scr ns) (y := .int i) rfl rfl hv) rfl
    · refine ⟨7 * i + 3, (seq_nx a1).trans ?_⟩
      rw [decide_eq_false hi] at a2
      exact (if_no a2).trans rfl
  -- great
  obtain ⟨great, hg, hgr⟩ : ∃ great : Int, 0 ≤ great ∧ sAsg (nmD 3) (eOp modD (eCall absD (aCons (eVar 2) aNil)) (eOp powD (eOp powD (eCon (.int 10)) (eCon (.int 60))) (eCon (.int 12)))) [.d (.scr ns), .d (.int i), .d (.int cell), .u, .u] = .ok .nx [.d (.scr ns), .d (.int i), .d (.int cell), .d (.int great), .u] := by
    refine ⟨(if cell < 0 then -cell else cell) % PP, Int.emod_nonneg _ (Int.ne_of_gt PPpos), ?_⟩
    exact asg_ok (op_ok (x := .int (if cell < 0 then -cell else cell)) (y := .int PP) rfl (op_ok (x := .int P60) (y := .int 12) (op_ok (x := .int 10) (y := .int 60) rfl rfl pow1) rfl pow2) (mod_ok PPpos)) rfl
  -- mixed
  obtain ⟨b, hb0, hb1, hbr⟩ : ∃ b : Int, 0 ≤ b ∧ b < 2147483647 ∧ sAsg (nmD 4) (eOp modD (eOp addD (eOp addD (eOp addD (eOp mulD (eOp modD (eVar 3) (eCon (.int 2147483629))) (eCon (.int 48271))) (eOp mulD (eCon (.int 977)) (eVar 1))) (eOp mulD (eCon (.int 2)) (eCall intD (aCons (eOp ltD (eVar 2) (eCon (.int 0))) aNil)))) (eCon (.int 11))) (eCon (.int 2147483647))) [.d (.scr ns), .d (.int i), .d (.int cell), .d (.int great), .u] = .ok .nx [.d (.scr ns), .d (.int i), .d (.int cell), .d (.int great), .d (.int b)] := by
    have k1 : great % 2147483629 < 2147483629 := Int.emod_lt_of_pos _ (by decide)
    have k2 : 0 ≤ great % 2147483629 := Int.emod_nonneg _ (by decide)
    obtain ⟨u, hu, hu1, hu2⟩ : ∃ u : Int, eCall intD (aCons (eOp ltD (eVar 2) (eCon (.int 0))) aNil) [.d (.scr ns), .d (.int i), .d (.int cell), .d (.int great), .u] = .ok (.int u) [.d (.scr ns), .d (.int i), .d (.int cell), .d (.int great), .u] ∧ 0 ≤ u ∧ u ≤ 1 := by
      refine ⟨if decide (cell < 0) = true then 1 else 0, ?_, ?_, ?_⟩
      · refine call_ok (xs := [.bl (decide (cell < 0))]) rfl ?_
        cases decide (cell < 0) <;> rfl
      · split <;> omega
      · split <;> omega
    refine ⟨(great % 2147483629 * 48271 + 977 * i + 2 * u + 11) % 2147483647, Int.emod_nonneg _ (by decide), Int.emod_lt_of_pos _ (by decide), ?_⟩
    exact asg_ok (op_ok (x := .int (great % 2147483629 * 48271 + 977 * i + 2 * u + 11)) (y := .int 2147483647)
      (op_ok (x := .int (great % 2147483629 * 48271 + 977 * i + 2 * u)) (y := .int 11) (op_ok (x := .int (great % 2147483629 * 48271 + 977 * i)) (y := .int (2 * u)) (op_ok (x := .int (great % 2147483629 * 48271)) (y := .int (977 * i)) (op_ok (x := .int (great % 2147483629)) (y := .int 48271) (op_ok (x := .int great) (y := .int 2147483629) rfl rfl (mod_ok (by decide))) rfl (mul_ok (by omega) (by decide))) (op_ok (x := .int 977) (y := .int i) rfl rfl (mul_ok (by decide) (by omega))) rfl)
        (op_ok (x := .int 2) (y := .int u) rfl hu (mul_ok (by decide) (by omega))) rfl) rfl rfl) rfl (mod_ok (by decide))) rfl
  obtain ⟨a, ha, har⟩ : ∃ a : Int, 0 ≤ a ∧ sRetN (eNew (aCons (eCall max2D (aCons (eCon (.int 0)) (aCons (eOp subD (eVar 3) (eOp powD (eCon (.int 10)) (eCon (.int 18)))) aNil))) (aCons (eVar 4) (aCons (eCon (.int 0)) aNil)))) [.d (.scr ns), .d (.int i), .d (.int cell), .d (.int great), .d (.int b)] = .ok (.rn [.int a, .int b, .int 0]) [.d (.scr ns), .d (.int i), .d (.int cell), .d (.int great), .d (.int b)] := by
    refine ⟨if great - 1000000000000000000 > 0 then great - 1000000000000000000 else 0, by split <;> omega, ?_⟩
    have l1 : aCons (eCall max2D (aCons (eCon (.int 0)) (aCons (eOp subD (eVar 3) (eOp powD (eCon (.int 10)) (eCon (.int 18)))) aNil))) (aCons (eVar 4) (aCons (eCon (.int 0)) aNil)) [.d (.scr ns), .d (.int i), .d (.int cell), .d (.int great), .d (.int b)] = .ok [.int (if great - 1000000000000000000 > 0 then great - 1000000000000000000 else 0), .int b, .int 0] [.d (.scr ns), .d (.int i), .d (.int cell), .d (.int great), .d (.int b)] :=
      cons_ok (call_ok (xs := [.int 0, .int (great - 1000000000000000000)]) (cons_ok rfl (cons_ok (op_ok (x := .int great) (y := .int 1000000000000000000) rfl (op_ok (x := .int 10) (y := .int 18) rfl rfl pow3) rfl) rfl)) rfl) rfl
    unfold sRetN eNew
    rw [bind_ok (ρ' := [.d (.scr ns), .d (.int i), .d (.int cell), .d (.int great), .d (.int b)]) (a := [.int (if great - 1000000000000000000 > 0 then great - 1000000000000000000 else 0), .int b, .int 0]) (by rw [bind_ok l1]; rfl)]
    rfl
  refine ⟨[.int a, .int b, .int 0], ?_, ⟨_, _, _, rfl, ha, hb0, hb1, by decide, by decide⟩⟩
  have all : m_law_stream [.d (.scr ns), .d (.int i), .u, .u, .u] = .ok (.rn [.int a, .int b, .int 0]) [.d (.scr ns), .d (.int i), .d (.int cell), .d (.int great), .d (.int b)] := by
    unfold m_law_stream
    obtain ⟨ρ1, q1, q2⟩ := seq_inv hcell
    refine (seq_nx q1).trans ((seq_nx q2).trans ?_)
    refine (seq_nx hgr).trans ((seq_nx hbr).trans har)
  unfold f_law_stream runBody
  rw [if_pos (show [Slot.d (.scr ns), .d (.int i)].length = 2 from rfl)]
  show (match m_law_stream [.d (.scr ns), .d (.int i), .u, .u, .u] with
      | .ok .nx ρ => if keepOk [.d (.scr ns), .d (.int i)] ρ = true then Rs.ok (An.v .non) (ρ.take 2) else .bad
      | .ok (.rt d) ρ => if keepOk [.d (.scr ns), .d (.int i)] ρ = true then .ok (.v d) (ρ.take 2) else .bad
      | .ok (.rn ds) ρ => if keepOk [.d (.scr ns), .d (.int i)] ρ = true then .ok (.n ds) (ρ.take 2) else .bad
      | .ex e ρ => if keepOk [.d (.scr ns), .d (.int i)] ρ = true then .ex e (ρ.take 2) else .bad
      | _ => .bad) = _
  rw [all]
  rfl
end Pl
namespace Pl
open PySem PySem.Spec PyProof.Rows L2
/-! the stream and what is drawn from it -/
abbrev St (l : List D) (n : Nat) : Prop := Stm (.o l) n
theorem draw {l : List D} {n : Nat} (hx : St l n) (t : Int) (hn : n ≤ 1000000 := by omega) (h0 : 0 < t := by omega) (h1 : t < 1000 := by omega) : ∃ r l', f_law_draw [.o l, .d (.int t)] = .ok (.v (.int r)) [.o l', .d (.int t)] ∧ 0 ≤ r ∧ r < t ∧ St l' (n + 1) := by
  obtain ⟨r, y, h, h2, h3, hy⟩ := draw_ok hx hn h0 h1
  obtain ⟨a, b, c, rfl, _⟩ := id hy.ex
  exact ⟨r, _, h, h2, h3, hy⟩
theorem St.up {l : List D} {n m : Nat} (h : St l n) (e : n ≤ m) : St l m := by
  obtain ⟨a, b, c, q1, q2, q3, q4, q5, q6⟩ := h.ex
  exact ⟨a, b, c, q1, q2, q3, q4, q5, by omega⟩
end Pl
namespace Pl
open PySem PySem.Spec PyProof.Rows L2
/-! what k19's law asks of a value at an entry's place -/
def namesD : D := .tup [gD .restart, gD .free, gD .paid, gD .dear, gD .none]
def isS : D → Bool
  | .str _ => true
  | _ => false
structure LeafX (y : D) : Prop where
  s : isiD [y, .rf (.ty "str")] = some (.bl (isS y))
  nin : ninD y namesD = some (.bl (!isG y))
  no : isS y = false → isG y = false
theorem leafx_g (g : Gr) : LeafX (gD g) := by
  refine ⟨rfl, ?_, fun h => by cases h⟩
  rw [isG_g]; cases g <;> kernel_rfl
theorem leafx_no {d : D} (h1 : isG d = false) (h3 : isiD [d, .rf (.ty "str")] = some (.bl (isS d))) (h4 : ninD d namesD = some (.bl true)) : LeafX d := ⟨h3, by rw [h1]; exact h4, fun _ => h1⟩
end Pl
namespace Pl
open PySem PySem.Spec PyProof.Rows L2
/-! ### the law's own grades and tables -/
theorem better_ok (a b : Gr) : f_law_better [.d (gD a), .d (gD b)] = .ok (.v (gD (a.add b))) [.d (gD a), .d (gD b)] := by cases a <;> cases b <;> kernel_rfl
theorem joined_ok (a b : Gr) : f_law_joined [.d (gD a), .d (gD b)] = .ok (.v (gD (a.mul b))) [.d (gD a), .d (gD b)] := by cases a <;> cases b <;> kernel_rfl
theorem add_none (a : Gr) : a.add .none = a := by cases a <;> rfl
section
variable {n : Nat} (hn : n ≤ 8)
include hn
theorem lt1 (s t : Gr.Tb) {i j : Nat} (hi : i < n) (hj : j < n) {o p s2 s4 s7 s8 : Slot} : ∃ s7' s8', forL (tupD 2 (consD (nmD 7) (consD (nmD 8) nilD))) b_law_times_1 ((List.range n).map fun k => .tup [.int (k : Nat), gD (s i k)]) [o, .d (tabD n t), s2, p, s4, .d (.int (j : Nat)), .d (gD .none), s7, s8] = .ok .nx [o, .d (tabD n t), s2, p, s4, .d (.int (j : Nat)), .d (gD (Gr.times n s t i j)), s7', s8'] := by
  obtain ⟨ρ', e, s7', s8', rfl⟩ := forL_ix (gd := (tupD 2 (consD (nmD 7) (consD (nmD 8) nilD)))) (body := b_law_times_1) (fun k ρ => ∃ s7' s8', ρ = [o, .d (tabD n t), s2, p, s4, .d (.int (j : Nat)), .d (gD (Gr.sum k fun l => (s i l).mul (t l j))), s7', s8']) (fun k => .tup [.int (k : Nat), gD (s i k)]) n ⟨s7, s8, rfl⟩ fun k ρ hk ⟨s7', s8', e⟩ => by
    subst e
    have a1 := at_tab t hk
    have a2 := at_row (t k) hj
    by_cases h : s i k = .none
    · refine ⟨_, _, rfl, ?_, .d (.int (k : Nat)), .d (gD (s i k)), rfl⟩
      have e : (Gr.sum (k + 1) fun l => (s i l).mul (t l j)) = Gr.sum k fun l => (s i l).mul (t l j) := by
        show (Gr.sum k _).add ((s i k).mul (t k j)) = _
        rw [h, Gr.none_mul, add_none]
      rw [e]
      simp only [b_law_times_1, EV, evn, evw, evh, evro, evshy, ↓reduceIte, decide_true, decide_false, decide_eq_true_eq, Bool.not_true, Bool.not_false, Bool.or_true, Bool.or_false, Bool.true_or, Bool.false_or, Bool.and_true, Bool.true_and, Bool.and_false, Bool.false_and, Bool.false_eq_true, Int.lt_irrefl, Nat.reduceLeDiff, Nat.reduceLT, Nat.reduceAdd, Int.reduceLT, Int.reduceLE, Int.reduceNeg, Int.reduceAdd, Int.reduceEq, Int.cast_ofNat_Int, id, gNone, gr_ne, h]
    · refine ⟨_, _, rfl, ?_, .d (.int (k : Nat)), .d (gD (s i k)), rfl⟩
      show _ = Rs.ok Ct.nx [o, .d (tabD n t), s2, p, s4, .d (.int (j : Nat)), .d (gD ((Gr.sum k fun l => (s i l).mul (t l j)).add ((s i k).mul (t k j)))), _, _]
      simp only [b_law_times_1, EV, evn, evw, evh, evro, evshy, ↓reduceIte, decide_true, decide_false, decide_eq_true_eq, Bool.not_true, Bool.not_false, Bool.or_true, Bool.or_false, Bool.true_or, Bool.false_or, Bool.and_true, Bool.true_and, Bool.and_false, Bool.false_and, Bool.false_eq_true, Int.lt_irrefl, Nat.reduceLeDiff, Nat.reduceLT, Nat.reduceAdd, Int.reduceLT, Int.reduceLE, Int.reduceNeg, Int.reduceAdd, Int.reduceEq, Int.cast_ofNat_Int, id, gNone, gr_ne, h, a1, a2, better_ok, joined_ok]
  exact ⟨s7', s8', e⟩
theorem times_ok (s t : Gr.Tb) : f_law_times [.d (tabD n s), .d (tabD n t)] = .ok (.v (tabD n (Gr.times n s t))) [.d (tabD n s), .d (tabD n t)] := by
  obtain ⟨ρ', e, s3, s4, s5, s6, s7, s8, rfl⟩ := forL_ix (gd := nmD 3) (body := b_law_times_3) (fun i ρ => ∃ s3 s4 s5 s6 s7 s8, ρ = [.d (tabD n s), .d (tabD n t), .o ((List.range i).map fun i => rowD n (Gr.times n s t i)), s3, s4, s5, s6, s7, s8]) (fun i => rowD n (s i)) n ⟨.u, .u, .u, .u, .u, .u, rfl⟩ fun i ρ hi ⟨s3, s4, s5, s6, s7, s8, e⟩ => by
    subst e
    have l := len_row n (s i)
    have r := rng_nat (n := n) (by omega)
    obtain ⟨ρ', e, s5', s6', s7', s8', rfl⟩ := forL_ix (gd := nmD 5) (body := b_law_times_2) (fun j ρ => ∃ s5 s6 s7 s8, ρ = [.d (tabD n s), .d (tabD n t), .o ((List.range i).map fun i => rowD n (Gr.times n s t i)), .d (rowD n (s i)), .o ((List.range j).map fun j => gD (Gr.times n s t i j)), s5, s6, s7, s8]) (fun k => .int (k : Nat)) n ⟨s5, s6, s7, s8, rfl⟩ fun j ρ hj ⟨s5, s6, s7, s8, e⟩ => by
      subst e
      obtain ⟨s7', s8', e⟩ := lt1 hn s t hi hj (o := .d (tabD n s)) (p := .d (rowD n (s i))) (s2 := .o ((List.range i).map fun i => rowD n (Gr.times n s t i))) (s4 := .o ((List.range j).map fun j => gD (Gr.times n s t i j))) (s7 := s7) (s8 := s8)
      have f : ((List.range j).map fun j => gD (Gr.times n s t i j)).length < 100000 := by rw [len_map]; omega
      refine ⟨_, _, rfl, ?_, .d (.int (j : Nat)), .d (gD (Gr.times n s t i j)), s7', s8', rfl⟩
      rw [map1]
      simp only [b_law_times_2, EV, evn, evw, evh, evro, evshy, ↓reduceIte, decide_true, decide_false, decide_eq_true_eq, Bool.not_true, Bool.not_false, Bool.or_true, Bool.or_false, Bool.true_or, Bool.false_or, Bool.and_true, Bool.true_and, Bool.and_false, Bool.false_and, Bool.false_eq_true, Int.lt_irrefl, Nat.reduceLeDiff, Nat.reduceLT, Nat.reduceAdd, Int.reduceLT, Int.reduceLE, Int.reduceNeg, Int.reduceAdd, Int.reduceEq, Int.cast_ofNat_Int, id, gNone, enum_row, e, f]
    have f : ((List.range i).map fun i => rowD n (Gr.times n s t i)).length < 100000 := by rw [len_map]; omega
    rw [map0] at e
    refine ⟨_, _, rfl, ?_, .d (rowD n (s i)), .d (.lst ((List.range n).map fun j => gD (Gr.times n s t i j))), s5', s6', s7', s8', rfl⟩
    rw [map1]
    simp only [b_law_times_3, EV, evn, evw, evh, evro, evshy, ↓reduceIte, decide_true, decide_false, decide_eq_true_eq, Bool.not_true, Bool.not_false, Bool.or_true, Bool.or_false, Bool.true_or, Bool.false_or, Bool.and_true, Bool.true_and, Bool.and_false, Bool.false_and, Bool.false_eq_true, Int.lt_irrefl, Nat.reduceLeDiff, Nat.reduceLT, Nat.reduceAdd, Int.reduceLT, Int.reduceLE, Int.reduceNeg, Int.reduceAdd, Int.reduceEq, Int.cast_ofNat_Int, id, l, r, e, f]
    rfl
  rw [map0] at e
  simp only [f_law_times, q_law_times, EV, evn, evw, evh, evro, evshy, ↓reduceIte, decide_true, decide_false, decide_eq_true_eq, Bool.not_true, Bool.not_false, Bool.or_true, Bool.or_false, Bool.true_or, Bool.false_or, Bool.and_true, Bool.true_and, Bool.and_false, Bool.false_and, Bool.false_eq_true, Int.lt_irrefl, Nat.reduceLeDiff, Nat.reduceLT, Nat.reduceAdd, Int.reduceLT, Int.reduceLE, Int.reduceNeg, Int.reduceAdd, Int.reduceEq, Int.cast_ofNat_Int, id, as_tab, e]
  rfl
end
end Pl
namespace Pl
open PySem PySem.Spec PyProof.Rows L2
/-! ### rows in one number -/
section
variable {n : Nat} (hn : n ≤ 8)
include hn
omit hn in
/-- one row behind a row -/
theorem row_body (g : Gr) {y F B : Nat} (lB : B < 2 ^ 32) (hc : y &&& 16843009 = g.code) {p s4 : Slot} : b_row_times_1 [.d (.int (y : Nat)), p, .d (.int (F : Nat)), .d (.int (B : Nat)), s4] = .ok .nx [.d (.int (y / 2 : Nat)), p, .d (.int (F ||| Gr.put g B : Nat)), .d (.int (B : Nat)), .d (.int (g.code : Nat))] := by
  have a1 : andD (.int (y : Nat)) (.int 16843009) = some (.int (g.code : Nat)) := by rw [← hc]; exact and_lit y 16843009
  have s1 : shrD (.int (y : Nat)) (.int 1) = some (.int (y / 2 : Nat)) := shr_lit y 1
  have s8 : shrD (.int (B : Nat)) (.int 8) = some (.int (B / 256 : Nat)) := shr_lit B 8
  have m1 : andD (.int (B : Nat)) (.int 255) = some (.int (B &&& 255 : Nat)) := and_lit B 255
  have m2 : andD (.int (B : Nat)) (.int 4278255615) = some (.int (B &&& 4278255615 : Nat)) := and_lit B 4278255615
  have m3 : andD (.int (B / 256 : Nat)) (.int 16711680) = some (.int (B / 256 &&& 16711680 : Nat)) := and_lit (B / 256) 16711680
  have m4 : andD (.int (B / 256 : Nat)) (.int 255) = some (.int (B / 256 &&& 255 : Nat)) := and_lit (B / 256) 255
  have m5 : mulD (.int (B / 256 &&& 255 : Nat)) (.int 16843008) = some (.int ((B / 256 &&& 255) * 16843008 : Nat)) := mul_nat (b := 16843008) (Nat.lt_of_le_of_lt Nat.and_le_left (by omega)) (by decide)
  have c1 : eqD (.int (g.code : Nat)) (.int 65793) = some (.bl (decide (g = .free))) := by cases g <;> rfl
  have c2 : eqD (.int (g.code : Nat)) (.int 257) = some (.bl (decide (g = .paid))) := by cases g <;> rfl
  have c3 : eqD (.int (g.code : Nat)) (.int 16843009) = some (.bl (decide (g = .restart))) := by cases g <;> rfl
  have c4 : eqD (.int (g.code : Nat)) (.int 1) = some (.bl (decide (g = .dear))) := by cases g <;> rfl
  simp only [b_row_times_1, EV, evn, evw, evh, evro, evshy, ↓reduceIte, decide_true, decide_false, decide_eq_true_eq, Bool.not_true, Bool.not_false, Bool.or_true, Bool.or_false, Bool.true_or, Bool.false_or, Bool.and_true, Bool.true_and, Bool.and_false, Bool.false_and, Bool.false_eq_true, Int.lt_irrefl, Nat.reduceLeDiff, Nat.reduceLT, Nat.reduceAdd, Int.reduceLT, Int.reduceLE, Int.reduceNeg, Int.reduceAdd, Int.reduceEq, Int.cast_ofNat_Int, id, a1, s1, c1, c2, c3, c4, s8, m1, m2, m3, m4, m5, or_nat]
  clear hc a1 c1 c2 c3 c4
  cases g
  · simp only [EV, evn, evw, evh, evro, evshy, ↓reduceIte, decide_true, decide_false, decide_eq_true_eq, Bool.not_true, Bool.not_false, Bool.or_true, Bool.or_false, Bool.true_or, Bool.false_or, Bool.and_true, Bool.true_and, Bool.and_false, Bool.false_and, Bool.false_eq_true, Int.lt_irrefl, Nat.reduceLeDiff, Nat.reduceLT, Nat.reduceAdd, Int.reduceLT, Int.reduceLE, Int.reduceNeg, Int.reduceAdd, Int.reduceEq, Int.cast_ofNat_Int, id, reduceCtorEq, Gr.put, Nat.or_zero, s1]
  · simp only [EV, evn, evw, evh, evro, evshy, ↓reduceIte, decide_true, decide_false, decide_eq_true_eq, Bool.not_true, Bool.not_false, Bool.or_true, Bool.or_false, Bool.true_or, Bool.false_or, Bool.and_true, Bool.true_and, Bool.and_false, Bool.false_and, Bool.false_eq_true, Int.lt_irrefl, Nat.reduceLeDiff, Nat.reduceLT, Nat.reduceAdd, Int.reduceLT, Int.reduceLE, Int.reduceNeg, Int.reduceAdd, Int.reduceEq, Int.cast_ofNat_Int, id, reduceCtorEq, Gr.put, s1]
  · simp only [EV, evn, evw, evh, evro, evshy, ↓reduceIte, decide_true, decide_false, decide_eq_true_eq, Bool.not_true, Bool.not_false, Bool.or_true, Bool.or_false, Bool.true_or, Bool.false_or, Bool.and_true, Bool.true_and, Bool.and_false, Bool.false_and, Bool.false_eq_true, Int.lt_irrefl, Nat.reduceLeDiff, Nat.reduceLT, Nat.reduceAdd, Int.reduceLT, Int.reduceLE, Int.reduceNeg, Int.reduceAdd, Int.reduceEq, Int.cast_ofNat_Int, id, reduceCtorEq, Gr.put, s1, Nat.or_assoc]
  · simp only [EV, evn, evw, evh, evro, evshy, ↓reduceIte, decide_true, decide_false, decide_eq_true_eq, Bool.not_true, Bool.not_false, Bool.or_true, Bool.or_false, Bool.true_or, Bool.false_or, Bool.and_true, Bool.true_and, Bool.and_false, Bool.false_and, Bool.false_eq_true, Int.lt_irrefl, Nat.reduceLeDiff, Nat.reduceLT, Nat.reduceAdd, Int.reduceLT, Int.reduceLE, Int.reduceNeg, Int.reduceAdd, Int.reduceEq, Int.cast_ofNat_Int, id, reduceCtorEq, Gr.put, s1]
  · simp only [EV, evn, evw, evh, evro, evshy, ↓reduceIte, decide_true, decide_false, decide_eq_true_eq, Bool.not_true, Bool.not_false, Bool.or_true, Bool.or_false, Bool.true_or, Bool.false_or, Bool.and_true, Bool.true_and, Bool.and_false, Bool.false_and, Bool.false_eq_true, Int.lt_irrefl, Nat.reduceLeDiff, Nat.reduceLT, Nat.reduceAdd, Int.reduceLT, Int.reduceLE, Int.reduceNeg, Int.reduceAdd, Int.reduceEq, Int.cast_ofNat_Int, id, reduceCtorEq, Gr.put, s1, Nat.or_assoc]
theorem row_times_ok {m : Nat} (a : Nat → Gr) (t : Gr.Tb) {x : Nat} (hx : ∀ k, k < m → x / 2 ^ k &&& 16843009 = (a k).code) {P : D} (hP : asSeq P = some ((List.range m).map fun k => pkD n (t k))) : f_row_times [.d (.int (x : Nat)), .d P] = .ok (.v (pkD n fun j => Gr.sum m fun k => (a k).mul (t k j))) [.d (.int (x / 2 ^ m : Nat)), .d P] := by
  obtain ⟨ρ', e, s3, s4, rfl⟩ := forL_ix (gd := nmD 3) (body := b_row_times_1) (fun k ρ => ∃ s3 s4, ρ = [.d (.int (x / 2 ^ k : Nat)), .d P, .d (.int (Gr.pk (Gr.found n a t k) : Nat)), s3, s4]) (fun k => pkD n (t k)) m (ρ := [.d (.int (x : Nat)), .d P, .d (.int 0), .u, .u]) ⟨.u, .u, by rw [Gr.found_zero]; simp⟩ fun k ρ hk ⟨s3, s4, e⟩ => by
    subst e
    have st := Gr.found_step n hn a t k
    have q : x / 2 ^ k / 2 = x / 2 ^ (k + 1) := by rw [Nat.div_div_eq_div_mul, Nat.pow_succ]
    have b := row_body (a k) (F := Gr.pk (Gr.found n a t k)) (p := .d P) (s4 := s4) (pkN_lt hn (t k)) (hx k hk)
    rw [q, show Gr.pk (Gr.found n a t k) ||| (a k).put (pkN n (t k)) = _ from st] at b
    exact ⟨_, _, rfl, b, _, _, rfl⟩
  simp only [f_row_times, q_row_times, EV, evn, evw, evh, evro, evshy, ↓reduceIte, decide_true, decide_false, decide_eq_true_eq, Bool.not_true, Bool.not_false, Bool.or_true, Bool.or_false, Bool.true_or, Bool.false_or, Bool.and_true, Bool.true_and, Bool.and_false, Bool.false_and, Bool.false_eq_true, Int.lt_irrefl, Nat.reduceLeDiff, Nat.reduceLT, Nat.reduceAdd, Int.reduceLT, Int.reduceLE, Int.reduceNeg, Int.reduceAdd, Int.reduceEq, Int.cast_ofNat_Int, id, hP, e]
  rfl
/-- the row of a product -/
theorem row_tab (s t : Gr.Tb) (i : Nat) : f_row_times [.d (pkD n (s i)), .d (pksD n n t)] = .ok (.v (pkD n (Gr.times n s t i))) [.d (.int (pkN n (s i) / 2 ^ n : Nat)), .d (pksD n n t)] :=
  row_times_ok hn (s i) t (fun k hk => pkN_at hn (s i) hk) (sq_pks n n t)
end
end Pl
namespace Pl
open PySem PySem.Spec PyProof.Rows L2
/-! ### products, idempotent and pumped tables of rows in numbers -/
theorem forL_all {gd : D → Env → Option Env} {body : S} (f : Nat → D) (p : Nat → Bool) (o : Ct) (I : Env → Prop) : ∀ (L : List Nat) (ρ : Env), I ρ → (∀ k ρ, k ∈ L → I ρ → ∃ ρ1 ρ2, gd (f k) ρ = some ρ1 ∧ I ρ2 ∧ (p k = true → body ρ1 = .ok .nx ρ2) ∧ (p k = false → body ρ1 = .ok o ρ2)) → (∀ ρ k, again (.ok o ρ) k = .ok o ρ) → ∃ ρ', I ρ' ∧ forL gd body (L.map f) ρ = .ok (if L.all p = true then .nx else o) ρ'
  | [], ρ, h, _, _ => ⟨ρ, h, rfl⟩
  | k :: L, ρ, h, st, ho => by
    obtain ⟨ρ1, ρ2, h1, h2, h3, h4⟩ := st k ρ List.mem_cons_self h
    cases q : p k with
    | true =>
      obtain ⟨ρ', h5, h6⟩ := forL_all f p o I L ρ2 h2 (fun k ρ hk => st k ρ (List.mem_cons_of_mem _ hk)) ho
      refine ⟨ρ', h5, ?_⟩
      rw [List.map_cons, forL_rec h1 (h3 q), h6, List.all_cons, q, Bool.true_and]
    | false =>
      refine ⟨ρ2, h2, ?_⟩
      rw [List.map_cons, List.all_cons, q, Bool.false_and]
      simp only [evl, h1, h4 q, ho]
      rfl
section
variable {n : Nat} (hn : n ≤ 8)
include hn
theorem product_rows {m : Nat} (a t : Gr.Tb) (x : Nat → Nat) (g : Nat → Nat → Gr) {P : D} (hP : asSeq P = some ((List.range m).map fun k => pkD n (t k))) (hx : ∀ i, i < n → ∀ k, k < m → x i / 2 ^ k &&& 16843009 = (a i k).code) (hg : ∀ i, i < n → ∀ j, j < n → (Gr.sum m fun k => (a i k).mul (t k j)) = g i j) :
    f_packed_product [.d (.tup ((List.range n).map fun i => .int (x i : Nat))), .d P] = .ok (.v (pksD n n g)) [.d (.tup ((List.range n).map fun i => .int (x i : Nat))), .d P] := by
  obtain ⟨ρ', e, s2, rfl⟩ := lcL_map (gd := nmD 2) (te := e_packed_product_1) (vs := [2]) (fun ρ => ∃ s2, ρ = [.d (.tup ((List.range n).map fun i => .int (x i : Nat))), .d P, s2]) (fun i => .int (x i : Nat)) (fun i => pkD n (g i)) (List.range n) [.d (.tup ((List.range n).map fun i => .int (x i : Nat))), .d P, .u] ⟨.u, rfl⟩ fun i ρ hi ⟨s2, e⟩ => by
    subst e
    have hi := List.mem_range.mp hi
    have r := row_times_ok hn (a i) t (hx i hi) hP
    have c : pkD n (fun j => Gr.sum m fun k => (a i k).mul (t k j)) = pkD n (g i) := by
      unfold pkD
      rw [(pkN_inj hn).mpr (hg i hi)]
    rw [c] at r
    refine ⟨_, _, rfl, ?_, .d (.int (x i : Nat)), rfl⟩
    simp only [e_packed_product_1, EV, evn, evw, evh, evro, evshy, ↓reduceIte, decide_true, decide_false, decide_eq_true_eq, Bool.not_true, Bool.not_false, Bool.or_true, Bool.or_false, Bool.true_or, Bool.false_or, Bool.and_true, Bool.true_and, Bool.and_false, Bool.false_and, Bool.false_eq_true, Int.lt_irrefl, Nat.reduceLeDiff, Nat.reduceLT, Nat.reduceAdd, Int.reduceLT, Int.reduceLE, Int.reduceNeg, Int.reduceAdd, Int.reduceEq, Int.cast_ofNat_Int, id, r]
  have f : ((List.range n).map fun i => pkD n (g i)).length ≤ 100000 := by rw [len_map]; omega
  simp only [f_packed_product, q_packed_product, EV, evn, evw, evh, evro, evshy, ↓reduceIte, decide_true, decide_false, decide_eq_true_eq, Bool.not_true, Bool.not_false, Bool.or_true, Bool.or_false, Bool.true_or, Bool.false_or, Bool.and_true, Bool.true_and, Bool.and_false, Bool.false_and, Bool.false_eq_true, Int.lt_irrefl, Nat.reduceLeDiff, Nat.reduceLT, Nat.reduceAdd, Int.reduceLT, Int.reduceLE, Int.reduceNeg, Int.reduceAdd, Int.reduceEq, Int.cast_ofNat_Int, id, e, f]
  rfl
theorem product_ok (s t : Gr.Tb) : f_packed_product [.d (pksD n n s), .d (pksD n n t)] = .ok (.v (pksD n n (Gr.times n s t))) [.d (pksD n n s), .d (pksD n n t)] :=
  product_rows hn s t (fun i => pkN n (s i)) (Gr.times n s t) (sq_pks n n t) (fun i hi k hk => pkN_at hn (s i) hk) fun i hi j hj => rfl
theorem idem_ok (t : Gr.Tb) [Decidable (Gr.Idem n t)] : f_is_packed_idempotent [.d (pksD n n t)] = .ok (.v (.bl (decide (Gr.Idem n t)))) [.d (pksD n n t)] := by
  obtain ⟨ρ', ⟨s1, rfl⟩, e⟩ := forL_all (gd := nmD 1) (body := b_is_packed_idempotent_1) (fun i => pkD n (t i)) (fun i => decide (pkN n (Gr.times n t t i) = pkN n (t i))) (.rt (.bl false)) (fun ρ => ∃ s1, ρ = [.d (pksD n n t), s1]) (List.range n) [.d (pksD n n t), .u] ⟨.u, rfl⟩ (fun i ρ hi ⟨s1, e⟩ => by
    subst e
    have r := row_tab hn t t i
    have q : neD (pkD n (Gr.times n t t i)) (pkD n (t i)) = some (.bl (!decide (pkN n (Gr.times n t t i) = pkN n (t i)))) := int_ne _ _
    refine ⟨_, _, rfl, ⟨.d (pkD n (t i)), rfl⟩, fun h => ?_, fun h => ?_⟩
    · simp only [b_is_packed_idempotent_1, EV, evn, evw, evh, evro, evshy, ↓reduceIte, decide_true, decide_false, decide_eq_true_eq, Bool.not_true, Bool.not_false, Bool.or_true, Bool.or_false, Bool.true_or, Bool.false_or, Bool.and_true, Bool.true_and, Bool.and_false, Bool.false_and, Bool.false_eq_true, Int.lt_irrefl, Nat.reduceLeDiff, Nat.reduceLT, Nat.reduceAdd, Int.reduceLT, Int.reduceLE, Int.reduceNeg, Int.reduceAdd, Int.reduceEq, Int.cast_ofNat_Int, id, r, q, h]
    · simp only [b_is_packed_idempotent_1, EV, evn, evw, evh, evro, evshy, ↓reduceIte, decide_true, decide_false, decide_eq_true_eq, Bool.not_true, Bool.not_false, Bool.or_true, Bool.or_false, Bool.true_or, Bool.false_or, Bool.and_true, Bool.true_and, Bool.and_false, Bool.false_and, Bool.false_eq_true, Int.lt_irrefl, Nat.reduceLeDiff, Nat.reduceLT, Nat.reduceAdd, Int.reduceLT, Int.reduceLE, Int.reduceNeg, Int.reduceAdd, Int.reduceEq, Int.cast_ofNat_Int, id, r, q, h]) fun ρ k => rfl
  have c : ((List.range n).all fun i => decide (pkN n (Gr.times n t t i) = pkN n (t i))) = decide (Gr.Idem n t) := by
    rw [Bool.eq_iff_iff, List.all_eq_true, decide_eq_true_iff]
    constructor
    · intro h i j hi hj
      exact (pkN_inj hn).mp (of_decide_eq_true (h i (List.mem_range.mpr hi))) j hj
    · intro h i hi
      exact decide_eq_true ((pkN_inj hn).mpr fun j hj => h i j (List.mem_range.mp hi) hj)
  rw [c] at e
  by_cases h : Gr.Idem n t
  · rw [decide_eq_true h] at e ⊢
    simp only [f_is_packed_idempotent, q_is_packed_idempotent, EV, evn, evw, evh, evro, evshy, ↓reduceIte, decide_true, decide_false, decide_eq_true_eq, Bool.not_true, Bool.not_false, Bool.or_true, Bool.or_false, Bool.true_or, Bool.false_or, Bool.and_true, Bool.true_and, Bool.and_false, Bool.false_and, Bool.false_eq_true, Int.lt_irrefl, Nat.reduceLeDiff, Nat.reduceLT, Nat.reduceAdd, Int.reduceLT, Int.reduceLE, Int.reduceNeg, Int.reduceAdd, Int.reduceEq, Int.cast_ofNat_Int, id, as_pks, e]
  · rw [decide_eq_false h] at e ⊢
    simp only [f_is_packed_idempotent, q_is_packed_idempotent, EV, evn, evw, evh, evro, evshy, ↓reduceIte, decide_true, decide_false, decide_eq_true_eq, Bool.not_true, Bool.not_false, Bool.or_true, Bool.or_false, Bool.true_or, Bool.false_or, Bool.and_true, Bool.true_and, Bool.and_false, Bool.false_and, Bool.false_eq_true, Int.lt_irrefl, Nat.reduceLeDiff, Nat.reduceLT, Nat.reduceAdd, Int.reduceLT, Int.reduceLE, Int.reduceNeg, Int.reduceAdd, Int.reduceEq, Int.cast_ofNat_Int, id, as_pks, e]
end
end Pl
namespace Pl
open PySem PySem.Spec PyProof.Rows L2
/-! ### the program's pumped table; a table out of numbers -/
theorem name_ok (g : Gr) : lookI tab_NAMES (.int (g.code : Nat)) = some (gD g) := by cases g <;> rfl
theorem paired_map (f g : Nat → D) (n : Nat) : paired ((List.range n).map f) ((List.range n).map g) = (List.range n).map fun k => .tup [f k, g k] := by
  unfold paired
  rw [len_map, len_map, Nat.min_self]
  refine List.map_congr_left fun k hk => ?_
  have hk := List.mem_range.mp hk
  rw [List.getD, List.getElem?_map, List.getElem?_range hk, List.getD, List.getElem?_map, List.getElem?_range hk]; rfl
section
variable {n : Nat} (hn : n ≤ 8)
include hn
theorem table_from_ok (t : Gr.Tb) : f_table_from [.d (pksD n n t)] = .ok (.v (tabD n t)) [.d (pksD n n t)] := by
  obtain ⟨ρ', e, s2, s3, s4, rfl⟩ := forL_ix (gd := nmD 2) (body := b_table_from_2) (fun i ρ => ∃ s2 s3 s4, ρ = [.d (pksD n n t), .o ((List.range i).map fun i => rowD n (t i)), s2, s3, s4]) (fun i => pkD n (t i)) n ⟨.u, .u, .u, rfl⟩ fun i ρ hi ⟨s2, s3, s4, e⟩ => by
    subst e
    obtain ⟨ρ', e, s4', rfl⟩ := forL_ix (gd := nmD 4) (body := b_table_from_1) (fun j ρ => ∃ s4, ρ = [.d (pksD n n t), .o ((List.range i).map fun i => rowD n (t i)), .d (.int (pkN n (t i) / 2 ^ j : Nat)), .o ((List.range j).map fun j => gD (t i j)), s4]) (fun k => pkD n (t k)) n (ρ := [.d (pksD n n t), .o ((List.range i).map fun i => rowD n (t i)), .d (pkD n (t i)), .o [], s4]) ⟨s4, by rw [map0, Nat.pow_zero, Nat.div_one]; rfl⟩ fun j ρ hj ⟨s4, e⟩ => by
      subst e
      have a1 : andD (.int (pkN n (t i) / 2 ^ j : Nat)) (.int 16843009) = some (.int ((t i j).code : Nat)) := by rw [← pkN_at hn (t i) hj]; exact and_lit _ 16843009
      have s1 : shrD (.int (pkN n (t i) / 2 ^ j : Nat)) (.int 1) = some (.int (pkN n (t i) / 2 ^ (j + 1) : Nat)) := by
        rw [show pkN n (t i) / 2 ^ (j + 1) = pkN n (t i) / 2 ^ j / 2 by rw [Nat.div_div_eq_div_mul, Nat.pow_succ]]; exact shr_lit _ 1
      have f : ((List.range j).map fun j => gD (t i j)).length < 100000 := by rw [len_map]; omega
      refine ⟨_, _, rfl, ?_, .d (pkD n (t j)), rfl⟩
      rw [map1]
      simp only [b_table_from_1, EV, evn, evw, evh, evro, evshy, ↓reduceIte, decide_true, decide_false, decide_eq_true_eq, Bool.not_true, Bool.not_false, Bool.or_true, Bool.or_false, Bool.true_or, Bool.false_or, Bool.and_true, Bool.true_and, Bool.and_false, Bool.false_and, Bool.false_eq_true, Int.lt_irrefl, Nat.reduceLeDiff, Nat.reduceLT, Nat.reduceAdd, Int.reduceLT, Int.reduceLE, Int.reduceNeg, Int.reduceAdd, Int.reduceEq, Int.cast_ofNat_Int, id, a1, s1, name_ok, f]
    have f : ((List.range i).map fun i => rowD n (t i)).length < 100000 := by rw [len_map]; omega
    refine ⟨_, _, rfl, ?_, .d (.int (pkN n (t i) / 2 ^ n : Nat)), .d (.lst ((List.range n).map fun j => gD (t i j))), s4', rfl⟩
    rw [map1]
    simp only [b_table_from_2, EV, evn, evw, evh, evro, evshy, ↓reduceIte, decide_true, decide_false, decide_eq_true_eq, Bool.not_true, Bool.not_false, Bool.or_true, Bool.or_false, Bool.true_or, Bool.false_or, Bool.and_true, Bool.true_and, Bool.and_false, Bool.false_and, Bool.false_eq_true, Int.lt_irrefl, Nat.reduceLeDiff, Nat.reduceLT, Nat.reduceAdd, Int.reduceLT, Int.reduceLE, Int.reduceNeg, Int.reduceAdd, Int.reduceEq, Int.cast_ofNat_Int, id, as_pks, e, f]
    rfl
  rw [map0] at e
  simp only [f_table_from, q_table_from, EV, evn, evw, evh, evro, evshy, ↓reduceIte, decide_true, decide_false, decide_eq_true_eq, Bool.not_true, Bool.not_false, Bool.or_true, Bool.or_false, Bool.true_or, Bool.false_or, Bool.and_true, Bool.true_and, Bool.and_false, Bool.false_and, Bool.false_eq_true, Int.lt_irrefl, Nat.reduceLeDiff, Nat.reduceLT, Nat.reduceAdd, Int.reduceLT, Int.reduceLE, Int.reduceNeg, Int.reduceAdd, Int.reduceEq, Int.cast_ofNat_Int, id, as_pks, e]
  rfl
def codesD (n : Nat) (t : Gr.Tb) : D := .lst ((List.range n).map fun k => .int ((t k k).code : Nat))
theorem codes_ok (t : Gr.Tb) {s1 s4 s5 : Slot} : ∃ s2 s3, lcL (tupD 2 (consD (nmD 2) (consD (nmD 3) nilD))) (M.pure true) e_packed_pumped_1 [2, 3] ((List.range n).map fun k => .tup [.int (k : Nat), pkD n (t k)]) [.d (pksD n n t), s1, .u, .u, s4, s5] = .ok ((List.range n).map fun k => .int ((t k k).code : Nat)) [.d (pksD n n t), s1, s2, s3, s4, s5] := by
  obtain ⟨ρ', e, s2, s3, rfl⟩ := lcL_map (gd := (tupD 2 (consD (nmD 2) (consD (nmD 3) nilD)))) (te := e_packed_pumped_1) (vs := [2, 3]) (fun ρ => ∃ s2 s3, ρ = [.d (pksD n n t), s1, s2, s3, s4, s5]) (fun k : Nat => .tup [.int (k : Nat), pkD n (t k)]) (fun k => .int ((t k k).code : Nat)) (List.range n) [.d (pksD n n t), s1, .u, .u, s4, s5] ⟨.u, .u, rfl⟩ fun k ρ hk ⟨s2, s3, e⟩ => by
    subst e
    have hk := List.mem_range.mp hk
    have h1 : shrD (pkD n (t k)) (.int (k : Nat)) = some (.int (pkN n (t k) / 2 ^ k : Nat)) := shr_nat _ _
    have a1 : andD (.int (pkN n (t k) / 2 ^ k : Nat)) (.int 16843009) = some (.int ((t k k).code : Nat)) := by rw [← pkN_at hn (t k) hk]; exact and_lit _ 16843009
    refine ⟨_, _, rfl, ?_, .d (.int (k : Nat)), .d (pkD n (t k)), rfl⟩
    simp only [e_packed_pumped_1, EV, evn, evw, evh, evro, evshy, ↓reduceIte, decide_true, decide_false, decide_eq_true_eq, Bool.not_true, Bool.not_false, Bool.or_true, Bool.or_false, Bool.true_or, Bool.false_or, Bool.and_true, Bool.true_and, Bool.and_false, Bool.false_and, Bool.false_eq_true, Int.lt_irrefl, Nat.reduceLeDiff, Nat.reduceLT, Nat.reduceAdd, Int.reduceLT, Int.reduceLE, Int.reduceNeg, Int.reduceAdd, Int.reduceEq, Int.cast_ofNat_Int, id, h1, a1]
  exact ⟨s2, s3, e⟩
omit hn in
theorem no_paid (t : Gr.Tb) : ninD (.int 257) (codesD n t) = some (.bl (!(List.range n).any fun k => decide (t k k = .paid))) := by
  have s : (shape 60 (.int 257) && shapeL 60 ((List.range n).map fun k => D.int ((t k k).code : Nat))) = true := by
    rw [shapes_map fun x _ => rfl]; rfl
  show (if _ = true then some (D.bl (!((List.range n).map fun k => D.int ((t k k).code : Nat)).any fun y => eqB y (.int 257))) else _) = _
  rw [if_pos s, List.any_map]
  congr 4
  funext k
  show eqB (.int ((t k k).code : Nat)) (.int 257) = _
  cases t k k <;> rfl
theorem behind_ok (t : Gr.Tb) {c : D} {s1 s2 s4 : Slot} : ∃ s3 s5, lcL (tupD 2 (consD (nmD 5) (consD (nmD 3) nilD))) (M.pure true) e_packed_pumped_2 [5, 3] ((List.range n).map fun k => .tup [.int ((t k k).code : Nat), pkD n (t k)]) [.d (pksD n n t), s1, s2, .u, s4, .u] = .ok ((List.range n).map fun k => pkD n fun j => (t k k).low.mul (t k j)) [.d (pksD n n t), s1, s2, s3, s4, s5] := by
  obtain ⟨ρ', e, s3, s5, rfl⟩ := lcL_map (gd := (tupD 2 (consD (nmD 5) (consD (nmD 3) nilD)))) (te := e_packed_pumped_2) (vs := [5, 3]) (fun ρ => ∃ s3 s5, ρ = [.d (pksD n n t), s1, s2, s3, s4, s5]) (fun k : Nat => .tup [.int ((t k k).code : Nat), pkD n (t k)]) (fun k => pkD n fun j => (t k k).low.mul (t k j)) (List.range n) [.d (pksD n n t), s1, s2, .u, s4, .u] ⟨.u, .u, rfl⟩ fun k ρ hk ⟨s3, s5, e⟩ => by
    subst e
    have c2 : eqD (.int ((t k k).code : Nat)) (.int 257) = some (.bl (decide (t k k = .paid))) := by cases t k k <;> rfl
    have r := row_times_ok hn (m := 1) (fun _ => (t k k).low) (fun _ => t k) (x := (t k k).low.code) (fun k' hk' => by
      obtain rfl : k' = 0 := by omega
      cases t k k <;> decide) (P := .tup [pkD n (t k)]) rfl
    have q : (fun j => Gr.sum 1 fun k' => (t k k).low.mul (t k j)) = fun j => (t k k).low.mul (t k j) := by
      funext j
      exact Gr.none_add _
    rw [q] at r
    have w : ∀ x : D, [x].length ≤ 100000 := fun x => by show 1 ≤ 100000; decide
    refine ⟨_, _, rfl, ?_, .d (pkD n (t k)), .d (.int ((t k k).code : Nat)), rfl⟩
    by_cases h : t k k = .paid
    · rw [h] at r ⊢
      have r : f_row_times [.d (.int 1), .d (.tup [pkD n (t k)])] = _ := r
      have p2 : eqD (.int (Gr.paid.code : Nat)) (.int 257) = some (.bl true) := rfl
      have p3 : ((Gr.paid.code : Nat) : Int) = 257 := rfl
      simp only [e_packed_pumped_2, EV, evn, evw, evh, evro, evshy, ↓reduceIte, decide_true, decide_false, decide_eq_true_eq, Bool.not_true, Bool.not_false, Bool.or_true, Bool.or_false, Bool.true_or, Bool.false_or, Bool.and_true, Bool.true_and, Bool.and_false, Bool.false_and, Bool.false_eq_true, Int.lt_irrefl, Nat.reduceLeDiff, Nat.reduceLT, Nat.reduceAdd, Int.reduceLT, Int.reduceLE, Int.reduceNeg, Int.reduceAdd, Int.reduceEq, Int.cast_ofNat_Int, id, p2, p3, w, r]
    · have hl : (t k k).low = t k k := by revert h; cases t k k <;> first | exact fun _ => rfl | exact fun h => absurd rfl h
      rw [hl] at r
      simp only [e_packed_pumped_2, EV, evn, evw, evh, evro, evshy, ↓reduceIte, decide_true, decide_false, decide_eq_true_eq, Bool.not_true, Bool.not_false, Bool.or_true, Bool.or_false, Bool.true_or, Bool.false_or, Bool.and_true, Bool.true_and, Bool.and_false, Bool.false_and, Bool.false_eq_true, Int.lt_irrefl, Nat.reduceLeDiff, Nat.reduceLT, Nat.reduceAdd, Int.reduceLT, Int.reduceLE, Int.reduceNeg, Int.reduceAdd, Int.reduceEq, Int.cast_ofNat_Int, id, c2, h, hl, w, r]
  exact ⟨s3, s5, e⟩
omit hn in
theorem enum_pks (t : Gr.Tb) : enumAD [pksD n n t] = some ((List.range n).map fun k => .tup [.int (k : Nat), pkD n (t k)]) := by
  show some (numbered _) = _
  rw [numbered_map]
theorem zip_pks {f : Nat → D} (t : Gr.Tb) : zipBD [.lst ((List.range n).map f), pksD n n t] = some ((List.range n).map fun k => .tup [f k, pkD n (t k)]) := by
  show some (paired _ _) = _
  rw [paired_map]
theorem packed_pumped_ok {t : Gr.Tb} (I : Gr.Idem n t) : f_packed_pumped [.d (pksD n n t)] = .ok (.v (pksD n n (Gr.pump n t))) [.d (pksD n n t)] := by
  obtain ⟨s2, s3, e1⟩ := codes_ok hn t (s1 := .u) (s4 := .u) (s5 := .u)
  have en := enum_pks t (n := n)
  have np := no_paid t (n := n)
  have fc : ((List.range n).map fun k => D.int ((t k k).code : Nat)).length ≤ 100000 := by rw [len_map]; omega
  cases q : (List.range n).any fun k => decide (t k k = .paid) with
  | false =>
    rw [q] at np
    have same : pksD n n t = pksD n n (Gr.pump n t) := (pks_congr fun i j hi hj => Gr.pump_same I (fun k hk h => by
      rw [List.any_eq_false] at q
      exact q k (List.mem_range.mpr hk) (decide_eq_true h)) i j hi hj).symm
    rw [← same]
    simp only [f_packed_pumped, q_packed_pumped, EV, evn, evw, evh, evro, evshy, ↓reduceIte, decide_true, decide_false, decide_eq_true_eq, Bool.not_true, Bool.not_false, Bool.or_true, Bool.or_false, Bool.true_or, Bool.false_or, Bool.and_true, Bool.true_and, Bool.and_false, Bool.false_and, Bool.false_eq_true, Int.lt_irrefl, Nat.reduceLeDiff, Nat.reduceLT, Nat.reduceAdd, Int.reduceLT, Int.reduceLE, Int.reduceNeg, Int.reduceAdd, Int.reduceEq, Int.cast_ofNat_Int, id, en, e1, fc]
    rw [show D.lst ((List.range n).map fun k => D.int ((t k k).code : Nat)) = codesD n t from rfl]
    simp only [EV, evn, evw, evh, evro, evshy, ↓reduceIte, decide_true, decide_false, decide_eq_true_eq, Bool.not_true, Bool.not_false, Bool.or_true, Bool.or_false, Bool.true_or, Bool.false_or, Bool.and_true, Bool.true_and, Bool.and_false, Bool.false_and, Bool.false_eq_true, Int.lt_irrefl, Nat.reduceLeDiff, Nat.reduceLT, Nat.reduceAdd, Int.reduceLT, Int.reduceLE, Int.reduceNeg, Int.reduceAdd, Int.reduceEq, Int.cast_ofNat_Int, id, np]
  | true =>
    rw [q] at np
    obtain ⟨s3', s5, e2⟩ := behind_ok hn t (c := .non) (s1 := .d (codesD n t)) (s2 := .u) (s4 := .u)
    have fb : ((List.range n).map fun k => pkD n fun j => (t k k).low.mul (t k j)).length ≤ 100000 := by rw [len_map]; omega
    have zp : zipBD [codesD n t, pksD n n t] = _ := zip_pks hn (f := fun k => D.int ((t k k).code : Nat)) t
    have pr := product_rows hn t (fun k j => (t k k).low.mul (t k j)) (fun i => pkN n (t i)) (Gr.pump n t) (P := .lst ((List.range n).map fun k => pkD n fun j => (t k k).low.mul (t k j))) rfl (fun i hi k hk => pkN_at hn (t i) hk) fun i hi j hj => Gr.sum_eq fun k hk => (Gr.mul_assoc _ _ _).symm
    have pr : f_packed_product [.d (pksD n n t), _] = _ := pr
    simp only [f_packed_pumped, q_packed_pumped, EV, evn, evw, evh, evro, evshy, ↓reduceIte, decide_true, decide_false, decide_eq_true_eq, Bool.not_true, Bool.not_false, Bool.or_true, Bool.or_false, Bool.true_or, Bool.false_or, Bool.and_true, Bool.true_and, Bool.and_false, Bool.false_and, Bool.false_eq_true, Int.lt_irrefl, Nat.reduceLeDiff, Nat.reduceLT, Nat.reduceAdd, Int.reduceLT, Int.reduceLE, Int.reduceNeg, Int.reduceAdd, Int.reduceEq, Int.cast_ofNat_Int, id, en, e1, fc]
    rw [show D.lst ((List.range n).map fun k => D.int ((t k k).code : Nat)) = codesD n t from rfl]
    simp only [EV, evn, evw, evh, evro, evshy, ↓reduceIte, decide_true, decide_false, decide_eq_true_eq, Bool.not_true, Bool.not_false, Bool.or_true, Bool.or_false, Bool.true_or, Bool.false_or, Bool.and_true, Bool.true_and, Bool.and_false, Bool.false_and, Bool.false_eq_true, Int.lt_irrefl, Nat.reduceLeDiff, Nat.reduceLT, Nat.reduceAdd, Int.reduceLT, Int.reduceLE, Int.reduceNeg, Int.reduceAdd, Int.reduceEq, Int.cast_ofNat_Int, id, np, zp, e2, fb, pr]
end
end Pl
namespace Pl
open PySem PySem.Spec PyProof.Rows L2
/-! ### what is a table, and what is none -/
/-- a value at an entry's place -/
structure Leaf (y : D) : Prop where
  nin : ninD y (.tup tab_ORDER) = some (.bl (!isG y))
  x : LeafX y
  eq : isG y = true → y = gD (gv y)
def Kn : D → Prop
  | .rf _ => False
  | .scr _ => False
  | _ => True
def isT : D → Bool
  | .tup _ => true
  | _ => false
theorem isi_kn {d : D} (h : Kn d) : isiD [d, .rf (.ty "tuple")] = some (.bl (isT d)) := by cases d <;> first | rfl | exact absurd h id
/-- a value at a row's place -/
structure RowQ (x : D) : Prop where
  kn : Kn x
  all : ∀ ys, x = .tup ys → ys.length ≤ 200 ∧ ∀ y ∈ ys, Leaf y
structure TabQ (v : D) : Prop where
  kn : Kn v
  all : ∀ xs, v = .tup xs → xs.length ≤ 200 ∧ ∀ x ∈ xs, RowQ x
def rowOk (n : Nat) : D → Bool
  | .tup ys => decide (ys.length = n) && ys.all isG
  | _ => false
def tupOf : D → List D
  | .tup xs => xs
  | _ => []
def rowG : D → List Gr
  | .tup ys => ys.map gv
  | _ => []
def tblOk (n : Nat) : D → Bool
  | .tup xs => decide (xs.length = n) && xs.all (rowOk n)
  | _ => false
theorem leaf_g (g : Gr) : Leaf (gD g) := by
  refine ⟨?_, leafx_g g, fun _ => by rw [gv_g]⟩
  rw [isG_g]; cases g <;> kernel_rfl
theorem code_of {y : D} (h : Leaf y) (k : isG y = true) : lookS tab_CODES y = some (.int ((gv y).code : Nat)) := by
  rw [h.eq k, gv_g]
  cases gv y <;> rfl
section
variable {n : Nat}
theorem pf1 (hn : n ≤ 8) {v p2 s3 : Slot} : ∀ (L : List D) (S : List Gr) (s5 : Slot), (∀ y ∈ L, Leaf y) → L.length + S.length ≤ 8 → ∃ s5' S', forL (nmD 5) b_packed_form_1 L [.d (.int (n : Nat)), v, p2, s3, .d (.int (Gr.pk S : Nat)), s5] = .ok (if L.all isG = true then .nx else .rt .non) [.d (.int (n : Nat)), v, p2, s3, .d (.int (Gr.pk S' : Nat)), s5'] ∧ (L.all isG = true → S' = (L.map gv).reverse ++ S)
  | [], S, s5, _, _ => ⟨s5, S, rfl, fun _ => rfl⟩
  | y :: L, S, s5, hL, l => by
    have hy := hL y List.mem_cons_self
    have l : L.length + 1 + S.length ≤ 8 := l
    cases q : isG y with
    | true =>
      obtain ⟨s5', S', e, f⟩ := pf1 hn (v := v) (p2 := p2) (s3 := s3) L (gv y :: S) (.d y) (fun x hx => hL x (List.mem_cons_of_mem _ hx)) (by rw [List.length_cons]; omega)
      refine ⟨s5', S', ?_, fun h => ?_⟩
      · rw [List.all_cons, q, Bool.true_and, ← e]
        have nin := hy.nin
        rw [q] at nin
        have c := code_of hy q
        have sh := shl_one (a := Gr.pk S) (Nat.lt_of_lt_of_le (Gr.pk_lt S (by omega)) (by decide))
        have o := or_nat (Gr.pk S * 2) (gv y).code
        refine forL_rec (ρ1 := [.d (.int (n : Nat)), v, p2, s3, .d (.int (Gr.pk S : Nat)), .d y]) rfl ?_
        simp only [b_packed_form_1, EV, evn, evw, evh, evro, evshy, ↓reduceIte, decide_true, decide_false, decide_eq_true_eq, Bool.not_true, Bool.not_false, Bool.or_true, Bool.or_false, Bool.true_or, Bool.false_or, Bool.and_true, Bool.true_and, Bool.and_false, Bool.false_and, Bool.false_eq_true, Int.lt_irrefl, Nat.reduceLeDiff, Nat.reduceLT, Nat.reduceAdd, Int.reduceLT, Int.reduceLE, Int.reduceNeg, Int.reduceAdd, Int.reduceEq, Int.cast_ofNat_Int, id, nin, c, sh, o]
        rfl
      · rw [List.all_cons, q, Bool.true_and] at h
        rw [f h, List.map_cons, List.reverse_cons, List.append_assoc]; rfl
    | false =>
      refine ⟨.d y, S, ?_, fun h => ?_⟩
      · rw [List.all_cons, q, Bool.false_and]
        have nin := hy.nin
        rw [q] at nin
        simp only [b_packed_form_1, EV, evn, evw, evh, evro, evshy, ↓reduceIte, decide_true, decide_false, decide_eq_true_eq, Bool.not_true, Bool.not_false, Bool.or_true, Bool.or_false, Bool.true_or, Bool.false_or, Bool.and_true, Bool.true_and, Bool.and_false, Bool.false_and, Bool.false_eq_true, Int.lt_irrefl, Nat.reduceLeDiff, Nat.reduceLT, Nat.reduceAdd, Int.reduceLT, Int.reduceLE, Int.reduceNeg, Int.reduceAdd, Int.reduceEq, Int.cast_ofNat_Int, id, nin]
      · rw [List.all_cons, q, Bool.false_and] at h; cases h
theorem pf2 (hn : n ≤ 8) {v : Slot} : ∀ (L : List D) (fd : List D) (s3 s4 s5 : Slot), (∀ x ∈ L, RowQ x) → fd.length + L.length < 100000 → ∃ fd' s3' s4' s5', forL (nmD 3) b_packed_form_2 L [.d (.int (n : Nat)), v, .o fd, s3, s4, s5] = .ok (if L.all (rowOk n) = true then .nx else .rt .non) [.d (.int (n : Nat)), v, .o fd', s3', s4', s5'] ∧ (L.all (rowOk n) = true → fd' = fd ++ L.map fun x => .int (Gr.pk (rowG x) : Nat))
  | [], fd, s3, s4, s5, _, _ => ⟨fd, s3, s4, s5, rfl, fun _ => (List.append_nil _).symm⟩
  | x :: L, fd, s3, s4, s5, hL, l => by
    have hx := hL x List.mem_cons_self
    have l : fd.length + (L.length + 1) < 100000 := l
    have isi := isi_kn hx.kn
    have stop : rowOk n x = false → (∃ fd' s3' s4' s5', b_packed_form_2 [.d (.int (n : Nat)), v, .o fd, .d x, s4, s5] = .ok (.rt .non) [.d (.int (n : Nat)), v, .o fd', s3', s4', s5']) → ∃ fd' s3' s4' s5', forL (nmD 3) b_packed_form_2 (x :: L) [.d (.int (n : Nat)), v, .o fd, s3, s4, s5] = .ok (if (x :: L).all (rowOk n) = true then .nx else .rt .non) [.d (.int (n : Nat)), v, .o fd', s3', s4', s5'] ∧ ((x :: L).all (rowOk n) = true → fd' = fd ++ (x :: L).map fun x => .int (Gr.pk (rowG x) : Nat)) := fun q ⟨fd', s3', s4', s5', e⟩ => by
      refine ⟨fd', s3', s4', s5', ?_, fun h => ?_⟩
      · rw [List.all_cons, q, Bool.false_and]
        simp only [EV, evn, evw, evh, evro, evshy, ↓reduceIte, decide_true, decide_false, decide_eq_true_eq, Bool.not_true, Bool.not_false, Bool.or_true, Bool.or_false, Bool.true_or, Bool.false_or, Bool.and_true, Bool.true_and, Bool.and_false, Bool.false_and, Bool.false_eq_true, Int.lt_irrefl, Nat.reduceLeDiff, Nat.reduceLT, Nat.reduceAdd, Int.reduceLT, Int.reduceLE, Int.reduceNeg, Int.reduceAdd, Int.reduceEq, Int.cast_ofNat_Int, id, e]
      · rw [List.all_cons, q, Bool.false_and] at h; cases h
    by_cases ht : isT x = true
    · obtain ⟨ys, rfl⟩ : ∃ ys, x = .tup ys := by cases x <;> first | exact ⟨_, rfl⟩ | cases ht
      have hys := hx.all ys rfl
      have ne := int_ne ys.length n
      by_cases hl : ys.length = n
      · have bk : backD (.tup ys) = some (.tup ys.reverse) := rfl
        obtain ⟨s5', S', e, f⟩ := pf1 hn (v := v) (p2 := .o fd) (s3 := .d (.tup ys)) ys.reverse [] s5 (fun y hy => hys.2 y (List.mem_reverse.mp hy)) (by rw [List.length_reverse, List.length_nil]; omega)
        rw [List.all_reverse] at e f
        have e0 : (D.int (Gr.pk [] : Nat)) = .int 0 := rfl
        rw [e0] at e
        cases q : ys.all isG with
        | true =>
          have ok : rowOk n (.tup ys) = true := by
            show (decide (ys.length = n) && ys.all isG) = true
            rw [q, decide_eq_true hl]; rfl
          rw [q] at e
          have f := f q
          rw [List.map_reverse, List.reverse_reverse, List.append_nil] at f
          subst f
          obtain ⟨fd', s3', s4', s5', e2, f2⟩ := pf2 hn (v := v) L (fd ++ [.int (Gr.pk (ys.map gv) : Nat)]) (.d (.tup ys)) (.d (.int (Gr.pk (ys.map gv) : Nat))) s5' (fun x hx => hL x (List.mem_cons_of_mem _ hx)) (by rw [List.length_append, List.length_singleton]; omega)
          have fw : fd.length < 100000 := by omega
          refine ⟨fd', s3', s4', s5', ?_, fun h => ?_⟩
          · rw [List.all_cons, ok, Bool.true_and, ← e2]
            refine forL_rec (ρ1 := [.d (.int (n : Nat)), v, .o fd, .d (.tup ys), s4, s5]) rfl ?_
            simp only [b_packed_form_2, EV, evn, evw, evh, evro, evshy, ↓reduceIte, decide_true, decide_false, decide_eq_true_eq, Bool.not_true, Bool.not_false, Bool.or_true, Bool.or_false, Bool.true_or, Bool.false_or, Bool.and_true, Bool.true_and, Bool.and_false, Bool.false_and, Bool.false_eq_true, Int.lt_irrefl, Nat.reduceLeDiff, Nat.reduceLT, Nat.reduceAdd, Int.reduceLT, Int.reduceLE, Int.reduceNeg, Int.reduceAdd, Int.reduceEq, Int.cast_ofNat_Int, id, hl, bk, e, fw]
          · rw [List.all_cons, ok, Bool.true_and] at h
            rw [f2 h, List.append_assoc]; rfl
        | false =>
          refine stop (by show (decide (ys.length = n) && ys.all isG) = false; rw [q, Bool.and_false]) ?_
          rw [q] at e
          refine ⟨fd, .d (.tup ys), .d (.int (Gr.pk S' : Nat)), s5', ?_⟩
          simp only [b_packed_form_2, EV, evn, evw, evh, evro, evshy, ↓reduceIte, decide_true, decide_false, decide_eq_true_eq, Bool.not_true, Bool.not_false, Bool.or_true, Bool.or_false, Bool.true_or, Bool.false_or, Bool.and_true, Bool.true_and, Bool.and_false, Bool.false_and, Bool.false_eq_true, Int.lt_irrefl, Nat.reduceLeDiff, Nat.reduceLT, Nat.reduceAdd, Int.reduceLT, Int.reduceLE, Int.reduceNeg, Int.reduceAdd, Int.reduceEq, Int.cast_ofNat_Int, id, hl, bk, e]
      · refine stop (by show (decide (ys.length = n) && ys.all isG) = false; rw [decide_eq_false hl]; rfl) ⟨fd, .d (.tup ys), s4, s5, ?_⟩
        have hl' : ¬ ((ys.length : Nat) : Int) = (n : Nat) := by omega
        simp only [b_packed_form_2, EV, evn, evw, evh, evro, evshy, ↓reduceIte, decide_true, decide_false, decide_eq_true_eq, Bool.not_true, Bool.not_false, Bool.or_true, Bool.or_false, Bool.true_or, Bool.false_or, Bool.and_true, Bool.true_and, Bool.and_false, Bool.false_and, Bool.false_eq_true, Int.lt_irrefl, Nat.reduceLeDiff, Nat.reduceLT, Nat.reduceAdd, Int.reduceLT, Int.reduceLE, Int.reduceNeg, Int.reduceAdd, Int.reduceEq, Int.cast_ofNat_Int, id, hl']
    · have ht : isT x = false := by simpa using ht
      refine stop (by cases x <;> first | rfl | cases ht) ⟨fd, .d x, s4, s5, ?_⟩
      rw [ht] at isi
      simp only [b_packed_form_2, EV, evn, evw, evh, evro, evshy, ↓reduceIte, decide_true, decide_false, decide_eq_true_eq, Bool.not_true, Bool.not_false, Bool.or_true, Bool.or_false, Bool.true_or, Bool.false_or, Bool.and_true, Bool.true_and, Bool.and_false, Bool.false_and, Bool.false_eq_true, Int.lt_irrefl, Nat.reduceLeDiff, Nat.reduceLT, Nat.reduceAdd, Int.reduceLT, Int.reduceLE, Int.reduceNeg, Int.reduceAdd, Int.reduceEq, Int.cast_ofNat_Int, id, isi]
theorem form_ok (hn : n ≤ 8) {v : D} (h : TabQ v) : f_packed_form [.d (.int (n : Nat)), .d v] = .ok (.v (if tblOk n v = true then .tup ((tupOf v).map fun x => .int (Gr.pk (rowG x) : Nat)) else .non)) [.d (.int (n : Nat)), .d v] := by
  have isi := isi_kn h.kn
  by_cases ht : isT v = true
  · obtain ⟨xs, rfl⟩ : ∃ ys, v = .tup ys := by cases v <;> first | exact ⟨_, rfl⟩ | cases ht
    have hxs := h.all xs rfl
    by_cases hl : xs.length = n
    · obtain ⟨fd', s3', s4', s5', e, f⟩ := pf2 hn (v := .d (.tup xs)) xs [] .u .u .u hxs.2 (by rw [List.length_nil]; omega)
      have ok : tblOk n (.tup xs) = xs.all (rowOk n) := by
        show (decide (xs.length = n) && xs.all (rowOk n)) = _
        rw [decide_eq_true hl]; rfl
      rw [ok]
      cases q : xs.all (rowOk n) with
      | true =>
        rw [q] at e
        have f := f q
        rw [List.nil_append] at f
        subst f
        simp only [f_packed_form, q_packed_form, EV, evn, evw, evh, evro, evshy, ↓reduceIte, decide_true, decide_false, decide_eq_true_eq, Bool.not_true, Bool.not_false, Bool.or_true, Bool.or_false, Bool.true_or, Bool.false_or, Bool.and_true, Bool.true_and, Bool.and_false, Bool.false_and, Bool.false_eq_true, Int.lt_irrefl, Nat.reduceLeDiff, Nat.reduceLT, Nat.reduceAdd, Int.reduceLT, Int.reduceLE, Int.reduceNeg, Int.reduceAdd, Int.reduceEq, Int.cast_ofNat_Int, id, hl, e, tupOf]
      | false =>
        rw [q] at e
        simp only [f_packed_form, q_packed_form, EV, evn, evw, evh, evro, evshy, ↓reduceIte, decide_true, decide_false, decide_eq_true_eq, Bool.not_true, Bool.not_false, Bool.or_true, Bool.or_false, Bool.true_or, Bool.false_or, Bool.and_true, Bool.true_and, Bool.and_false, Bool.false_and, Bool.false_eq_true, Int.lt_irrefl, Nat.reduceLeDiff, Nat.reduceLT, Nat.reduceAdd, Int.reduceLT, Int.reduceLE, Int.reduceNeg, Int.reduceAdd, Int.reduceEq, Int.cast_ofNat_Int, id, hl, e]
    · have ok : tblOk n (.tup xs) = false := by
        show (decide (xs.length = n) && xs.all (rowOk n)) = false
        rw [decide_eq_false hl]; rfl
      have hl' : ¬ ((xs.length : Nat) : Int) = (n : Nat) := by omega
      rw [ok]
      simp only [f_packed_form, q_packed_form, EV, evn, evw, evh, evro, evshy, ↓reduceIte, decide_true, decide_false, decide_eq_true_eq, Bool.not_true, Bool.not_false, Bool.or_true, Bool.or_false, Bool.true_or, Bool.false_or, Bool.and_true, Bool.true_and, Bool.and_false, Bool.false_and, Bool.false_eq_true, Int.lt_irrefl, Nat.reduceLeDiff, Nat.reduceLT, Nat.reduceAdd, Int.reduceLT, Int.reduceLE, Int.reduceNeg, Int.reduceAdd, Int.reduceEq, Int.cast_ofNat_Int, id, hl']
  · have ht : isT v = false := by simpa using ht
    have ok : tblOk n v = false := by cases v <;> first | rfl | cases ht
    rw [ht] at isi
    rw [ok]
    simp only [f_packed_form, q_packed_form, EV, evn, evw, evh, evro, evshy, ↓reduceIte, decide_true, decide_false, decide_eq_true_eq, Bool.not_true, Bool.not_false, Bool.or_true, Bool.or_false, Bool.true_or, Bool.false_or, Bool.and_true, Bool.true_and, Bool.and_false, Bool.false_and, Bool.false_eq_true, Int.lt_irrefl, Nat.reduceLeDiff, Nat.reduceLT, Nat.reduceAdd, Int.reduceLT, Int.reduceLE, Int.reduceNeg, Int.reduceAdd, Int.reduceEq, Int.cast_ofNat_Int, id, isi]
end
end Pl
namespace Pl
open PySem PySem.Spec PyProof.Rows L2
/-! ### tables told from values; the program's answers -/
theorem list_range {α : Type} (xs : List α) (d : α) : xs = (List.range xs.length).map fun i => xs.getD i d := by
  apply List.ext_getElem (by rw [len_map])
  intro i h1 h2
  rw [List.getElem_map, List.getElem_range, List.getD, List.getElem?_eq_getElem h1]; rfl
theorem row_of {n : Nat} {x : D} (h : RowQ x) (k : rowOk n x = true) : x = rowD n (fun j => (rowG x).getD j .none) ∧ Gr.pk (rowG x) = pkN n fun j => (rowG x).getD j .none := by
  cases x with
  | tup ys =>
    have k : (decide (ys.length = n) && ys.all isG) = true := k
    rw [Bool.and_eq_true, decide_eq_true_iff, List.all_eq_true] at k
    have lg : (ys.map gv).length = n := by rw [List.length_map]; exact k.1
    have e1 := list_range (ys.map gv) .none
    rw [lg] at e1
    constructor
    · unfold rowD
      congr 1
      have : (List.range n).map (fun j => gD ((ys.map gv).getD j .none)) = (ys.map gv).map gD := by
        conv => rhs; rw [e1]
        rw [List.map_map]; rfl
      show ys = (List.range n).map fun j => gD ((ys.map gv).getD j .none)
      rw [this, List.map_map]
      have q : ys.map (gD ∘ gv) = ys.map id := List.map_congr_left fun y hy => (((h.all ys rfl).2 y hy).eq (k.2 y hy)).symm
      rw [q, List.map_id]
    · unfold pkN
      show Gr.pk (ys.map gv) = Gr.pk ((List.range n).map fun j => (ys.map gv).getD j .none)
      rw [← e1]
  | _ => cases k
theorem tab_of {n : Nat} {v : D} (h : TabQ v) (k : tblOk n v = true) : ∃ t : Gr.Tb, v = tabD n t ∧ (D.tup ((tupOf v).map fun x => .int (Gr.pk (rowG x) : Nat))) = pksD n n t := by
  cases v with
  | tup xs =>
    have k : (decide (xs.length = n) && xs.all (rowOk n)) = true := k
    rw [Bool.and_eq_true, decide_eq_true_iff, List.all_eq_true] at k
    have hx : ∀ i, i < n → RowQ (xs.getD i .non) ∧ rowOk n (xs.getD i .non) = true := fun i hi => by
      have hi' : i < xs.length := by omega
      have e : xs.getD i .non = xs[i] := by rw [List.getD, List.getElem?_eq_getElem hi']; rfl
      rw [e]
      exact ⟨(h.all xs rfl).2 _ (List.getElem_mem _), k.2 _ (List.getElem_mem _)⟩
    have e1 := list_range xs .non
    rw [k.1] at e1
    refine ⟨fun i j => (rowG (xs.getD i .non)).getD j .none, ?_, ?_⟩
    · unfold tabD
      congr 1
      conv => lhs; rw [e1]
      exact List.map_congr_left fun i hi => (row_of (hx i (List.mem_range.mp hi)).1 (hx i (List.mem_range.mp hi)).2).1
    · unfold pksD
      congr 1
      show xs.map (fun x => D.int (Gr.pk (rowG x) : Nat)) = _
      conv => lhs; rw [e1]
      rw [List.map_map]
      refine List.map_congr_left fun i hi => ?_
      show D.int (Gr.pk (rowG (xs.getD i .non)) : Nat) = pkD n _
      rw [(row_of (hx i (List.mem_range.mp hi)).1 (hx i (List.mem_range.mp hi)).2).2]; rfl
  | _ => cases k
theorem tab_q {n : Nat} (hn : n ≤ 8) (t : Gr.Tb) : TabQ (tabD n t) := ⟨trivial, fun xs e => by
  unfold tabD at e
  injection e with e
  subst e
  refine ⟨by rw [len_map]; omega, fun x hx => ?_⟩
  obtain ⟨i, _, rfl⟩ := List.mem_map.mp hx
  refine ⟨trivial, fun ys e => ?_⟩
  unfold rowD at e
  injection e with e
  subst e
  refine ⟨by rw [len_map]; omega, fun y hy => ?_⟩
  obtain ⟨j, _, rfl⟩ := List.mem_map.mp hy
  exact leaf_g _⟩
theorem tab_ok {n : Nat} (t : Gr.Tb) : tblOk n (tabD n t) = true := by
  show (decide (((List.range n).map fun i => rowD n (t i)).length = n) && ((List.range n).map fun i => rowD n (t i)).all (rowOk n)) = true
  rw [len_map, decide_eq_true rfl, Bool.true_and, List.all_eq_true]
  intro x hx
  obtain ⟨i, _, rfl⟩ := List.mem_map.mp hx
  show (decide (((List.range n).map fun j => gD (t i j)).length = n) && ((List.range n).map fun j => gD (t i j)).all isG) = true
  rw [len_map, decide_eq_true rfl, Bool.true_and, List.all_eq_true]
  intro y hy
  obtain ⟨j, _, rfl⟩ := List.mem_map.mp hy
  exact isG_g _
theorem tab_inj {n : Nat} {s t : Gr.Tb} (h : tabD n s = tabD n t) : Gr.Same n s t := (eq_tab n s t).mp (by rw [h]; exact (eq_tab n t t).mpr fun _ _ _ _ => rfl)
theorem form_tab {n : Nat} (hn : n ≤ 8) (t : Gr.Tb) : f_packed_form [.d (.int (n : Nat)), .d (tabD n t)] = .ok (.v (pksD n n t)) [.d (.int (n : Nat)), .d (tabD n t)] := by
  have f := form_ok hn (tab_q hn t)
  rw [if_pos (tab_ok t)] at f
  obtain ⟨t', e, e3⟩ := tab_of (tab_q hn t) (tab_ok t)
  rw [e3, pks_congr (s := t') (t := t) fun i j hi hj => (tab_inj e i j hi hj).symm] at f
  exact f
section
variable {n : Nat}
theorem packed_ok (hn : n ≤ 8) (t : Gr.Tb) : f_packed_table [.d (.int (n : Nat)), .d (tabD n t)] = .ok (.v (pksD n n t)) [.d (.int (n : Nat)), .d (tabD n t)] := by
  have f := form_tab hn t
  have i : isD (pksD n n t) .non = some (.bl false) := rfl
  simp only [f_packed_table, m_packed_table, EV, evn, evw, evh, evro, evshy, ↓reduceIte, decide_true, decide_false, decide_eq_true_eq, Bool.not_true, Bool.not_false, Bool.or_true, Bool.or_false, Bool.true_or, Bool.false_or, Bool.and_true, Bool.true_and, Bool.and_false, Bool.false_and, Bool.false_eq_true, Int.lt_irrefl, Nat.reduceLeDiff, Nat.reduceLT, Nat.reduceAdd, Int.reduceLT, Int.reduceLE, Int.reduceNeg, Int.reduceAdd, Int.reduceEq, Int.cast_ofNat_Int, id, f, i]
theorem packed_no (hn : n ≤ 8) {v : D} (h : TabQ v) (k : tblOk n v = false) : f_packed_table [.d (.int (n : Nat)), .d v] = .ex ⟨Str.ofString "InvalidTable", none⟩ [.d (.int (n : Nat)), .d v] := by
  have f := form_ok hn h
  rw [k] at f
  simp only [f_packed_table, m_packed_table, EV, evn, evw, evh, evro, evshy, ↓reduceIte, decide_true, decide_false, decide_eq_true_eq, Bool.not_true, Bool.not_false, Bool.or_true, Bool.or_false, Bool.true_or, Bool.false_or, Bool.and_true, Bool.true_and, Bool.and_false, Bool.false_and, Bool.false_eq_true, Int.lt_irrefl, Nat.reduceLeDiff, Nat.reduceLT, Nat.reduceAdd, Int.reduceLT, Int.reduceLE, Int.reduceNeg, Int.reduceAdd, Int.reduceEq, Int.cast_ofNat_Int, id, f]
theorem first_ok (h0 : 1 ≤ n) (hn : n ≤ 8) (t : Gr.Tb) : f_first_packed [.d (tabD n t)] = .ok (.v (pksD n n t)) [.d (tabD n t)] := by
  have f := packed_ok hn t
  have l := len_tab n t
  have i : isiD [tabD n t, .rf (.ty "tuple")] = some (.bl true) := rfl
  have a : (1 : Int) ≤ (n : Nat) := by omega
  have b : ((n : Nat) : Int) ≤ 8 := by omega
  simp only [f_first_packed, m_first_packed, EV, evn, evw, evh, evro, evshy, ↓reduceIte, decide_true, decide_false, decide_eq_true_eq, Bool.not_true, Bool.not_false, Bool.or_true, Bool.or_false, Bool.true_or, Bool.false_or, Bool.and_true, Bool.true_and, Bool.and_false, Bool.false_and, Bool.false_eq_true, Int.lt_irrefl, Nat.reduceLeDiff, Nat.reduceLT, Nat.reduceAdd, Int.reduceLT, Int.reduceLE, Int.reduceNeg, Int.reduceAdd, Int.reduceEq, Int.cast_ofNat_Int, id, f, l, i, a, b]
theorem first_no {v : D} (h : TabQ v) (k : ∀ m, 1 ≤ m → m ≤ 8 → tblOk m v = false) : f_first_packed [.d v] = .ex ⟨Str.ofString "InvalidTable", none⟩ [.d v] := by
  have isi := isi_kn h.kn
  by_cases ht : isT v = true
  · obtain ⟨xs, rfl⟩ : ∃ ys, v = .tup ys := by cases v <;> first | exact ⟨_, rfl⟩ | cases ht
    by_cases a : (1 : Int) ≤ (xs.length : Nat)
    · by_cases b : ((xs.length : Nat) : Int) ≤ 8
      · have f := packed_no (n := xs.length) (by omega) h (k _ (by omega) (by omega))
        simp only [f_first_packed, m_first_packed, EV, evn, evw, evh, evro, evshy, ↓reduceIte, decide_true, decide_false, decide_eq_true_eq, Bool.not_true, Bool.not_false, Bool.or_true, Bool.or_false, Bool.true_or, Bool.false_or, Bool.and_true, Bool.true_and, Bool.and_false, Bool.false_and, Bool.false_eq_true, Int.lt_irrefl, Nat.reduceLeDiff, Nat.reduceLT, Nat.reduceAdd, Int.reduceLT, Int.reduceLE, Int.reduceNeg, Int.reduceAdd, Int.reduceEq, Int.cast_ofNat_Int, id, f, a, b]
      · simp only [f_first_packed, m_first_packed, EV, evn, evw, evh, evro, evshy, ↓reduceIte, decide_true, decide_false, decide_eq_true_eq, Bool.not_true, Bool.not_false, Bool.or_true, Bool.or_false, Bool.true_or, Bool.false_or, Bool.and_true, Bool.true_and, Bool.and_false, Bool.false_and, Bool.false_eq_true, Int.lt_irrefl, Nat.reduceLeDiff, Nat.reduceLT, Nat.reduceAdd, Int.reduceLT, Int.reduceLE, Int.reduceNeg, Int.reduceAdd, Int.reduceEq, Int.cast_ofNat_Int, id, a, b]
    · simp only [f_first_packed, m_first_packed, EV, evn, evw, evh, evro, evshy, ↓reduceIte, decide_true, decide_false, decide_eq_true_eq, Bool.not_true, Bool.not_false, Bool.or_true, Bool.or_false, Bool.true_or, Bool.false_or, Bool.and_true, Bool.true_and, Bool.and_false, Bool.false_and, Bool.false_eq_true, Int.lt_irrefl, Nat.reduceLeDiff, Nat.reduceLT, Nat.reduceAdd, Int.reduceLT, Int.reduceLE, Int.reduceNeg, Int.reduceAdd, Int.reduceEq, Int.cast_ofNat_Int, id, a]
  · have ht : isT v = false := by simpa using ht
    rw [ht] at isi
    simp only [f_first_packed, m_first_packed, EV, evn, evw, evh, evro, evshy, ↓reduceIte, decide_true, decide_false, decide_eq_true_eq, Bool.not_true, Bool.not_false, Bool.or_true, Bool.or_false, Bool.true_or, Bool.false_or, Bool.and_true, Bool.true_and, Bool.and_false, Bool.false_and, Bool.false_eq_true, Int.lt_irrefl, Nat.reduceLeDiff, Nat.reduceLT, Nat.reduceAdd, Int.reduceLT, Int.reduceLE, Int.reduceNeg, Int.reduceAdd, Int.reduceEq, Int.cast_ofNat_Int, id, isi]
theorem pumped_ok (h0 : 1 ≤ n) (hn : n ≤ 8) {t : Gr.Tb} (I : Gr.Idem n t) : f_pumped [.d (tabD n t)] = .ok (.v (tabD n (Gr.pump n t))) [.d (tabD n t)] := by
  have f := first_ok h0 hn t
  have i := @idem_ok n hn t (.isTrue I)
  have p := packed_pumped_ok hn I
  have b := table_from_ok hn (Gr.pump n t)
  have i : f_is_packed_idempotent [.d (pksD n n t)] = .ok (.v (.bl true)) [.d (pksD n n t)] := i
  simp only [f_pumped, m_pumped, EV, evn, evw, evh, evro, evshy, ↓reduceIte, decide_true, decide_false, decide_eq_true_eq, Bool.not_true, Bool.not_false, Bool.or_true, Bool.or_false, Bool.true_or, Bool.false_or, Bool.and_true, Bool.true_and, Bool.and_false, Bool.false_and, Bool.false_eq_true, Int.lt_irrefl, Nat.reduceLeDiff, Nat.reduceLT, Nat.reduceAdd, Int.reduceLT, Int.reduceLE, Int.reduceNeg, Int.reduceAdd, Int.reduceEq, Int.cast_ofNat_Int, id, f, i, p, b]
theorem pumped_not (h0 : 1 ≤ n) (hn : n ≤ 8) {t : Gr.Tb} (I : ¬ Gr.Idem n t) : f_pumped [.d (tabD n t)] = .ex ⟨Str.ofString "InvalidOperation", none⟩ [.d (tabD n t)] := by
  have f := first_ok h0 hn t
  have i := @idem_ok n hn t (.isFalse I)
  have i : f_is_packed_idempotent [.d (pksD n n t)] = .ok (.v (.bl false)) [.d (pksD n n t)] := i
  simp only [f_pumped, m_pumped, EV, evn, evw, evh, evro, evshy, ↓reduceIte, decide_true, decide_false, decide_eq_true_eq, Bool.not_true, Bool.not_false, Bool.or_true, Bool.or_false, Bool.true_or, Bool.false_or, Bool.and_true, Bool.true_and, Bool.and_false, Bool.false_and, Bool.false_eq_true, Int.lt_irrefl, Nat.reduceLeDiff, Nat.reduceLT, Nat.reduceAdd, Int.reduceLT, Int.reduceLE, Int.reduceNeg, Int.reduceAdd, Int.reduceEq, Int.cast_ofNat_Int, id, f, i]
theorem pumped_no {v : D} (h : TabQ v) (k : ∀ m, 1 ≤ m → m ≤ 8 → tblOk m v = false) : f_pumped [.d v] = .ex ⟨Str.ofString "InvalidTable", none⟩ [.d v] := by
  have f := first_no h k
  simp only [f_pumped, m_pumped, EV, evn, evw, evh, evro, evshy, ↓reduceIte, decide_true, decide_false, decide_eq_true_eq, Bool.not_true, Bool.not_false, Bool.or_true, Bool.or_false, Bool.true_or, Bool.false_or, Bool.and_true, Bool.true_and, Bool.and_false, Bool.false_and, Bool.false_eq_true, Int.lt_irrefl, Nat.reduceLeDiff, Nat.reduceLT, Nat.reduceAdd, Int.reduceLT, Int.reduceLE, Int.reduceNeg, Int.reduceAdd, Int.reduceEq, Int.cast_ofNat_Int, id, f]
theorem is_idem_ok (h0 : 1 ≤ n) (hn : n ≤ 8) {t : Gr.Tb} (I : Gr.Idem n t) : f_is_idempotent [.d (tabD n t)] = .ok (.v (.bl true)) [.d (tabD n t)] := by
  have f := first_ok h0 hn t
  have i := @idem_ok n hn t (.isTrue I)
  have i : f_is_packed_idempotent [.d (pksD n n t)] = .ok (.v (.bl true)) [.d (pksD n n t)] := i
  simp only [f_is_idempotent, m_is_idempotent, EV, evn, evw, evh, evro, evshy, ↓reduceIte, decide_true, decide_false, decide_eq_true_eq, Bool.not_true, Bool.not_false, Bool.or_true, Bool.or_false, Bool.true_or, Bool.false_or, Bool.and_true, Bool.true_and, Bool.and_false, Bool.false_and, Bool.false_eq_true, Int.lt_irrefl, Nat.reduceLeDiff, Nat.reduceLT, Nat.reduceAdd, Int.reduceLT, Int.reduceLE, Int.reduceNeg, Int.reduceAdd, Int.reduceEq, Int.cast_ofNat_Int, id, f, i]
theorem prod_ok (h0 : 1 ≤ n) (hn : n ≤ 8) (s t : Gr.Tb) : f_product [.d (tabD n s), .d (tabD n t)] = .ok (.v (tabD n (Gr.times n s t))) [.d (tabD n s), .d (.tup [tabD n t])] := by
  have f := first_ok h0 hn s
  have g := packed_ok hn t
  have l := len_pks n n s
  have p := product_ok hn s t
  have b := table_from_ok hn (Gr.times n s t)
  have d : runStar.dataOf [Slot.d (tabD n t)] = some [tabD n t] := rfl
  have o : ([Slot.d (tabD n t)].all fun s => !s.own) = true := rfl
  have w : ∀ x : D, [x].length ≤ 100000 := fun x => by show 1 ≤ 100000; decide
  simp only [f_product, q_product, EV, evn, evw, evh, evro, evshy, ↓reduceIte, decide_true, decide_false, decide_eq_true_eq, Bool.not_true, Bool.not_false, Bool.or_true, Bool.or_false, Bool.true_or, Bool.false_or, Bool.and_true, Bool.true_and, Bool.and_false, Bool.false_and, Bool.false_eq_true, Int.lt_irrefl, Nat.reduceLeDiff, Nat.reduceLT, Nat.reduceAdd, Int.reduceLT, Int.reduceLE, Int.reduceNeg, Int.reduceAdd, Int.reduceEq, Int.cast_ofNat_Int, id, d, o, w, f, e_product_1, l, g, b_product_2, p, b]
end
end Pl
namespace Pl
open PySem PySem.Spec PyProof.Rows L2
/-! ### tables drawn; tables of letters; idempotent powers -/
theorem row_get' {n : Nat} {ys : List D} (l : ys.length = n) (h : ∀ y ∈ ys, ∃ g, y = gD g) : ∃ f, D.tup ys = rowD n f := by
  refine ⟨fun j => gv (ys.getD j .non), ?_⟩
  unfold rowD
  congr 1
  conv => lhs; rw [list_range ys .non, l]
  refine List.map_congr_left fun j hj => ?_
  have hj' : j < ys.length := by rw [l]; exact List.mem_range.mp hj
  have e : ys.getD j .non = ys[j] := by rw [List.getD, List.getElem?_eq_getElem hj']; rfl
  obtain ⟨g, q⟩ := h _ (List.getElem_mem hj')
  show ys.getD j .non = gD (gv (ys.getD j .non))
  rw [e, q, gv_g]
theorem tab_get' {n : Nat} {rows : List D} (l : rows.length = n) (h : ∀ x ∈ rows, ∃ f, x = rowD n f) : ∃ t, D.tup rows = tabD n t := by
  have ch : ∀ i, ∃ f, i < n → rows.getD i .non = rowD n f := fun i => by
    by_cases hi : i < n
    · have hi' : i < rows.length := by omega
      have e : rows.getD i .non = rows[i] := by rw [List.getD, List.getElem?_eq_getElem hi']; rfl
      obtain ⟨f, q⟩ := h _ (List.getElem_mem hi')
      exact ⟨f, fun _ => by rw [e, q]⟩
    · exact ⟨fun _ => .none, fun h => absurd h hi⟩
  refine ⟨fun i => Classical.choose (ch i), ?_⟩
  unfold tabD
  congr 1
  conv => lhs; rw [list_range rows .non, l]
  exact List.map_congr_left fun i hi => Classical.choose_spec (ch i) (List.mem_range.mp hi)
theorem some_ok {n : Nat} (hn : n ≤ 8) {st : List D} {m : Nat} (h : St st m) (hm : m ≤ 900000) : ∃ st' t, f_law_some_table [.o st, .d (.int (n : Nat))] = .ok (.v (tabD n t)) [.o st', .d (.int (n : Nat))] ∧ St st' (m + 100) := by
  obtain ⟨r1, st1, h1, k1, k2, hy1⟩ := draw h 3
  obtain ⟨sg, l5, esg⟩ : ∃ sg : List Gr, sg.length = 5 ∧ atI [D.lst [gD .restart, gD .free, gD .paid, gD .dear, gD .none], .lst [gD .none, gD .none, gD .none, gD .free, gD .paid], .lst [gD .paid, gD .paid, gD .free, gD .none, gD .restart]] r1 = some (.lst (sg.map gD)) := by
    have : r1 = 0 ∨ r1 = 1 ∨ r1 = 2 := by omega
    rcases this with rfl | rfl | rfl
    · exact ⟨[.restart, .free, .paid, .dear, .none], rfl, rfl⟩
    · exact ⟨[.none, .none, .none, .free, .paid], rfl, rfl⟩
    · exact ⟨[.paid, .paid, .free, .none, .restart], rfl, rfl⟩
  have rn := rng_nat (n := n) (by omega)
  obtain ⟨ρ', e, st', rows, s4, s5, s6, rfl, q1, q2, q3⟩ := forL_ix (gd := nmD 4) (body := b_law_some_table_2) (fun i ρ => ∃ st' rows s4 s5 s6, ρ = [.o st', .d (.int (n : Nat)), .d (.lst (sg.map gD)), .o rows, s4, s5, s6] ∧ St st' (m + 1 + 8 * i) ∧ rows.length = i ∧ ∀ x ∈ rows, ∃ f, x = rowD n f) (fun i => .int (i : Nat)) n (ρ := [.o st1, .d (.int (n : Nat)), .d (.lst (sg.map gD)), .o [], .u, .u, .u]) ⟨st1, [], .u, .u, .u, rfl, hy1, rfl, fun x hx => (List.not_mem_nil hx).elim⟩ fun i ρ hi ⟨st', rows, s4, s5, s6, e, q1, q2, q3⟩ => by
    subst e
    obtain ⟨ρ', e, st2, ys, s6', rfl, p1, p2, p3⟩ := forL_ix (gd := nmD 6) (body := b_law_some_table_1) (fun j ρ => ∃ st2 ys s6, ρ = [.o st2, .d (.int (n : Nat)), .d (.lst (sg.map gD)), .o rows, .d (.int (i : Nat)), .o ys, s6] ∧ St st2 (m + 1 + 8 * i + j) ∧ ys.length = j ∧ ∀ y ∈ ys, ∃ g, y = gD g) (fun j => .int (j : Nat)) n (ρ := [.o st', .d (.int (n : Nat)), .d (.lst (sg.map gD)), .o rows, .d (.int (i : Nat)), .o [], s6]) ⟨st', [], s6, rfl, q1, rfl, fun x hx => (List.not_mem_nil hx).elim⟩ fun j ρ hj ⟨st2, ys, s6, e, p1, p2, p3⟩ => by
      subst e
      obtain ⟨r, st3, h3, k3, k4, hy3⟩ := draw p1 5
      obtain ⟨y, hy, ey⟩ := at_in (sg.map gD) k3 (by rw [List.length_map, l5]; omega)
      obtain ⟨g, _, rfl⟩ := List.mem_map.mp hy
      have fw : ys.length < 100000 := by omega
      refine ⟨_, [.o st3, .d (.int (n : Nat)), .d (.lst (sg.map gD)), .o rows, .d (.int (i : Nat)), .o (ys ++ [gD g]), .d (.int (j : Nat))], rfl, ?_, st3, ys ++ [gD g], .d (.int (j : Nat)), rfl, hy3.up (by omega), by rw [List.length_append, List.length_singleton, p2], fun x hx => ?_⟩
      · simp only [b_law_some_table_1, EV, evn, evw, evh, evro, evshy, ↓reduceIte, decide_true, decide_false, decide_eq_true_eq, Bool.not_true, Bool.not_false, Bool.or_true, Bool.or_false, Bool.true_or, Bool.false_or, Bool.and_true, Bool.true_and, Bool.and_false, Bool.false_and, Bool.false_eq_true, Int.lt_irrefl, Nat.reduceLeDiff, Nat.reduceLT, Nat.reduceAdd, Int.reduceLT, Int.reduceLE, Int.reduceNeg, Int.reduceAdd, Int.reduceEq, Int.cast_ofNat_Int, id, h3, ey, fw]
      · rcases List.mem_append.mp hx with hx | hx
        · exact p3 x hx
        · exact ⟨g, List.mem_singleton.mp hx⟩
    obtain ⟨f, ef⟩ := row_get' p2 p3
    have fw : rows.length < 100000 := by omega
    refine ⟨_, [.o st2, .d (.int (n : Nat)), .d (.lst (sg.map gD)), .o (rows ++ [.tup ys]), .d (.int (i : Nat)), .d (.lst ys), s6'], rfl, ?_, st2, rows ++ [.tup ys], .d (.int (i : Nat)), .d (.lst ys), s6', rfl, p1.up (by omega), by rw [List.length_append, List.length_singleton, q2], fun x hx => ?_⟩
    · simp only [b_law_some_table_2, EV, evn, evw, evh, evro, evshy, ↓reduceIte, decide_true, decide_false, decide_eq_true_eq, Bool.not_true, Bool.not_false, Bool.or_true, Bool.or_false, Bool.true_or, Bool.false_or, Bool.and_true, Bool.true_and, Bool.and_false, Bool.false_and, Bool.false_eq_true, Int.lt_irrefl, Nat.reduceLeDiff, Nat.reduceLT, Nat.reduceAdd, Int.reduceLT, Int.reduceLE, Int.reduceNeg, Int.reduceAdd, Int.reduceEq, Int.cast_ofNat_Int, id, rn, e, fw]
    · rcases List.mem_append.mp hx with hx | hx
      · exact q3 x hx
      · exact ⟨f, by rw [List.mem_singleton.mp hx, ef]⟩
  obtain ⟨t, et⟩ := tab_get' q2 q3
  refine ⟨st', t, ?_, q1.up (by omega)⟩
  simp only [f_law_some_table, q_law_some_table, EV, evn, evw, evh, evro, evshy, ↓reduceIte, decide_true, decide_false, decide_eq_true_eq, Bool.not_true, Bool.not_false, Bool.or_true, Bool.or_false, Bool.true_or, Bool.false_or, Bool.and_true, Bool.true_and, Bool.and_false, Bool.false_and, Bool.false_eq_true, Int.lt_irrefl, Nat.reduceLeDiff, Nat.reduceLT, Nat.reduceAdd, Int.reduceLT, Int.reduceLE, Int.reduceNeg, Int.reduceAdd, Int.reduceEq, Int.cast_ofNat_Int, id, gNone, gDear, gPaid, gFree, gRest, h1, esg, rn, e, et]
def ρst (n : Nat) (t : Gr.Tb) (s : Gr.Tb) (s2 : Slot) : Env := [.d (tabD n t), .d (tabD n s), s2]
theorem steady_loop {n : Nat} (hn : n ≤ 8) (t : Gr.Tb) : ∀ (L : List D) (s : Gr.Tb) (s2 : Slot), ∃ s' s2', forL (nmD 2) b_law_steady_1 L (ρst n t s s2) = .ok .nx (ρst n t s' s2') ∨ (Gr.Idem n s' ∧ forL (nmD 2) b_law_steady_1 L (ρst n t s s2) = .ok (.rt (tabD n s')) (ρst n t s' s2'))
  | [], s, s2 => ⟨s, s2, .inl rfl⟩
  | x :: L, s, s2 => by
    have a := times_ok hn s s
    have b := times_ok hn s t
    by_cases I : Gr.Idem n s
    · refine ⟨s, .d x, .inr ⟨I, ?_⟩⟩
      have q : eqD (tabD n (Gr.times n s s)) (tabD n s) = some (.bl true) := @tab_eq n _ _ (.isTrue I)
      simp only [ρst, b_law_steady_1, EV, evn, evw, evh, evro, evshy, ↓reduceIte, decide_true, decide_false, decide_eq_true_eq, Bool.not_true, Bool.not_false, Bool.or_true, Bool.or_false, Bool.true_or, Bool.false_or, Bool.and_true, Bool.true_and, Bool.and_false, Bool.false_and, Bool.false_eq_true, Int.lt_irrefl, Nat.reduceLeDiff, Nat.reduceLT, Nat.reduceAdd, Int.reduceLT, Int.reduceLE, Int.reduceNeg, Int.reduceAdd, Int.reduceEq, Int.cast_ofNat_Int, id, a, q]
    · have q : eqD (tabD n (Gr.times n s s)) (tabD n s) = some (.bl false) := @tab_eq n _ _ (.isFalse I)
      obtain ⟨s', s2', h⟩ := steady_loop hn t L (Gr.times n s t) (.d x)
      have e : forL (nmD 2) b_law_steady_1 (x :: L) (ρst n t s s2) = forL (nmD 2) b_law_steady_1 L (ρst n t (Gr.times n s t) (.d x)) := by
        refine forL_rec (ρ1 := ρst n t s (.d x)) rfl ?_
        simp only [ρst, b_law_steady_1, EV, evn, evw, evh, evro, evshy, ↓reduceIte, decide_true, decide_false, decide_eq_true_eq, Bool.not_true, Bool.not_false, Bool.or_true, Bool.or_false, Bool.true_or, Bool.false_or, Bool.and_true, Bool.true_and, Bool.and_false, Bool.false_and, Bool.false_eq_true, Int.lt_irrefl, Nat.reduceLeDiff, Nat.reduceLT, Nat.reduceAdd, Int.reduceLT, Int.reduceLE, Int.reduceNeg, Int.reduceAdd, Int.reduceEq, Int.cast_ofNat_Int, id, a, b, q]
      rw [e]
      exact ⟨s', s2', h⟩
theorem steady_ok {n : Nat} (hn : n ≤ 8) (t : Gr.Tb) : f_law_steady [.d (tabD n t)] = .ok (.v .non) [.d (tabD n t)] ∨ ∃ s, Gr.Idem n s ∧ f_law_steady [.d (tabD n t)] = .ok (.v (tabD n s)) [.d (tabD n t)] := by
  have rn : rng1D [.int 40] = some ((List.range 40).map fun k => .int (k : Nat)) := rng_nat (n := 40) (by omega)
  obtain ⟨s', s2', h⟩ := steady_loop hn t ((List.range 40).map fun k => .int (k : Nat)) t .u
  unfold ρst at h
  rcases h with h | ⟨I, h⟩
  · exact .inl (by simp only [f_law_steady, q_law_steady, EV, evn, evw, evh, evro, evshy, ↓reduceIte, decide_true, decide_false, decide_eq_true_eq, Bool.not_true, Bool.not_false, Bool.or_true, Bool.or_false, Bool.true_or, Bool.false_or, Bool.and_true, Bool.true_and, Bool.and_false, Bool.false_and, Bool.false_eq_true, Int.lt_irrefl, Nat.reduceLeDiff, Nat.reduceLT, Nat.reduceAdd, Int.reduceLT, Int.reduceLE, Int.reduceNeg, Int.reduceAdd, Int.reduceEq, Int.cast_ofNat_Int, id, rn, h])
  · exact .inr ⟨s', I, by simp only [f_law_steady, q_law_steady, EV, evn, evw, evh, evro, evshy, ↓reduceIte, decide_true, decide_false, decide_eq_true_eq, Bool.not_true, Bool.not_false, Bool.or_true, Bool.or_false, Bool.true_or, Bool.false_or, Bool.and_true, Bool.true_and, Bool.and_false, Bool.false_and, Bool.false_eq_true, Int.lt_irrefl, Nat.reduceLeDiff, Nat.reduceLT, Nat.reduceAdd, Int.reduceLT, Int.reduceLE, Int.reduceNeg, Int.reduceAdd, Int.reduceEq, Int.cast_ofNat_Int, id, rn, h]⟩
end Pl
namespace Pl
open PySem PySem.Spec PyProof.Rows L2
/-! ### other values -/
theorem leaf_no {d : D} (h1 : isG d = false) (h2 : ninD d (.tup tab_ORDER) = some (.bl true)) (h3 : LeafX d) : Leaf d :=
  ⟨by rw [h1]; exact h2, h3, fun h => by rw [h1] at h; cases h⟩
theorem pow39 : powD (.int 10) (.int 39) = some (.int (10 ^ 39)) := by kernel_rfl
def others : List D := [.non, .bl true, .int (-1), .int 0, .int 1, .str (Str.ofString ""), .str (Str.ofString "a"), .str (Str.ofString "ab"), .tup [], .lst [], .dct [] [], .tup [.int 0], .tup [.str (Str.ofString "a")], .int (10 ^ 39), .str (Str.ofString "never"), .tup [.non], .tup [.tup []], .lst [.tup []], .dct [.inl 0] [.int 1]]
theorem lf_non : Leaf .non := leaf_no (by decide +kernel) (by kernel_rfl) (leafx_no (by decide +kernel) (by kernel_rfl) (by kernel_rfl))
theorem lf_zero : Leaf (.int 0) := leaf_no (by decide +kernel) (by kernel_rfl) (leafx_no (by decide +kernel) (by kernel_rfl) (by kernel_rfl))
theorem lf_a : Leaf (.str (Str.ofString "a")) := leaf_no (by decide +kernel) (by kernel_rfl) (leafx_no (by decide +kernel) (by kernel_rfl) (by kernel_rfl))
theorem lf_nil : Leaf (.tup []) := leaf_no (by decide +kernel) (by kernel_rfl) (leafx_no (by decide +kernel) (by kernel_rfl) (by kernel_rfl))
theorem others_leaf : ∀ d ∈ others, Leaf d := by
  unfold others
  simp only [List.forall_mem_cons]
  refine ⟨lf_non, ?_, ?_, lf_zero, ?_, ?_, lf_a, ?_, lf_nil, ?_, ?_, ?_, ?_, ?_, ?_, ?_, ?_, ?_, ?_, fun x hx => (List.not_mem_nil hx).elim⟩
  all_goals exact leaf_no (by decide +kernel) (by kernel_rfl) (leafx_no (by decide +kernel) (by kernel_rfl) (by kernel_rfl))
theorem rowq_leaf {d : D} (h : Kn d) (n : ∀ xs, d ≠ .tup xs) : RowQ d := ⟨h, fun ys e => absurd e (n ys)⟩
theorem rowq_one {d : D} (h : Leaf d) : RowQ (.tup [d]) := ⟨trivial, fun ys e => by
  injection e with e
  subst e
  exact ⟨by show 1 ≤ 200; decide, fun y hy => by rw [List.mem_singleton.mp hy]; exact h⟩⟩
theorem rowq_nil : RowQ (.tup []) := ⟨trivial, fun ys e => by
  injection e with e
  subst e
  exact ⟨by decide, fun y hy => (List.not_mem_nil hy).elim⟩⟩
theorem others_row : ∀ d ∈ others, RowQ d := by
  unfold others
  simp only [List.forall_mem_cons]
  refine ⟨?_, ?_, ?_, ?_, ?_, ?_, ?_, ?_, rowq_nil, ?_, ?_, rowq_one lf_zero, rowq_one lf_a, ?_, ?_, rowq_one lf_non, rowq_one lf_nil, ?_, ?_, fun x hx => (List.not_mem_nil hx).elim⟩
  all_goals exact rowq_leaf trivial nofun
theorem tabq_one {d : D} (h : RowQ d) : TabQ (.tup [d]) := ⟨trivial, fun ys e => by
  injection e with e
  subst e
  exact ⟨by show 1 ≤ 200; decide, fun y hy => by rw [List.mem_singleton.mp hy]; exact h⟩⟩
theorem others_tab : ∀ d ∈ others, TabQ d := by
  have lf : ∀ {d : D}, Kn d → (∀ xs, d ≠ .tup xs) → TabQ d := fun h n => ⟨h, fun ys e => absurd e (n ys)⟩
  have nil : TabQ (.tup []) := ⟨trivial, fun ys e => by
    injection e with e
    subst e
    exact ⟨by decide, fun y hy => (List.not_mem_nil hy).elim⟩⟩
  unfold others
  simp only [List.forall_mem_cons]
  refine ⟨?_, ?_, ?_, ?_, ?_, ?_, ?_, ?_, nil, ?_, ?_, tabq_one (rowq_leaf trivial nofun), tabq_one (rowq_leaf trivial nofun), ?_, ?_, tabq_one (rowq_leaf trivial nofun), tabq_one rowq_nil, ?_, ?_, fun x hx => (List.not_mem_nil hx).elim⟩
  all_goals exact lf trivial nofun
theorem other_ok {st : List D} {m : Nat} (h : St st m) (hm : m ≤ 900000) : ∃ st' d, f_law_other [.o st] = .ok (.v d) [.o st'] ∧ St st' (m + 1) ∧ d ∈ others := by
  obtain ⟨r, st2, h1, k1, k2, hy⟩ := draw h 19
  obtain ⟨d, hd, e⟩ := at_in others k1 k2
  refine ⟨st2, d, ?_, hy, hd⟩
  unfold others at e
  have ad : addD (.lst [.non, .bl true, .int (-1), .int 0, .int 1, .str (Str.ofString ""), .str (Str.ofString "a"), .str (Str.ofString "ab"), .tup [], .lst [], .dct [] [], .tup [.int 0], .tup [.str (Str.ofString "a")], .int (10 ^ 39)]) (.lst [.str (Str.ofString "never"), .tup [.non], .tup [.tup []], .lst [.tup []], .dct [.inl 0] [.int 1]]) = some (.lst others) := rfl
  unfold others at ad
  simp only [f_law_other, m_law_other, EV, evn, evw, evh, evro, evshy, ↓reduceIte, decide_true, decide_false, decide_eq_true_eq, Bool.not_true, Bool.not_false, Bool.or_true, Bool.or_false, Bool.true_or, Bool.false_or, Bool.and_true, Bool.true_and, Bool.and_false, Bool.false_and, Bool.false_eq_true, Int.lt_irrefl, Nat.reduceLeDiff, Nat.reduceLT, Nat.reduceAdd, Int.reduceLT, Int.reduceLE, Int.reduceNeg, Int.reduceAdd, Int.reduceEq, Int.cast_ofNat_Int, id, pow39, List.map_nil, List.map_cons, ad, h1, e]
/-! ### changed values -/
theorem ch_eq (k : Nat) : f_law_changed (k + 1) = runBody 2 2 (m_law_changed (f_law_changed k)) := rfl
def ChOk (q : D → Prop) (g : FnM) (x : D) (c : Nat) : Prop := ∀ (st : List D) (m : Nat), St st m → m + c ≤ 900000 → ∃ st' d m', g [.o st, .d x] = .ok (.v d) [.o st', .d x] ∧ St st' m' ∧ m' ≤ m + c ∧ q d
theorem ch_g (k : Nat) (g : Gr) : ChOk Leaf (f_law_changed (k + 1)) (gD g) 10 := fun st m h hm => by
  obtain ⟨r1, st1, h1, k1, k2, hy1⟩ := draw h 2
  have i1 : isiD [gD g, .rf (.ty "tuple")] = some (.bl false) := rfl
  have i2 : isiD [gD g, .rf (.ty "int")] = some (.bl false) := rfl
  have i3 : isiD [gD g, .rf (.ty "str")] = some (.bl true) := rfl
  by_cases z : r1 = 0
  · subst z
    obtain ⟨r2, st2, h2, k3, k4, hy2⟩ := draw hy1 8
    have ad : addD (gD g) (.str (Str.ofString "a")) = some (.str (nmG g ++ Str.ofString "a")) := by cases g <;> rfl
    have lf : ∀ d ∈ [D.str (Str.ofString "a"), .str (Str.ofString "b"), .str (Str.ofString "ba"), .str (Str.ofString "z"), .str (Str.ofString "paid"), .str (Str.ofString "dear"), .str (Str.ofString "free"), .str (nmG g ++ Str.ofString "a")], Leaf d := by
      simp only [List.forall_mem_cons]
      refine ⟨lf_a, ?_, ?_, ?_, leaf_g .paid, leaf_g .dear, leaf_g .free, ?_, fun x hx => (List.not_mem_nil hx).elim⟩
      · exact leaf_no (by decide +kernel) (by kernel_rfl) (leafx_no (by decide +kernel) (by kernel_rfl) (by kernel_rfl))
      · exact leaf_no (by decide +kernel) (by kernel_rfl) (leafx_no (by decide +kernel) (by kernel_rfl) (by kernel_rfl))
      · exact leaf_no (by decide +kernel) (by kernel_rfl) (leafx_no (by decide +kernel) (by kernel_rfl) (by kernel_rfl))
      · cases g <;> exact leaf_no (by decide +kernel) (by kernel_rfl) (leafx_no (by decide +kernel) (by kernel_rfl) (by kernel_rfl))
    obtain ⟨d, hd, e⟩ := at_in [D.str (Str.ofString "a"), .str (Str.ofString "b"), .str (Str.ofString "ba"), .str (Str.ofString "z"), .str (Str.ofString "paid"), .str (Str.ofString "dear"), .str (Str.ofString "free"), .str (nmG g ++ Str.ofString "a")] k3 k4
    refine ⟨st2, d, _, ?_, hy2, by omega, lf d hd⟩
    simp only [ch_eq, m_law_changed, EV, evn, evw, evh, evro, evshy, ↓reduceIte, decide_true, decide_false, decide_eq_true_eq, Bool.not_true, Bool.not_false, Bool.or_true, Bool.or_false, Bool.true_or, Bool.false_or, Bool.and_true, Bool.true_and, Bool.and_false, Bool.false_and, Bool.false_eq_true, Int.lt_irrefl, Nat.reduceLeDiff, Nat.reduceLT, Nat.reduceAdd, Int.reduceLT, Int.reduceLE, Int.reduceNeg, Int.reduceAdd, Int.reduceEq, Int.cast_ofNat_Int, id, i1, i2, i3, h1, h2, ad, e]
  · obtain ⟨st2, d, ho, hy2, q⟩ := other_ok hy1 (by omega)
    refine ⟨st2, d, _, ?_, hy2, by omega, others_leaf d q⟩
    simp only [ch_eq, m_law_changed, EV, evn, evw, evh, evro, evshy, ↓reduceIte, decide_true, decide_false, decide_eq_true_eq, Bool.not_true, Bool.not_false, Bool.or_true, Bool.or_false, Bool.true_or, Bool.false_or, Bool.and_true, Bool.true_and, Bool.and_false, Bool.false_and, Bool.false_eq_true, Int.lt_irrefl, Nat.reduceLeDiff, Nat.reduceLT, Nat.reduceAdd, Int.reduceLT, Int.reduceLE, Int.reduceNeg, Int.reduceAdd, Int.reduceEq, Int.cast_ofNat_Int, id, i1, i2, i3, h1, z, ho]
theorem cut_le (xs : List D) (lo hi : Option Int) : (cutD xs lo hi).length ≤ xs.length := (cut_sub xs lo hi).length_le
theorem add_tup {xs ys : List D} (h : xs.length + ys.length ≤ 100000) : addD (.tup xs) (.tup ys) = some (.tup (xs ++ ys)) := if_pos h
theorem ne_nil {xs : List D} (h : shape 60 (.tup xs) = true) : neD (.tup xs) (.tup []) = some (.bl (!xs.isEmpty)) := by
  have s : (shape 60 (.tup xs) && shape 60 (.tup [])) = true := by rw [h]; rfl
  unfold neD
  rw [if_pos s]
  cases xs <;> rfl
/-- parts of xs, and one more that is as good -/
structure Up (q q' : D → Prop) : Prop where
  tup : ∀ xs, xs.length ≤ 200 → (∀ x ∈ xs, q x) → q' (.tup xs)
  oth : ∀ d ∈ others, q' d
theorem ch_tup {q q' : D → Prop} (U : Up q q') (k : Nat) {xs : List D} (sh : shape 60 (.tup xs) = true) (l : xs.length ≤ 60) (hq : ∀ x ∈ xs, q x) {c : Nat} (ih : ∀ x ∈ xs, ChOk q (f_law_changed k) x c) : ChOk q' (f_law_changed (k + 1)) (.tup xs) (c + 10) := fun st m h hm => by
  have ne := ne_nil sh
  by_cases e0 : xs = []
  · subst e0
    obtain ⟨st2, d, ho, hy2, q⟩ := other_ok h (by omega)
    refine ⟨st2, d, _, ?_, hy2, by omega, U.oth d q⟩
    simp only [ch_eq, m_law_changed, EV, evn, evw, evh, evro, evshy, ↓reduceIte, decide_true, decide_false, decide_eq_true_eq, Bool.not_true, Bool.not_false, Bool.or_true, Bool.or_false, Bool.true_or, Bool.false_or, Bool.and_true, Bool.true_and, Bool.and_false, Bool.false_and, Bool.false_eq_true, Int.lt_irrefl, Nat.reduceLeDiff, Nat.reduceLT, Nat.reduceAdd, Int.reduceLT, Int.reduceLE, Int.reduceNeg, Int.reduceAdd, Int.reduceEq, Int.cast_ofNat_Int, id, ne, List.isEmpty_nil, ho]
  · have l0 : 0 < xs.length := List.length_pos_iff.mpr e0
    have ee : xs.isEmpty = false := by cases xs <;> first | exact absurd rfl e0 | rfl
    obtain ⟨r1, st1, h1, k1, k2, hy1⟩ := draw h 4
    by_cases z : 0 < r1
    · obtain ⟨a, st2, h2, k3, k4, hy2⟩ := draw hy1 (xs.length : Nat)
      obtain ⟨w, st3, h3, k5, k6, hy3⟩ := draw hy2 6
      have hs : ∀ lo hi, ∀ x ∈ cutD xs lo hi, q x := fun lo hi x hx => hq x ((cut_sub _ _ _).subset hx)
      have cl := cut_le xs
      have sum : ∀ {A B : List D}, (∀ x ∈ A, q x) → (∀ x ∈ B, q x) → ∀ x ∈ A ++ B, q x := fun h k x hx => by
        rcases List.mem_append.mp hx with hx | hx
        · exact h x hx
        · exact k x hx
      by_cases w0 : w = 0
      · have ad := add_tup (xs := cutD xs none (some a)) (ys := cutD xs (some (a + 1)) none) (by have := cl none (some a); have := cl (some (a + 1)) none; omega)
        refine ⟨st3, _, _, ?_, hy3, by omega, U.tup _ (by rw [List.length_append]; have := cl none (some a); have := cl (some (a + 1)) none; omega) (sum (hs none (some a)) (hs (some (a + 1)) none))⟩
        simp only [ch_eq, m_law_changed, EV, evn, evw, evh, evro, evshy, ↓reduceIte, decide_true, decide_false, decide_eq_true_eq, Bool.not_true, Bool.not_false, Bool.or_true, Bool.or_false, Bool.true_or, Bool.false_or, Bool.and_true, Bool.true_and, Bool.and_false, Bool.false_and, Bool.false_eq_true, Int.lt_irrefl, Nat.reduceLeDiff, Nat.reduceLT, Nat.reduceAdd, Int.reduceLT, Int.reduceLE, Int.reduceNeg, Int.reduceAdd, Int.reduceEq, Int.cast_ofNat_Int, id, ne, ee, h1, h2, h3, z, w0, slt, ad]
      · by_cases w1 : w = 1
        · have a1 := cl none (some a)
          have a2 := cl (some a) (some (a + 1))
          have a3 := cl (some a) none
          have ad := add_tup (xs := cutD xs none (some a)) (ys := cutD xs (some a) (some (a + 1))) (by omega)
          have ad2 := add_tup (xs := cutD xs none (some a) ++ cutD xs (some a) (some (a + 1))) (ys := cutD xs (some a) none) (by rw [List.length_append]; omega)
          refine ⟨st3, _, _, ?_, hy3, by omega, U.tup _ (by rw [List.length_append, List.length_append]; omega) (sum (sum (hs none (some a)) (hs (some a) (some (a + 1)))) (hs (some a) none))⟩
          simp only [ch_eq, m_law_changed, EV, evn, evw, evh, evro, evshy, ↓reduceIte, decide_true, decide_false, decide_eq_true_eq, Bool.not_true, Bool.not_false, Bool.or_true, Bool.or_false, Bool.true_or, Bool.false_or, Bool.and_true, Bool.true_and, Bool.and_false, Bool.false_and, Bool.false_eq_true, Int.lt_irrefl, Nat.reduceLeDiff, Nat.reduceLT, Nat.reduceAdd, Int.reduceLT, Int.reduceLE, Int.reduceNeg, Int.reduceAdd, Int.reduceEq, Int.cast_ofNat_Int, id, ne, ee, h1, h2, h3, z, w0, w1, slt, ad, ad2]
        · obtain ⟨x, hx, ex⟩ := at_in xs k3 k4
          obtain ⟨st4, d, m4, h4, hy4, hm4, q4⟩ := ih x hx st3 _ hy3 (by omega)
          have a1 := cl none (some a)
          have a3 := cl (some (a + 1)) none
          have ad := add_tup (xs := cutD xs none (some a)) (ys := [d]) (by rw [List.length_singleton]; omega)
          have ad2 := add_tup (xs := cutD xs none (some a) ++ [d]) (ys := cutD xs (some (a + 1)) none) (by rw [List.length_append, List.length_singleton]; omega)
          refine ⟨st4, .tup (cutD xs none (some a) ++ [d] ++ cutD xs (some (a + 1)) none), _, ?_, hy4, by omega, U.tup _ (by rw [List.length_append, List.length_append, List.length_singleton]; omega) (sum (sum (hs none (some a)) (fun y hy => by rw [List.mem_singleton.mp hy]; exact q4)) (hs (some (a + 1)) none))⟩
          simp only [ch_eq, m_law_changed, EV, evn, evw, evh, evro, evshy, ↓reduceIte, decide_true, decide_false, decide_eq_true_eq, Bool.not_true, Bool.not_false, Bool.or_true, Bool.or_false, Bool.true_or, Bool.false_or, Bool.and_true, Bool.true_and, Bool.and_false, Bool.false_and, Bool.false_eq_true, Int.lt_irrefl, Nat.reduceLeDiff, Nat.reduceLT, Nat.reduceAdd, Int.reduceLT, Int.reduceLE, Int.reduceNeg, Int.reduceAdd, Int.reduceEq, Int.cast_ofNat_Int, id, ne, ee, h1, h2, h3, h4, z, w0, w1, slt, ex, ad, ad2]
    · obtain ⟨st2, d, ho, hy2, q⟩ := other_ok hy1 (by omega)
      refine ⟨st2, d, _, ?_, hy2, by omega, U.oth d q⟩
      simp only [ch_eq, m_law_changed, EV, evn, evw, evh, evro, evshy, ↓reduceIte, decide_true, decide_false, decide_eq_true_eq, Bool.not_true, Bool.not_false, Bool.or_true, Bool.or_false, Bool.true_or, Bool.false_or, Bool.and_true, Bool.true_and, Bool.and_false, Bool.false_and, Bool.false_eq_true, Int.lt_irrefl, Nat.reduceLeDiff, Nat.reduceLT, Nat.reduceAdd, Int.reduceLT, Int.reduceLE, Int.reduceNeg, Int.reduceAdd, Int.reduceEq, Int.cast_ofNat_Int, id, ne, ee, h1, z, ho]
theorem up_row : Up Leaf RowQ := ⟨fun xs l h => ⟨trivial, fun ys e => by injection e with e; subst e; exact ⟨l, h⟩⟩, others_row⟩
theorem up_tab : Up RowQ TabQ := ⟨fun xs l h => ⟨trivial, fun ys e => by injection e with e; subst e; exact ⟨l, h⟩⟩, others_tab⟩
theorem ch_row {n : Nat} (hn : n ≤ 8) (f : Nat → Gr) : ChOk RowQ (f_law_changed 3) (rowD n f) 20 := by
  refine ch_tup up_row 2 (shape_row 59 n f) (by rw [len_map]; omega) (c := 10) (fun x hx => ?_) fun x hx => ?_
  · obtain ⟨j, _, rfl⟩ := List.mem_map.mp hx
    exact leaf_g _
  · obtain ⟨j, _, rfl⟩ := List.mem_map.mp hx
    exact ch_g 1 _
theorem ch_tab {n : Nat} (hn : n ≤ 8) (t : Gr.Tb) : ChOk TabQ (f_law_changed 4) (tabD n t) 30 := by
  refine ch_tup up_tab 3 (shape_tab 58 n t) (by rw [len_map]; omega) (c := 20) (fun x hx => ?_) fun x hx => ?_
  · exact ((tab_q hn t).all _ rfl).2 x hx
  · obtain ⟨j, _, rfl⟩ := List.mem_map.mp hx
    exact ch_row hn _
end Pl
namespace Pl
open PySem PySem.Spec PyProof.Rows L2
/-! ### k19's looks -/
theorem sq1 {v w s2 : Slot} : ∀ (L : List D) (s3 : Slot), (∀ y ∈ L, Leaf y) → ∃ s3', forL (nmD 3) b_law_is_a_table_1 L [v, w, s2, s3] = .ok (if L.all isG = true then .nx else .rt (.bl false)) [v, w, s2, s3']
  | [], s3, _ => ⟨s3, rfl⟩
  | y :: L, s3, hL => by
    obtain ⟨r1, r2, r3⟩ := (hL y List.mem_cons_self).x
    unfold namesD at r2
    cases q : isG y with
    | true =>
      rw [q] at r2
      have r4 : isS y = true := by
        cases k : isS y with
        | true => rfl
        | false => rw [r3 k] at q; cases q
      rw [r4] at r1
      obtain ⟨s3', e⟩ := sq1 (v := v) (w := w) (s2 := s2) L (.d y) fun x hx => hL x (List.mem_cons_of_mem _ hx)
      refine ⟨s3', ?_⟩
      rw [List.all_cons, q, Bool.true_and, ← e]
      refine forL_rec (ρ1 := [v, w, s2, .d y]) rfl ?_
      simp only [b_law_is_a_table_1, EV, evn, evw, evh, evro, evshy, ↓reduceIte, decide_true, decide_false, decide_eq_true_eq, Bool.not_true, Bool.not_false, Bool.or_true, Bool.or_false, Bool.true_or, Bool.false_or, Bool.and_true, Bool.true_and, Bool.and_false, Bool.false_and, Bool.false_eq_true, Int.lt_irrefl, Nat.reduceLeDiff, Nat.reduceLT, Nat.reduceAdd, Int.reduceLT, Int.reduceLE, Int.reduceNeg, Int.reduceAdd, Int.reduceEq, Int.cast_ofNat_Int, id, gNone, gDear, gPaid, gFree, gRest, r1, r2]
    | false =>
      rw [q] at r2
      refine ⟨.d y, ?_⟩
      rw [List.all_cons, q, Bool.false_and]
      cases k : isS y with
      | true =>
        rw [k] at r1
        simp only [b_law_is_a_table_1, EV, evn, evw, evh, evro, evshy, ↓reduceIte, decide_true, decide_false, decide_eq_true_eq, Bool.not_true, Bool.not_false, Bool.or_true, Bool.or_false, Bool.true_or, Bool.false_or, Bool.and_true, Bool.true_and, Bool.and_false, Bool.false_and, Bool.false_eq_true, Int.lt_irrefl, Nat.reduceLeDiff, Nat.reduceLT, Nat.reduceAdd, Int.reduceLT, Int.reduceLE, Int.reduceNeg, Int.reduceAdd, Int.reduceEq, Int.cast_ofNat_Int, id, gNone, gDear, gPaid, gFree, gRest, r1, r2]
      | false =>
        rw [k] at r1
        simp only [b_law_is_a_table_1, EV, evn, evw, evh, evro, evshy, ↓reduceIte, decide_true, decide_false, decide_eq_true_eq, Bool.not_true, Bool.not_false, Bool.or_true, Bool.or_false, Bool.true_or, Bool.false_or, Bool.and_true, Bool.true_and, Bool.and_false, Bool.false_and, Bool.false_eq_true, Int.lt_irrefl, Nat.reduceLeDiff, Nat.reduceLT, Nat.reduceAdd, Int.reduceLT, Int.reduceLE, Int.reduceNeg, Int.reduceAdd, Int.reduceEq, Int.cast_ofNat_Int, id, gNone, gDear, gPaid, gFree, gRest, r1]
theorem sq2 {n : Nat} {v : Slot} : ∀ (L : List D) (s2 s3 : Slot), (∀ x ∈ L, RowQ x) → ∃ s2' s3', forL (nmD 2) b_law_is_a_table_2 L [.d (.int (n : Nat)), v, s2, s3] = .ok (if L.all (rowOk n) = true then .nx else .rt (.bl false)) [.d (.int (n : Nat)), v, s2', s3']
  | [], s2, s3, _ => ⟨s2, s3, rfl⟩
  | x :: L, s2, s3, hL => by
    have hx := hL x List.mem_cons_self
    have isi := isi_kn hx.kn
    have stop : rowOk n x = false → (∃ s2' s3', b_law_is_a_table_2 [.d (.int (n : Nat)), v, .d x, s3] = .ok (.rt (.bl false)) [.d (.int (n : Nat)), v, s2', s3']) → ∃ s2' s3', forL (nmD 2) b_law_is_a_table_2 (x :: L) [.d (.int (n : Nat)), v, s2, s3] = .ok (if (x :: L).all (rowOk n) = true then .nx else .rt (.bl false)) [.d (.int (n : Nat)), v, s2', s3'] := fun q ⟨s2', s3', e⟩ => by
      refine ⟨s2', s3', ?_⟩
      rw [List.all_cons, q, Bool.false_and]
      simp only [EV, evn, evw, evh, evro, evshy, ↓reduceIte, decide_true, decide_false, decide_eq_true_eq, Bool.not_true, Bool.not_false, Bool.or_true, Bool.or_false, Bool.true_or, Bool.false_or, Bool.and_true, Bool.true_and, Bool.and_false, Bool.false_and, Bool.false_eq_true, Int.lt_irrefl, Nat.reduceLeDiff, Nat.reduceLT, Nat.reduceAdd, Int.reduceLT, Int.reduceLE, Int.reduceNeg, Int.reduceAdd, Int.reduceEq, Int.cast_ofNat_Int, id, e]
    by_cases ht : isT x = true
    · obtain ⟨ys, rfl⟩ : ∃ ys, x = .tup ys := by cases x <;> first | exact ⟨_, rfl⟩ | cases ht
      have hys := hx.all ys rfl
      by_cases hl : ys.length = n
      · obtain ⟨s3', e⟩ := sq1 (v := .d (.int (n : Nat))) (w := v) (s2 := .d (.tup ys)) ys s3 hys.2
        cases q : ys.all isG with
        | true =>
          rw [q] at e
          obtain ⟨s2'', s3'', e2⟩ := sq2 (n := n) (v := v) L (.d (.tup ys)) s3' fun x hx => hL x (List.mem_cons_of_mem _ hx)
          refine ⟨s2'', s3'', ?_⟩
          have ok : rowOk n (.tup ys) = true := by
            show (decide (ys.length = n) && ys.all isG) = true
            rw [q, decide_eq_true hl]; rfl
          rw [List.all_cons, ok, Bool.true_and, ← e2]
          refine forL_rec (ρ1 := [.d (.int (n : Nat)), v, .d (.tup ys), s3]) rfl ?_
          simp only [b_law_is_a_table_2, EV, evn, evw, evh, evro, evshy, ↓reduceIte, decide_true, decide_false, decide_eq_true_eq, Bool.not_true, Bool.not_false, Bool.or_true, Bool.or_false, Bool.true_or, Bool.false_or, Bool.and_true, Bool.true_and, Bool.and_false, Bool.false_and, Bool.false_eq_true, Int.lt_irrefl, Nat.reduceLeDiff, Nat.reduceLT, Nat.reduceAdd, Int.reduceLT, Int.reduceLE, Int.reduceNeg, Int.reduceAdd, Int.reduceEq, Int.cast_ofNat_Int, id, hl, e]
        | false =>
          rw [q] at e
          refine stop (by show (decide (ys.length = n) && ys.all isG) = false; rw [q, Bool.and_false]) ⟨.d (.tup ys), s3', ?_⟩
          simp only [b_law_is_a_table_2, EV, evn, evw, evh, evro, evshy, ↓reduceIte, decide_true, decide_false, decide_eq_true_eq, Bool.not_true, Bool.not_false, Bool.or_true, Bool.or_false, Bool.true_or, Bool.false_or, Bool.and_true, Bool.true_and, Bool.and_false, Bool.false_and, Bool.false_eq_true, Int.lt_irrefl, Nat.reduceLeDiff, Nat.reduceLT, Nat.reduceAdd, Int.reduceLT, Int.reduceLE, Int.reduceNeg, Int.reduceAdd, Int.reduceEq, Int.cast_ofNat_Int, id, hl, e]
      · refine stop (by show (decide (ys.length = n) && ys.all isG) = false; rw [decide_eq_false hl]; rfl) ⟨.d (.tup ys), s3, ?_⟩
        have hl' : ¬ ((ys.length : Nat) : Int) = (n : Nat) := by omega
        simp only [b_law_is_a_table_2, EV, evn, evw, evh, evro, evshy, ↓reduceIte, decide_true, decide_false, decide_eq_true_eq, Bool.not_true, Bool.not_false, Bool.or_true, Bool.or_false, Bool.true_or, Bool.false_or, Bool.and_true, Bool.true_and, Bool.and_false, Bool.false_and, Bool.false_eq_true, Int.lt_irrefl, Nat.reduceLeDiff, Nat.reduceLT, Nat.reduceAdd, Int.reduceLT, Int.reduceLE, Int.reduceNeg, Int.reduceAdd, Int.reduceEq, Int.cast_ofNat_Int, id, hl']
    · have ht : isT x = false := by simpa using ht
      refine stop (by cases x <;> first | rfl | cases ht) ⟨.d x, s3, ?_⟩
      rw [ht] at isi
      simp only [b_law_is_a_table_2, EV, evn, evw, evh, evro, evshy, ↓reduceIte, decide_true, decide_false, decide_eq_true_eq, Bool.not_true, Bool.not_false, Bool.or_true, Bool.or_false, Bool.true_or, Bool.false_or, Bool.and_true, Bool.true_and, Bool.and_false, Bool.false_and, Bool.false_eq_true, Int.lt_irrefl, Nat.reduceLeDiff, Nat.reduceLT, Nat.reduceAdd, Int.reduceLT, Int.reduceLE, Int.reduceNeg, Int.reduceAdd, Int.reduceEq, Int.cast_ofNat_Int, id, isi]
theorem isa_ok {n : Nat} {v : D} (h : TabQ v) : f_law_is_a_table [.d (.int (n : Nat)), .d v] = .ok (.v (.bl (tblOk n v))) [.d (.int (n : Nat)), .d v] := by
  have isi := isi_kn h.kn
  by_cases ht : isT v = true
  · obtain ⟨xs, rfl⟩ : ∃ ys, v = .tup ys := by cases v <;> first | exact ⟨_, rfl⟩ | cases ht
    have hxs := h.all xs rfl
    by_cases hl : xs.length = n
    · obtain ⟨s2', s3', e⟩ := sq2 (n := n) (v := .d (.tup xs)) xs .u .u hxs.2
      have ok : tblOk n (.tup xs) = xs.all (rowOk n) := by
        show (decide (xs.length = n) && xs.all (rowOk n)) = _
        rw [decide_eq_true hl]; rfl
      rw [ok]
      cases q : xs.all (rowOk n) with
      | true =>
        rw [q] at e
        simp only [f_law_is_a_table, q_law_is_a_table, EV, evn, evw, evh, evro, evshy, ↓reduceIte, decide_true, decide_false, decide_eq_true_eq, Bool.not_true, Bool.not_false, Bool.or_true, Bool.or_false, Bool.true_or, Bool.false_or, Bool.and_true, Bool.true_and, Bool.and_false, Bool.false_and, Bool.false_eq_true, Int.lt_irrefl, Nat.reduceLeDiff, Nat.reduceLT, Nat.reduceAdd, Int.reduceLT, Int.reduceLE, Int.reduceNeg, Int.reduceAdd, Int.reduceEq, Int.cast_ofNat_Int, id, hl, e]
      | false =>
        rw [q] at e
        simp only [f_law_is_a_table, q_law_is_a_table, EV, evn, evw, evh, evro, evshy, ↓reduceIte, decide_true, decide_false, decide_eq_true_eq, Bool.not_true, Bool.not_false, Bool.or_true, Bool.or_false, Bool.true_or, Bool.false_or, Bool.and_true, Bool.true_and, Bool.and_false, Bool.false_and, Bool.false_eq_true, Int.lt_irrefl, Nat.reduceLeDiff, Nat.reduceLT, Nat.reduceAdd, Int.reduceLT, Int.reduceLE, Int.reduceNeg, Int.reduceAdd, Int.reduceEq, Int.cast_ofNat_Int, id, hl, e]
    · have ok : tblOk n (.tup xs) = false := by
        show (decide (xs.length = n) && xs.all (rowOk n)) = false
        rw [decide_eq_false hl]; rfl
      have hl' : ¬ ((xs.length : Nat) : Int) = (n : Nat) := by omega
      rw [ok]
      simp only [f_law_is_a_table, q_law_is_a_table, EV, evn, evw, evh, evro, evshy, ↓reduceIte, decide_true, decide_false, decide_eq_true_eq, Bool.not_true, Bool.not_false, Bool.or_true, Bool.or_false, Bool.true_or, Bool.false_or, Bool.and_true, Bool.true_and, Bool.and_false, Bool.false_and, Bool.false_eq_true, Int.lt_irrefl, Nat.reduceLeDiff, Nat.reduceLT, Nat.reduceAdd, Int.reduceLT, Int.reduceLE, Int.reduceNeg, Int.reduceAdd, Int.reduceEq, Int.cast_ofNat_Int, id, hl']
  · have ht : isT v = false := by simpa using ht
    have ok : tblOk n v = false := by cases v <;> first | rfl | cases ht
    rw [ht] at isi
    rw [ok]
    simp only [f_law_is_a_table, q_law_is_a_table, EV, evn, evw, evh, evro, evshy, ↓reduceIte, decide_true, decide_false, decide_eq_true_eq, Bool.not_true, Bool.not_false, Bool.or_true, Bool.or_false, Bool.true_or, Bool.false_or, Bool.and_true, Bool.true_and, Bool.and_false, Bool.false_and, Bool.false_eq_true, Int.lt_irrefl, Nat.reduceLeDiff, Nat.reduceLT, Nat.reduceAdd, Int.reduceLT, Int.reduceLE, Int.reduceNeg, Int.reduceAdd, Int.reduceEq, Int.cast_ofNat_Int, id, isi]
theorem between_ok {n : Nat} (h0 : 1 ≤ n) (hn : n ≤ 8) : f_is_between [.d (.int (n : Nat)), .d (.int 1), .d (.int 8)] = .ok (.v (.bl true)) [.d (.int (n : Nat)), .d (.int 1), .d (.int 8)] := by
  have a : (1 : Int) ≤ (n : Nat) := by omega
  have b : ((n : Nat) : Int) ≤ 8 := by omega
  have t : typeD [.int (n : Nat)] = some (.rf (.ty "int")) := rfl
  have q : eqTyD (.rf (.ty "int")) (.rf (.ty "int")) = some (.bl true) := by kernel_rfl
  simp only [f_is_between, m_is_between, EV, evn, evw, evh, evro, evshy, ↓reduceIte, decide_true, decide_false, decide_eq_true_eq, Bool.not_true, Bool.not_false, Bool.or_true, Bool.or_false, Bool.true_or, Bool.false_or, Bool.and_true, Bool.true_and, Bool.and_false, Bool.false_and, Bool.false_eq_true, Int.lt_irrefl, Nat.reduceLeDiff, Nat.reduceLT, Nat.reduceAdd, Int.reduceLT, Int.reduceLE, Int.reduceNeg, Int.reduceAdd, Int.reduceEq, Int.cast_ofNat_Int, id, a, b, t, q]
theorem istab_ok {n : Nat} (h0 : 1 ≤ n) (hn : n ≤ 8) {v : D} (h : TabQ v) : f_is_table [.d (.int (n : Nat)), .d v] = .ok (.v (.bl (tblOk n v))) [.d (.int (n : Nat)), .d v] := by
  have f := form_ok hn h
  have b := between_ok h0 hn
  cases k : tblOk n v with
  | true =>
    rw [k] at f
    simp only [f_is_table, m_is_table, EV, evn, evw, evh, evro, evshy, ↓reduceIte, decide_true, decide_false, decide_eq_true_eq, Bool.not_true, Bool.not_false, Bool.or_true, Bool.or_false, Bool.true_or, Bool.false_or, Bool.and_true, Bool.true_and, Bool.and_false, Bool.false_and, Bool.false_eq_true, Int.lt_irrefl, Nat.reduceLeDiff, Nat.reduceLT, Nat.reduceAdd, Int.reduceLT, Int.reduceLE, Int.reduceNeg, Int.reduceAdd, Int.reduceEq, Int.cast_ofNat_Int, id, f, b]
    rfl
  | false =>
    rw [k] at f
    simp only [f_is_table, m_is_table, EV, evn, evw, evh, evro, evshy, ↓reduceIte, decide_true, decide_false, decide_eq_true_eq, Bool.not_true, Bool.not_false, Bool.or_true, Bool.or_false, Bool.true_or, Bool.false_or, Bool.and_true, Bool.true_and, Bool.and_false, Bool.false_and, Bool.false_eq_true, Int.lt_irrefl, Nat.reduceLeDiff, Nat.reduceLT, Nat.reduceAdd, Int.reduceLT, Int.reduceLE, Int.reduceNeg, Int.reduceAdd, Int.reduceEq, Int.cast_ofNat_Int, id, f, b]
    rfl
end Pl
namespace Pl
open PySem PySem.Spec PyProof.Rows L2
/-! ### products of one, two, three and five -/
section
variable {n : Nat} (h0 : 1 ≤ n) (hn : n ≤ 8)
include h0 hn
theorem prod1 (s : Gr.Tb) : f_product [.d (tabD n s)] = .ok (.v (tabD n s)) [.d (tabD n s), .d (.tup [])] := by
  have f := first_ok h0 hn s
  have b := table_from_ok hn s
  have d : runStar.dataOf ([] : List Slot) = some [] := rfl
  have w : ([] : List D).length ≤ 100000 := by decide
  simp only [f_product, q_product, EV, evn, evw, evh, evro, evshy, ↓reduceIte, decide_true, decide_false, decide_eq_true_eq, Bool.not_true, Bool.not_false, Bool.or_true, Bool.or_false, Bool.true_or, Bool.false_or, Bool.and_true, Bool.true_and, Bool.and_false, Bool.false_and, Bool.false_eq_true, Int.lt_irrefl, Nat.reduceLeDiff, Nat.reduceLT, Nat.reduceAdd, Int.reduceLT, Int.reduceLE, Int.reduceNeg, Int.reduceAdd, Int.reduceEq, Int.cast_ofNat_Int, id, d, w, f, b, List.all_nil]
theorem prod3 (s t u : Gr.Tb) : f_product [.d (tabD n s), .d (tabD n t), .d (tabD n u)] = .ok (.v (tabD n (Gr.times n (Gr.times n s t) u))) [.d (tabD n s), .d (.tup [tabD n t, tabD n u])] := by
  have f := first_ok h0 hn s
  have g := packed_ok hn
  have l := len_pks n n s
  have p := product_ok hn
  have b := table_from_ok hn (Gr.times n (Gr.times n s t) u)
  have d : runStar.dataOf [Slot.d (tabD n t), .d (tabD n u)] = some [tabD n t, tabD n u] := rfl
  have o : ([Slot.d (tabD n t), .d (tabD n u)].all fun s => !s.own) = true := rfl
  have w : ∀ x y : D, [x, y].length ≤ 100000 := fun x y => by show 2 ≤ 100000; decide
  simp only [f_product, q_product, EV, evn, evw, evh, evro, evshy, ↓reduceIte, decide_true, decide_false, decide_eq_true_eq, Bool.not_true, Bool.not_false, Bool.or_true, Bool.or_false, Bool.true_or, Bool.false_or, Bool.and_true, Bool.true_and, Bool.and_false, Bool.false_and, Bool.false_eq_true, Int.lt_irrefl, Nat.reduceLeDiff, Nat.reduceLT, Nat.reduceAdd, Int.reduceLT, Int.reduceLE, Int.reduceNeg, Int.reduceAdd, Int.reduceEq, Int.cast_ofNat_Int, id, d, o, w, f, e_product_1, l, g, b_product_2, p, b, List.cons_append, List.nil_append]
theorem prod5 (s t u v x : Gr.Tb) : f_product [.d (tabD n s), .d (tabD n t), .d (tabD n u), .d (tabD n v), .d (tabD n x)] = .ok (.v (tabD n (Gr.times n (Gr.times n (Gr.times n (Gr.times n s t) u) v) x))) [.d (tabD n s), .d (.tup [tabD n t, tabD n u, tabD n v, tabD n x])] := by
  have f := first_ok h0 hn s
  have g := packed_ok hn
  have l := len_pks n n s
  have p := product_ok hn
  have b := table_from_ok hn (Gr.times n (Gr.times n (Gr.times n (Gr.times n s t) u) v) x)
  have d : runStar.dataOf [Slot.d (tabD n t), .d (tabD n u), .d (tabD n v), .d (tabD n x)] = some [tabD n t, tabD n u, tabD n v, tabD n x] := rfl
  have o : ([Slot.d (tabD n t), .d (tabD n u), .d (tabD n v), .d (tabD n x)].all fun s => !s.own) = true := rfl
  have w : ∀ x y z k : D, [x, y, z, k].length ≤ 100000 := fun x y z k => by show 4 ≤ 100000; decide
  simp only [f_product, q_product, EV, evn, evw, evh, evro, evshy, ↓reduceIte, decide_true, decide_false, decide_eq_true_eq, Bool.not_true, Bool.not_false, Bool.or_true, Bool.or_false, Bool.true_or, Bool.false_or, Bool.and_true, Bool.true_and, Bool.and_false, Bool.false_and, Bool.false_eq_true, Int.lt_irrefl, Nat.reduceLeDiff, Nat.reduceLT, Nat.reduceAdd, Int.reduceLT, Int.reduceLE, Int.reduceNeg, Int.reduceAdd, Int.reduceEq, Int.cast_ofNat_Int, id, d, o, w, f, e_product_1, l, g, b_product_2, p, b, List.cons_append, List.nil_append]
theorem prod_no2 (s : Gr.Tb) {v : D} (h : TabQ v) (k : tblOk n v = false) : f_product [.d (tabD n s), .d v] = .ex ⟨Str.ofString "InvalidTable", none⟩ [.d (tabD n s), .d (.tup [v])] := by
  have f := first_ok h0 hn s
  have g := packed_no hn h k
  have l := len_pks n n s
  have d : runStar.dataOf [Slot.d v] = some [v] := rfl
  have o : ([Slot.d v].all fun s => !s.own) = true := rfl
  have w : ∀ x : D, [x].length ≤ 100000 := fun x => by show 1 ≤ 100000; decide
  simp only [f_product, q_product, EV, evn, evw, evh, evro, evshy, ↓reduceIte, decide_true, decide_false, decide_eq_true_eq, Bool.not_true, Bool.not_false, Bool.or_true, Bool.or_false, Bool.true_or, Bool.false_or, Bool.and_true, Bool.true_and, Bool.and_false, Bool.false_and, Bool.false_eq_true, Int.lt_irrefl, Nat.reduceLeDiff, Nat.reduceLT, Nat.reduceAdd, Int.reduceLT, Int.reduceLE, Int.reduceNeg, Int.reduceAdd, Int.reduceEq, Int.cast_ofNat_Int, id, d, o, w, f, e_product_1, l, g]
  rfl
theorem prod_no3 (s t : Gr.Tb) {v : D} (h : TabQ v) (k : tblOk n v = false) : f_product [.d (tabD n s), .d (tabD n t), .d v] = .ex ⟨Str.ofString "InvalidTable", none⟩ [.d (tabD n s), .d (.tup [tabD n t, v])] := by
  have f := first_ok h0 hn s
  have g := packed_no hn h k
  have g' := packed_ok hn
  have l := len_pks n n s
  have d : runStar.dataOf [Slot.d (tabD n t), .d v] = some [tabD n t, v] := rfl
  have o : ([Slot.d (tabD n t), .d v].all fun s => !s.own) = true := rfl
  have w : ∀ x y : D, [x, y].length ≤ 100000 := fun x y => by show 2 ≤ 100000; decide
  simp only [f_product, q_product, EV, evn, evw, evh, evro, evshy, ↓reduceIte, decide_true, decide_false, decide_eq_true_eq, Bool.not_true, Bool.not_false, Bool.or_true, Bool.or_false, Bool.true_or, Bool.false_or, Bool.and_true, Bool.true_and, Bool.and_false, Bool.false_and, Bool.false_eq_true, Int.lt_irrefl, Nat.reduceLeDiff, Nat.reduceLT, Nat.reduceAdd, Int.reduceLT, Int.reduceLE, Int.reduceNeg, Int.reduceAdd, Int.reduceEq, Int.cast_ofNat_Int, id, d, o, w, f, e_product_1, l, g, g']
  rfl
theorem is_idem_not {t : Gr.Tb} (I : ¬ Gr.Idem n t) : f_is_idempotent [.d (tabD n t)] = .ok (.v (.bl false)) [.d (tabD n t)] := by
  have f := first_ok h0 hn t
  have i := @idem_ok n hn t (.isFalse I)
  have i : f_is_packed_idempotent [.d (pksD n n t)] = .ok (.v (.bl false)) [.d (pksD n n t)] := i
  simp only [f_is_idempotent, m_is_idempotent, EV, evn, evw, evh, evro, evshy, ↓reduceIte, decide_true, decide_false, decide_eq_true_eq, Bool.not_true, Bool.not_false, Bool.or_true, Bool.or_false, Bool.true_or, Bool.false_or, Bool.and_true, Bool.true_and, Bool.and_false, Bool.false_and, Bool.false_eq_true, Int.lt_irrefl, Nat.reduceLeDiff, Nat.reduceLT, Nat.reduceAdd, Int.reduceLT, Int.reduceLE, Int.reduceNeg, Int.reduceAdd, Int.reduceEq, Int.cast_ofNat_Int, id, f, i]
end
theorem prod_no1 {v : D} (h : TabQ v) (k : ∀ m, 1 ≤ m → m ≤ 8 → tblOk m v = false) : f_product [.d v] = .ex ⟨Str.ofString "InvalidTable", none⟩ [.d v, .d (.tup [])] := by
  have f := first_no h k
  have d : runStar.dataOf ([] : List Slot) = some [] := rfl
  have w : ([] : List D).length ≤ 100000 := by decide
  simp only [f_product, q_product, EV, evn, evw, evh, evro, evshy, ↓reduceIte, decide_true, decide_false, decide_eq_true_eq, Bool.not_true, Bool.not_false, Bool.or_true, Bool.or_false, Bool.true_or, Bool.false_or, Bool.and_true, Bool.true_and, Bool.and_false, Bool.false_and, Bool.false_eq_true, Int.lt_irrefl, Nat.reduceLeDiff, Nat.reduceLT, Nat.reduceAdd, Int.reduceLT, Int.reduceLE, Int.reduceNeg, Int.reduceAdd, Int.reduceEq, Int.cast_ofNat_Int, id, d, w, f, List.all_nil]
theorem is_idem_no {v : D} (h : TabQ v) (k : ∀ m, 1 ≤ m → m ≤ 8 → tblOk m v = false) : f_is_idempotent [.d v] = .ex ⟨Str.ofString "InvalidTable", none⟩ [.d v] := by
  have f := first_no h k
  simp only [f_is_idempotent, m_is_idempotent, EV, evn, evw, evh, evro, evshy, ↓reduceIte, decide_true, decide_false, decide_eq_true_eq, Bool.not_true, Bool.not_false, Bool.or_true, Bool.or_false, Bool.true_or, Bool.false_or, Bool.and_true, Bool.true_and, Bool.and_false, Bool.false_and, Bool.false_eq_true, Int.lt_irrefl, Nat.reduceLeDiff, Nat.reduceLT, Nat.reduceAdd, Int.reduceLT, Int.reduceLE, Int.reduceNeg, Int.reduceAdd, Int.reduceEq, Int.cast_ofNat_Int, id, f]
  rfl
theorem neT {n : Nat} {s t : Gr.Tb} (h : Gr.Same n s t) : neD (tabD n s) (tabD n t) = some (.bl false) := @tab_ne n s t (.isTrue h)
theorem Rok.reprL {w : Nat} {xs : List D} (h : Rok w 60 (.lst xs)) (hw : w ≤ 6000) : reprD [.lst xs] = some (.str (reprT (.lst xs))) := by
  have l := PyData.shown_le 13 (by decide) _ h.lv
  have := h.wt
  have g : reprOk (.lst xs) = true := by
    show (shape 60 (.lst xs) && (toP (.lst xs)).showable && !(toP (.lst xs)).hasDict && decide ((toP (.lst xs)).shown.length ≤ 100000)) = true
    rw [h.sh, h.sw, h.nd, decide_eq_true (by omega)]
    rfl
  exact if_pos g
theorem rok_tabs {n : Nat} (h : n ≤ 8) {ts : List Gr.Tb} (l : ts.length ≤ 5) : reprD [.lst (ts.map fun t => tabD n t)] = some (.str (reprT (.lst (ts.map fun t => tabD n t)))) := by
  have g : ∀ g : Gr, Rok 10 0 (gD g) := fun g => (Rok.str (by cases g <;> decide +kernel) 0).up (by cases g <;> decide +kernel) (Nat.le_refl _)
  have r : ∀ f, Rok 88 1 (rowD n f) := fun f => (Rok.tup (xs := (List.range n).map fun j => gD (f j)) fun x hx => by
    obtain ⟨j, _, rfl⟩ := List.mem_map.mp hx
    exact g _).up (by rw [len_map]; omega) (Nat.le_refl _)
  have q : ∀ t, Rok 712 2 (tabD n t) := fun t => (Rok.tup (xs := (List.range n).map fun i => rowD n (t i)) fun x hx => by
    obtain ⟨j, _, rfl⟩ := List.mem_map.mp hx
    exact r _).up (by rw [len_map]; omega) (by decide)
  have p : Rok 4000 60 (.lst (ts.map fun t => tabD n t)) := (Rok.lst (xs := ts.map fun t => tabD n t) fun x hx => by
    obtain ⟨t, _, rfl⟩ := List.mem_map.mp hx
    exact q _).up (by rw [List.length_map]; omega) (by decide)
  exact p.reprL (by decide)
end Pl
namespace Pl
open PySem PySem.Spec PyProof.Rows L2
/-! ### the laws of products -/
def ρrt (st : List D) (n : Nat) (a b c d e f g h i j : D) (s3 s12 : Slot) : Env := [.o st, .d (.int (n : Nat)), .d a, s3, .d b, .d c, .d d, .d e, .d f, .d g, .d h, .d i, s12]
theorem right_loop {n : Nat} (h0 : 1 ≤ n) (hn : n ≤ 8) {st : List D} {a b c d e f g h i j : D} {s3 : Slot} : ∀ (ts : List Gr.Tb) (s12 : Slot), ∃ s12', forL (nmD 12) b_law_right_2 (ts.map fun t => tabD n t) (ρrt st n a b c d e f g h i j s3 s12) = .ok .nx (ρrt st n a b c d e f g h i j s3 s12')
  | [], s12 => ⟨s12, rfl⟩
  | t :: ts, s12 => by
    obtain ⟨s12', k⟩ := right_loop h0 hn (st := st) (a := a) (b := b) (c := c) (d := d) (e := e) (f := f) (g := g) (h := h) (i := i) (j := j) (s3 := s3) ts (.d (tabD n t))
    refine ⟨s12', ?_⟩
    rw [List.map_cons, ← k]
    refine forL_rec (ρ1 := ρrt st n a b c d e f g h i j s3 (.d (tabD n t))) rfl ?_
    have tt := times_ok hn t t
    by_cases I : Gr.Idem n t
    · have q : eqD (tabD n (Gr.times n t t)) (tabD n t) = some (.bl true) := @tab_eq n _ _ (.isTrue I)
      have p := is_idem_ok h0 hn I
      simp only [ρrt, b_law_right_2, EV, evn, evw, evh, evro, evshy, ↓reduceIte, decide_true, decide_false, decide_eq_true_eq, Bool.not_true, Bool.not_false, Bool.or_true, Bool.or_false, Bool.true_or, Bool.false_or, Bool.and_true, Bool.true_and, Bool.and_false, Bool.false_and, Bool.false_eq_true, Int.lt_irrefl, Nat.reduceLeDiff, Nat.reduceLT, Nat.reduceAdd, Int.reduceLT, Int.reduceLE, Int.reduceNeg, Int.reduceAdd, Int.reduceEq, Int.cast_ofNat_Int, id, tt, q, p, repr_bl, neD_same]
    · have q : eqD (tabD n (Gr.times n t t)) (tabD n t) = some (.bl false) := @tab_eq n _ _ (.isFalse I)
      have p := is_idem_not h0 hn I
      simp only [ρrt, b_law_right_2, EV, evn, evw, evh, evro, evshy, ↓reduceIte, decide_true, decide_false, decide_eq_true_eq, Bool.not_true, Bool.not_false, Bool.or_true, Bool.or_false, Bool.true_or, Bool.false_or, Bool.and_true, Bool.true_and, Bool.and_false, Bool.false_and, Bool.false_eq_true, Int.lt_irrefl, Nat.reduceLeDiff, Nat.reduceLT, Nat.reduceAdd, Int.reduceLT, Int.reduceLE, Int.reduceNeg, Int.reduceAdd, Int.reduceEq, Int.cast_ofNat_Int, id, tt, q, p, repr_bl, neD_same]
theorem right_ok {n : Nat} (h0 : 1 ≤ n) (hn : n ≤ 8) {st : List D} {m : Nat} (h : St st m) (hm : m ≤ 800000) : ∃ st', f_law_right [.o st, .d (.int (n : Nat))] = .ok (.v (.bl true)) [.o st', .d (.int (n : Nat))] ∧ St st' (m + 500) := by
  obtain ⟨st1, t1, e1, hy1⟩ := some_ok hn h (by omega)
  obtain ⟨st2, t2, e2, hy2⟩ := some_ok hn hy1 (by omega)
  obtain ⟨st3, t3, e3, hy3⟩ := some_ok hn hy2 (by omega)
  obtain ⟨st4, t4, e4, hy4⟩ := some_ok hn hy3 (by omega)
  obtain ⟨st5, t5, e5, hy5⟩ := some_ok hn hy4 (by omega)
  have r5 := rngs.2.2.2.2.1
  have w5 : ∀ a b c d e : D, [a, b, c, d, e].length ≤ 100000 := fun _ _ _ _ _ => by show 5 ≤ 100000; decide
  have rp : reprD [.lst [tabD n t1, tabD n t2, tabD n t3, tabD n t4, tabD n t5]] = _ := rok_tabs hn (ts := [t1, t2, t3, t4, t5]) (Nat.le_refl _)
  have a0 : ∀ a b c d e : D, ixD (.lst [a, b, c, d, e]) (.int 0) = some a := fun _ _ _ _ _ => rfl
  have a1 : ∀ a b c d e : D, ixD (.lst [a, b, c, d, e]) (.int 1) = some b := fun _ _ _ _ _ => rfl
  have a2 : ∀ a b c d e : D, ixD (.lst [a, b, c, d, e]) (.int 2) = some c := fun _ _ _ _ _ => rfl
  have a3 : ∀ a b c d e : D, ixD (.lst [a, b, c, d, e]) (.int 3) = some d := fun _ _ _ _ _ => rfl
  have a4 : ∀ a b c d e : D, ixD (.lst [a, b, c, d, e]) (.int 4) = some e := fun _ _ _ _ _ => rfl
  have tm := fun s t => times_ok hn s t
  have p1 := prod1 h0 hn t1
  have p2 := prod_ok h0 hn
  have p3 := prod3 h0 hn t1 t2 t3
  have p5 := prod5 h0 hn t1 t2 t3 t4 t5
  have n1 := neT (Gr.same_refl n t1)
  have n2 := neT (Gr.same_refl n (Gr.times n t1 t2))
  have n3 := neT (Gr.same_refl n (Gr.times n (Gr.times n t1 t2) t3))
  have n5 := neT (Gr.same_refl n (Gr.times n (Gr.times n (Gr.times n (Gr.times n t1 t2) t3) t4) t5))
  have n4 : neD (tabD n (Gr.times n t1 (Gr.times n t2 t3))) (tabD n (Gr.times n (Gr.times n t1 t2) t3)) = some (.bl false) := neT fun i j _ _ => (Gr.times_assoc n t1 t2 t3 i j).symm
  have ad7 : ∀ a b c d e f g : D, addD (.lst [a, b, c, d, e]) (.lst [f, g]) = some (.lst [a, b, c, d, e, f, g]) := fun _ _ _ _ _ _ _ => rfl
  have ad0 : ∀ a b c d e f g : D, addD (.lst [a, b, c, d, e, f, g]) (.lst []) = some (.lst [a, b, c, d, e, f, g]) := fun _ _ _ _ _ _ _ => rfl
  have ad8 : ∀ a b c d e f g i : D, addD (.lst [a, b, c, d, e, f, g]) (.lst [i]) = some (.lst [a, b, c, d, e, f, g, i]) := fun _ _ _ _ _ _ _ _ => rfl
  rcases steady_ok hn t1 with e | ⟨s, I, e⟩
  · obtain ⟨s12, el⟩ := right_loop h0 hn (st := st5) (a := .lst [tabD n t1, tabD n t2, tabD n t3, tabD n t4, tabD n t5]) (b := .str (reprT (.lst ([t1, t2, t3, t4, t5].map fun t => tabD n t)))) (c := tabD n t1) (d := tabD n t2) (e := tabD n t3) (f := tabD n (Gr.times n (Gr.times n t1 t2) t3)) (g := tabD n (Gr.times n t1 t2)) (h := tabD n (Gr.times n (Gr.times n (Gr.times n (Gr.times n t1 t2) t3) t4) t5)) (i := .non) (j := .non) (s3 := .u) [t1, t2, t3, t4, t5, Gr.times n (Gr.times n t1 t2) t3, Gr.times n (Gr.times n (Gr.times n (Gr.times n t1 t2) t3) t4) t5] .u
    simp only [List.map_cons, List.map_nil, ρrt] at el rp
    have k : isD .non .non = some (.bl true) := rfl
    refine ⟨st5, ?_, hy5.up (by omega)⟩
    simp only [f_law_right, q_law_right, EV, evn, evw, evh, evro, evshy, ↓reduceIte, decide_true, decide_false, decide_eq_true_eq, Bool.not_true, Bool.not_false, Bool.or_true, Bool.or_false, Bool.true_or, Bool.false_or, Bool.and_true, Bool.true_and, Bool.and_false, Bool.false_and, Bool.false_eq_true, Int.lt_irrefl, Nat.reduceLeDiff, Nat.reduceLT, Nat.reduceAdd, Int.reduceLT, Int.reduceLE, Int.reduceNeg, Int.reduceAdd, Int.reduceEq, Int.cast_ofNat_Int, id, r5, e_law_right_1, e1, e2, e3, e4, e5, w5, rp, a0, a1, a2, a3, a4, tm, p1, p2, p3, p5, n1, n2, n3, n4, n5, e, neD_same, ad7, ad0, k, el]
  · obtain ⟨s12, el⟩ := right_loop h0 hn (st := st5) (a := .lst [tabD n t1, tabD n t2, tabD n t3, tabD n t4, tabD n t5]) (b := .str (reprT (.lst ([t1, t2, t3, t4, t5].map fun t => tabD n t)))) (c := tabD n t1) (d := tabD n t2) (e := tabD n t3) (f := tabD n (Gr.times n (Gr.times n t1 t2) t3)) (g := tabD n (Gr.times n t1 t2)) (h := tabD n (Gr.times n (Gr.times n (Gr.times n (Gr.times n t1 t2) t3) t4) t5)) (i := tabD n s) (j := .non) (s3 := .u) [t1, t2, t3, t4, t5, Gr.times n (Gr.times n t1 t2) t3, Gr.times n (Gr.times n (Gr.times n (Gr.times n t1 t2) t3) t4) t5, s] .u
    simp only [List.map_cons, List.map_nil, ρrt] at el rp
    have k : isD (tabD n s) .non = some (.bl false) := rfl
    refine ⟨st5, ?_, hy5.up (by omega)⟩
    simp only [f_law_right, q_law_right, EV, evn, evw, evh, evro, evshy, ↓reduceIte, decide_true, decide_false, decide_eq_true_eq, Bool.not_true, Bool.not_false, Bool.or_true, Bool.or_false, Bool.true_or, Bool.false_or, Bool.and_true, Bool.true_and, Bool.and_false, Bool.false_and, Bool.false_eq_true, Int.lt_irrefl, Nat.reduceLeDiff, Nat.reduceLT, Nat.reduceAdd, Int.reduceLT, Int.reduceLE, Int.reduceNeg, Int.reduceAdd, Int.reduceEq, Int.cast_ofNat_Int, id, r5, e_law_right_1, e1, e2, e3, e4, e5, w5, rp, a0, a1, a2, a3, a4, tm, p1, p2, p3, p5, n1, n2, n3, n4, n5, e, neD_same, ad7, ad8, k, el]
end Pl
namespace Pl
open PySem PySem.Spec PyProof.Rows L2
/-! ### what a value is told to be -/
theorem pl_ro {s : Slot} (h : s.pl = true) : ∀ r, ro (s :: r) = s :: ro r := by
  cases s <;> first | exact fun _ => rfl | cases h
theorem g_tab : gm_law_error (.ex ⟨Str.ofString "InvalidTable", none⟩ []) = .ok (.v (.str (Str.ofString "table"))) [] := by kernel_rfl
theorem g_ret (d : D) : gm_law_error (.ok (.v d) []) = .ok (.v (.str (Str.ofString "returned"))) [] := rfl
theorem nn1 : neD (.lst [.str (Str.ofString "returned"), .str (Str.ofString "returned")]) (.lst [.str (Str.ofString "returned"), .str (Str.ofString "returned")]) = some (.bl false) := by kernel_rfl
theorem nn2 : neD (.lst [.str (Str.ofString "table"), .str (Str.ofString "table")]) (.lst [.str (Str.ofString "table"), .str (Str.ofString "table")]) = some (.bl false) := by kernel_rfl
theorem w1 (x : D) : [x].length ≤ 100000 := by show 1 ≤ 100000; decide
theorem w1' (x : D) : [x].length < 100000 := by show 1 < 100000; decide
def vB : S := (sSeq (sAsg (nmD 7) (eIf (tTru isBl (eCall isiD (aCons (eVar 6) (aCons (eCon (.rf (.ty "tuple"))) aNil)))) (eCall lenD (aCons (eVar 6) aNil)) (eCon (.int 0)))) (sSeq (sAsg (nmD 8) (eIf (tAndB (tTru isBl (eChain ltD ltD (eCon (.int 0)) (eVar 7) (eCon (.int 9)))) (tTru isBl (callM f_law_is_a_table (aoCons (eVar 7) (aoCons (eVar 6) aoNil))))) (eCon (.str (Str.ofString "returned"))) (eCon (.str (Str.ofString "table"))))) (sSeq (sNew 9 (eNew (aCons (eLam gm_law_error (callM f_product (aoCons (eVar 6) aoNil))) aNil))) (sSeq (sAppL 9 (eLam gm_law_error (callM f_is_idempotent (aoCons (eVar 6) aoNil)))) (sFz 9 (sIf (tTru isBl (eOp neD (eVar 9) (eLst (aCons (eVar 8) (aCons (eVar 8) aNil))))) (sRet (eCon (.bl false))) sNext))))))
def vL : S := (sFor (itBy asTup (eTup (aCons (eVar 1) (aCons (eOp addD (eVar 1) (eCon (.int 1))) (aCons (eCon (.int 1)) aNil))))) (nmD 7) b_law_values_right_3)
def vA (k : S) : S := (sSeq (sAsg (nmD 8) (eIf (tTru isBl (callM f_law_is_a_table (aoCons (eVar 1) (aoCons (eVar 6) aoNil)))) (eCon (.str (Str.ofString "returned"))) (eCon (.str (Str.ofString "table"))))) (sSeq (sNew 9 (eNew (aCons (eLam gm_law_error (callM f_product (aoCons (eVar 2) (aoCons (eVar 6) aoNil)))) aNil))) (sSeq (sAppL 9 (eLam gm_law_error (callM f_product (aoCons (eVar 2) (aoCons (eVar 2) (aoCons (eVar 6) aoNil)))))) (sFz 9 (sSeq (sIf (tTru isBl (eOp neD (eVar 9) (eLst (aCons (eVar 8) (aCons (eVar 8) aNil))))) (sRet (eCon (.bl false))) sNext) k)))))
theorem q_v4 : b_law_values_right_4 = sSeq vL (vA vB) := rfl
section
variable {n : Nat} (h0 : 1 ≤ n) (hn : n ≤ 7) {st : List D} {T vs v : D} (h : TabQ v) {s7 s8 s9 : Slot} (p7 : s7.pl = true) (p8 : s8.pl = true) (p9 : s9.pl = true)
include h0 hn h
theorem vL_ok : vL [.o st, .d (.int (n : Nat)), .d T, .d vs, .u, .u, .d v, s7, s8, s9, .u] = .ok .nx [.o st, .d (.int (n : Nat)), .d T, .d vs, .u, .u, .d v, .d (.int 1), s8, s9, .u] := by
  have c : ((n : Nat) : Int) + 1 = ((n + 1 : Nat) : Int) := by omega
  have a1 := istab_ok h0 (by omega) h
  have a2 := istab_ok (n := n + 1) (by omega) (by omega) h
  have a3 : f_is_table [.d (.int 1), .d v] = _ := istab_ok (n := 1) (by omega) (by omega) h
  have b1 := isa_ok (n := n) h
  have b2 := isa_ok (n := n + 1) h
  have b3 : f_law_is_a_table [.d (.int 1), .d v] = _ := isa_ok (n := 1) h
  have w3 : ∀ x y z : D, [x, y, z].length ≤ 100000 := fun x y z => by show 3 ≤ 100000; decide
  simp only [vL, EV, evn, evw, evh, evro, evshy, ↓reduceIte, decide_true, decide_false, decide_eq_true_eq, Bool.not_true, Bool.not_false, Bool.or_true, Bool.or_false, Bool.true_or, Bool.false_or, Bool.and_true, Bool.true_and, Bool.and_false, Bool.false_and, Bool.false_eq_true, Int.lt_irrefl, Nat.reduceLeDiff, Nat.reduceLT, Nat.reduceAdd, Int.reduceLT, Int.reduceLE, Int.reduceNeg, Int.reduceAdd, Int.reduceEq, Int.cast_ofNat_Int, id, c, b_law_values_right_3, a1, a2, a3, b1, b2, b3, repr_bl, neD_same, w3]
include p7 p8 p9 in
theorem vA_ok {t : Gr.Tb} : ∃ s8' s9', s8'.pl = true ∧ s9'.pl = true ∧ ∀ k : S, vA k [.o st, .d (.int (n : Nat)), .d (tabD n t), .d vs, .u, .u, .d v, s7, s8, s9, .u] = k [.o st, .d (.int (n : Nat)), .d (tabD n t), .d vs, .u, .u, .d v, s7, s8', s9', .u] := by
  have r7 := pl_ro p7
  have r8 := pl_ro p8
  have r9 := pl_ro p9
  have b1 := isa_ok (n := n) h
  cases k : tblOk n v with
  | true =>
    rw [k] at b1
    obtain ⟨t', rfl, _⟩ := tab_of h k
    have p2 := prod_ok h0 (by omega) t t'
    have p3 := prod3 h0 (by omega) t t t'
    refine ⟨.d (.str (Str.ofString "returned")), .d (.lst [.str (Str.ofString "returned"), .str (Str.ofString "returned")]), rfl, rfl, fun k => ?_⟩
    simp only [vA, EV, evn, evw, evh, evro, evshy, ↓reduceIte, decide_true, decide_false, decide_eq_true_eq, Bool.not_true, Bool.not_false, Bool.or_true, Bool.or_false, Bool.true_or, Bool.false_or, Bool.and_true, Bool.true_and, Bool.and_false, Bool.false_and, Bool.false_eq_true, Int.lt_irrefl, Nat.reduceLeDiff, Nat.reduceLT, Nat.reduceAdd, Int.reduceLT, Int.reduceLE, Int.reduceNeg, Int.reduceAdd, Int.reduceEq, Int.cast_ofNat_Int, id, r7, r8, r9, b1, p2, p3, g_ret, nn1, w1, w1', List.cons_append, List.nil_append]
  | false =>
    rw [k] at b1
    have p2 := prod_no2 h0 (by omega) t h k
    have p3 := prod_no3 h0 (by omega) t t h k
    refine ⟨.d (.str (Str.ofString "table")), .d (.lst [.str (Str.ofString "table"), .str (Str.ofString "table")]), rfl, rfl, fun k => ?_⟩
    simp only [vA, EV, evn, evw, evh, evro, evshy, ↓reduceIte, decide_true, decide_false, decide_eq_true_eq, Bool.not_true, Bool.not_false, Bool.or_true, Bool.or_false, Bool.true_or, Bool.false_or, Bool.and_true, Bool.true_and, Bool.and_false, Bool.false_and, Bool.false_eq_true, Int.lt_irrefl, Nat.reduceLeDiff, Nat.reduceLT, Nat.reduceAdd, Int.reduceLT, Int.reduceLE, Int.reduceNeg, Int.reduceAdd, Int.reduceEq, Int.cast_ofNat_Int, id, r7, r8, r9, b1, p2, p3, g_tab, nn2, w1, w1', List.cons_append, List.nil_append]
include p7 p8 p9 in
theorem vB_ok : ∃ s7' s8' s9', s7'.pl = true ∧ s8'.pl = true ∧ s9'.pl = true ∧ vB [.o st, .d (.int (n : Nat)), .d T, .d vs, .u, .u, .d v, s7, s8, s9, .u] = .ok .nx [.o st, .d (.int (n : Nat)), .d T, .d vs, .u, .u, .d v, s7', s8', s9', .u] := by
  have r7 := pl_ro p7
  have r8 := pl_ro p8
  have r9 := pl_ro p9
  have isi := isi_kn h.kn
  by_cases ht : isT v = true
  · obtain ⟨xs, rfl⟩ : ∃ ys, v = .tup ys := by cases v <;> first | exact ⟨_, rfl⟩ | cases ht
    have other : ∀ m, m ≠ xs.length → tblOk m (.tup xs) = false := fun m hm => by
      show (decide (xs.length = m) && _) = false
      rw [decide_eq_false (Ne.symm hm)]; rfl
    by_cases l0 : (0 : Int) < (xs.length : Nat)
    · by_cases l9 : ((xs.length : Nat) : Int) < 9
      · have sq := isa_ok (n := xs.length) h
        cases k : tblOk xs.length (.tup xs) with
        | false =>
          rw [k] at sq
          have all : ∀ m, 1 ≤ m → m ≤ 8 → tblOk m (.tup xs) = false := fun m _ _ => by
            by_cases e : m = xs.length
            · rw [e]; exact k
            · exact other m e
          have p := prod_no1 h all
          have i := is_idem_no h all
          refine ⟨.d (.int (xs.length : Nat)), .d (.str (Str.ofString "table")), .d (.lst [.str (Str.ofString "table"), .str (Str.ofString "table")]), rfl, rfl, rfl, ?_⟩
          simp only [vB, EV, evn, evw, evh, evro, evshy, ↓reduceIte, decide_true, decide_false, decide_eq_true_eq, Bool.not_true, Bool.not_false, Bool.or_true, Bool.or_false, Bool.true_or, Bool.false_or, Bool.and_true, Bool.true_and, Bool.and_false, Bool.false_and, Bool.false_eq_true, Int.lt_irrefl, Nat.reduceLeDiff, Nat.reduceLT, Nat.reduceAdd, Int.reduceLT, Int.reduceLE, Int.reduceNeg, Int.reduceAdd, Int.reduceEq, Int.cast_ofNat_Int, id, r7, r8, r9, l0, l9, sq, p, i, g_tab, nn2, w1, w1', List.cons_append, List.nil_append]
        | true =>
          rw [k] at sq
          obtain ⟨t', et, _⟩ := tab_of h k
          generalize hm : xs.length = m at *
          have p := prod1 (n := m) (by omega) (by omega) t'
          rw [← et] at p
          refine ⟨.d (.int (m : Nat)), .d (.str (Str.ofString "returned")), .d (.lst [.str (Str.ofString "returned"), .str (Str.ofString "returned")]), rfl, rfl, rfl, ?_⟩
          by_cases I : Gr.Idem m t'
          · have i := is_idem_ok (n := m) (by omega) (by omega) I
            rw [← et] at i
            simp only [vB, EV, evn, evw, evh, evro, evshy, ↓reduceIte, decide_true, decide_false, decide_eq_true_eq, Bool.not_true, Bool.not_false, Bool.or_true, Bool.or_false, Bool.true_or, Bool.false_or, Bool.and_true, Bool.true_and, Bool.and_false, Bool.false_and, Bool.false_eq_true, Int.lt_irrefl, Nat.reduceLeDiff, Nat.reduceLT, Nat.reduceAdd, Int.reduceLT, Int.reduceLE, Int.reduceNeg, Int.reduceAdd, Int.reduceEq, Int.cast_ofNat_Int, id, r7, r8, r9, hm, l0, l9, sq, p, i, g_ret, nn1, w1, w1', List.cons_append, List.nil_append]
          · have i := is_idem_not (n := m) (by omega) (by omega) I
            rw [← et] at i
            simp only [vB, EV, evn, evw, evh, evro, evshy, ↓reduceIte, decide_true, decide_false, decide_eq_true_eq, Bool.not_true, Bool.not_false, Bool.or_true, Bool.or_false, Bool.true_or, Bool.false_or, Bool.and_true, Bool.true_and, Bool.and_false, Bool.false_and, Bool.false_eq_true, Int.lt_irrefl, Nat.reduceLeDiff, Nat.reduceLT, Nat.reduceAdd, Int.reduceLT, Int.reduceLE, Int.reduceNeg, Int.reduceAdd, Int.reduceEq, Int.cast_ofNat_Int, id, r7, r8, r9, hm, l0, l9, sq, p, i, g_ret, nn1, w1, w1', List.cons_append, List.nil_append]
      · have all : ∀ m, 1 ≤ m → m ≤ 8 → tblOk m (.tup xs) = false := fun m _ m8 => other m (by omega)
        have p := prod_no1 h all
        have i := is_idem_no h all
        refine ⟨.d (.int (xs.length : Nat)), .d (.str (Str.ofString "table")), .d (.lst [.str (Str.ofString "table"), .str (Str.ofString "table")]), rfl, rfl, rfl, ?_⟩
        simp only [vB, EV, evn, evw, evh, evro, evshy, ↓reduceIte, decide_true, decide_false, decide_eq_true_eq, Bool.not_true, Bool.not_false, Bool.or_true, Bool.or_false, Bool.true_or, Bool.false_or, Bool.and_true, Bool.true_and, Bool.and_false, Bool.false_and, Bool.false_eq_true, Int.lt_irrefl, Nat.reduceLeDiff, Nat.reduceLT, Nat.reduceAdd, Int.reduceLT, Int.reduceLE, Int.reduceNeg, Int.reduceAdd, Int.reduceEq, Int.cast_ofNat_Int, id, r7, r8, r9, l0, l9, p, i, g_tab, nn2, w1, w1', List.cons_append, List.nil_append]
    · have all : ∀ m, 1 ≤ m → m ≤ 8 → tblOk m (.tup xs) = false := fun m m1 _ => other m (by omega)
      have p := prod_no1 h all
      have i := is_idem_no h all
      refine ⟨.d (.int (xs.length : Nat)), .d (.str (Str.ofString "table")), .d (.lst [.str (Str.ofString "table"), .str (Str.ofString "table")]), rfl, rfl, rfl, ?_⟩
      simp only [vB, EV, evn, evw, evh, evro, evshy, ↓reduceIte, decide_true, decide_false, decide_eq_true_eq, Bool.not_true, Bool.not_false, Bool.or_true, Bool.or_false, Bool.true_or, Bool.false_or, Bool.and_true, Bool.true_and, Bool.and_false, Bool.false_and, Bool.false_eq_true, Int.lt_irrefl, Nat.reduceLeDiff, Nat.reduceLT, Nat.reduceAdd, Int.reduceLT, Int.reduceLE, Int.reduceNeg, Int.reduceAdd, Int.reduceEq, Int.cast_ofNat_Int, id, r7, r8, r9, l0, p, i, g_tab, nn2, w1, w1', List.cons_append, List.nil_append]
  · have ht : isT v = false := by simpa using ht
    have all : ∀ m, 1 ≤ m → m ≤ 8 → tblOk m v = false := fun m _ _ => by cases v <;> first | rfl | cases ht
    have p := prod_no1 h all
    have i := is_idem_no h all
    rw [ht] at isi
    refine ⟨.d (.int 0), .d (.str (Str.ofString "table")), .d (.lst [.str (Str.ofString "table"), .str (Str.ofString "table")]), rfl, rfl, rfl, ?_⟩
    simp only [vB, EV, evn, evw, evh, evro, evshy, ↓reduceIte, decide_true, decide_false, decide_eq_true_eq, Bool.not_true, Bool.not_false, Bool.or_true, Bool.or_false, Bool.true_or, Bool.false_or, Bool.and_true, Bool.true_and, Bool.and_false, Bool.false_and, Bool.false_eq_true, Int.lt_irrefl, Nat.reduceLeDiff, Nat.reduceLT, Nat.reduceAdd, Int.reduceLT, Int.reduceLE, Int.reduceNeg, Int.reduceAdd, Int.reduceEq, Int.cast_ofNat_Int, id, r7, r8, r9, isi, p, i, g_tab, nn2, w1, w1', List.cons_append, List.nil_append]
include p8 p9 in
theorem val_ok {t : Gr.Tb} : ∃ s7' s8' s9', s7'.pl = true ∧ s8'.pl = true ∧ s9'.pl = true ∧ b_law_values_right_4 [.o st, .d (.int (n : Nat)), .d (tabD n t), .d vs, .u, .u, .d v, s7, s8, s9, .u] = .ok .nx [.o st, .d (.int (n : Nat)), .d (tabD n t), .d vs, .u, .u, .d v, s7', s8', s9', .u] := by
  have e1 := vL_ok h0 hn h (st := st) (T := tabD n t) (vs := vs) (s7 := s7) (s8 := s8) (s9 := s9)
  obtain ⟨s8', s9', p8', p9', e2⟩ := vA_ok h0 hn h (st := st) (vs := vs) (s7 := .d (.int 1)) rfl p8 p9 (t := t)
  obtain ⟨s7'', s8'', s9'', q7, q8, q9, e3⟩ := vB_ok h0 hn h (st := st) (T := tabD n t) (vs := vs) (s7 := .d (.int 1)) rfl p8' p9'
  refine ⟨s7'', s8'', s9'', q7, q8, q9, ?_⟩
  rw [q_v4]
  exact (seq_nx e1).trans ((e2 vB).trans e3)
end
end Pl
namespace Pl
open PySem PySem.Spec PyProof.Rows L2
/-! ### the values; odd sizes -/
def reprOf (d : D) : Str := match reprD [d] with
  | some (.str z) => z
  | _ => Str.ofString ""
structure OddQ (d : D) : Prop where
  no : ∀ v, f_is_table [.d d, .d v] = .ex ⟨Str.ofString "InvalidNumber", some (Str.ofString "value", d)⟩ [.d d, .d v]
  rp : reprD [d] = some (.str (reprOf d))
  ad : addD (.str (Str.ofString "number ")) (.str (reprOf d)) = some (.str (Str.ofString "number " ++ reprOf d))
  er : gm_law_error (.ex ⟨Str.ofString "InvalidNumber", some (Str.ofString "value", d)⟩ []) = .ok (.v (.str (Str.ofString "number " ++ reprOf d))) []
def odds : List D := [.int 0, .int 9, .int (-1), .non, .bl true, .str (Str.ofString "2"), .tup [.int 1], .lst [.int 1], .int (10 ^ 39)]
theorem odds_ok : ∀ d ∈ odds, OddQ d := by
  unfold odds
  simp only [List.forall_mem_cons]
  refine ⟨?_, ?_, ?_, ?_, ?_, ?_, ?_, ?_, ?_, fun x hx => (List.not_mem_nil hx).elim⟩
  all_goals exact ⟨fun v => by kernel_rfl, by kernel_rfl, by kernel_rfl, by kernel_rfl⟩
theorem eqD_same (x : Str) : eqD (.str x) (.str x) = some (.bl true) := by
  show some (D.bl (x == x)) = _
  rw [beq_self_eq_true]
theorem rows_q {n : Nat} (hn : n ≤ 8) (t : Gr.Tb) : ∀ x ∈ (List.range n).map fun i => rowD n (t i), RowQ x := ((tab_q hn t).all _ rfl).2
theorem rowq_g (g : Gr) : RowQ (gD g) := rowq_leaf trivial nofun
theorem any_no {ys : List D} {x : D} (h : ∀ y ∈ ys, eqB y x = false) : ys.any (fun y => eqB y x) = false := by
  rw [List.any_eq_false]
  intro y hy
  rw [h y hy]
  exact Bool.false_ne_true
theorem nin_row {n : Nat} (f : Nat → Gr) (ys : List D) (s : shapeL 60 ys = true) (h : ∀ y ∈ ys, ∃ g, y = gD g) : ninD (rowD n f) (.tup ys) = some (.bl true) := by
  have sh : (shape 60 (rowD n f) && shapeL 60 ys) = true := by rw [shape_row, s]; rfl
  show (if _ = true then some (D.bl (!ys.any fun y => eqB y (rowD n f))) else _) = _
  rw [if_pos sh, any_no fun y hy => by obtain ⟨g, rfl⟩ := h y hy; rfl]
  rfl
theorem leaf_row {n : Nat} (f : Nat → Gr) : Leaf (rowD n f) := by
  refine leaf_no rfl (nin_row f _ (by kernel_rfl) ?_) ⟨rfl, ?_, fun _ => rfl⟩
  · unfold tab_ORDER
    simp only [List.forall_mem_cons]
    exact ⟨⟨.none, rfl⟩, ⟨.free, rfl⟩, ⟨.paid, rfl⟩, ⟨.restart, rfl⟩, ⟨.dear, rfl⟩, fun x hx => (List.not_mem_nil hx).elim⟩
  · refine nin_row f _ (by kernel_rfl) ?_
    simp only [List.forall_mem_cons]
    exact ⟨⟨.restart, rfl⟩, ⟨.free, rfl⟩, ⟨.paid, rfl⟩, ⟨.dear, rfl⟩, ⟨.none, rfl⟩, fun x hx => (List.not_mem_nil hx).elim⟩
theorem rowq_tab {n : Nat} (hn : n ≤ 8) (t : Gr.Tb) : RowQ (tabD n t) := ⟨trivial, fun ys e => by
  unfold tabD at e
  injection e with e
  subst e
  refine ⟨by rw [len_map]; omega, fun y hy => ?_⟩
  obtain ⟨i, _, rfl⟩ := List.mem_map.mp hy
  exact leaf_row _⟩
theorem tabq_flat {d : D} (h : Kn d) (n : ∀ xs, d ≠ .tup xs) : TabQ d := ⟨h, fun ys e => absurd e (n ys)⟩
theorem tabq_row {n : Nat} (hn : n ≤ 8) (f : Nat → Gr) : TabQ (rowD n f) := up_tab.tup _ (by rw [len_map]; omega) fun x hx => by
  obtain ⟨j, _, rfl⟩ := List.mem_map.mp hx
  exact rowq_g _
theorem lists_ok {n : Nat} (hn : n ≤ 8) (t : Gr.Tb) {st : List D} : ∃ s4, lcL (nmD 4) (M.pure true) e_law_values_right_1 [4] ((List.range n).map fun i => rowD n (t i)) [.o st, .d (.int (n : Nat)), .d (tabD n t), .u, .u, .u, .u, .u, .u, .u, .u] = .ok ((List.range n).map fun i => .lst ((List.range n).map fun j => gD (t i j))) [.o st, .d (.int (n : Nat)), .d (tabD n t), .u, s4, .u, .u, .u, .u, .u, .u] := by
  obtain ⟨ρ', e, s4, rfl⟩ := lcL_map (gd := nmD 4) (te := e_law_values_right_1) (vs := [4]) (fun ρ => ∃ s4, ρ = [.o st, .d (.int (n : Nat)), .d (tabD n t), .u, s4, .u, .u, .u, .u, .u, .u]) (fun i => rowD n (t i)) (fun i => .lst ((List.range n).map fun j => gD (t i j))) (List.range n) [.o st, .d (.int (n : Nat)), .d (tabD n t), .u, .u, .u, .u, .u, .u, .u, .u] ⟨.u, rfl⟩ fun i ρ hi ⟨s4, e⟩ => by
    subst e
    have l : listD [rowD n (t i)] = some ((List.range n).map fun j => gD (t i j)) := rfl
    refine ⟨_, _, rfl, ?_, .d (rowD n (t i)), rfl⟩
    simp only [e_law_values_right_1, EV, evn, evw, evh, evro, evshy, ↓reduceIte, decide_true, decide_false, decide_eq_true_eq, Bool.not_true, Bool.not_false, Bool.or_true, Bool.or_false, Bool.true_or, Bool.false_or, Bool.and_true, Bool.true_and, Bool.and_false, Bool.false_and, Bool.false_eq_true, Int.lt_irrefl, Nat.reduceLeDiff, Nat.reduceLT, Nat.reduceAdd, Int.reduceLT, Int.reduceLE, Int.reduceNeg, Int.reduceAdd, Int.reduceEq, Int.cast_ofNat_Int, id, l]
  exact ⟨s4, e⟩
theorem values_ok {n : Nat} (h0 : 1 ≤ n) (hn : n ≤ 7) {st : List D} {m : Nat} (h : St st m) (hm : m ≤ 800000) : ∃ st', f_law_values_right [.o st, .d (.int (n : Nat))] = .ok (.v (.bl true)) [.o st', .d (.int (n : Nat))] ∧ St st' (m + 500) := by
  have hn8 : n ≤ 8 := by omega
  obtain ⟨st0, t, e0, hy0⟩ := some_ok hn8 h (by omega)
  obtain ⟨st1, d1, m1, e1, hy1, b1, q1⟩ := ch_tab hn8 t st0 _ hy0 (by omega)
  obtain ⟨st2, d2, m2, e2, hy2, b2, q2⟩ := ch_tab hn8 t st1 _ hy1 (by omega)
  obtain ⟨st3, d3, m3, e3, hy3, b3, q3⟩ := ch_tab hn8 t st2 _ hy2 (by omega)
  obtain ⟨st4, d4, m4, e4, hy4, b4, q4⟩ := ch_tab hn8 t st3 _ hy3 (by omega)
  obtain ⟨st5, d5, m5, e5, hy5, b5, q5⟩ := ch_tab hn8 t st4 _ hy4 (by omega)
  obtain ⟨st6, d6, m6, e6, hy6, b6, q6⟩ := ch_tab hn8 t st5 _ hy5 (by omega)
  obtain ⟨st7, d7, e7, hy7, q7⟩ := other_ok hy6 (by omega)
  obtain ⟨r, st8, e8, k1, k2, hy8⟩ := draw hy7 9
  obtain ⟨od, hod, e9⟩ := at_in odds k1 k2
  have Q := odds_ok od hod
  have Qn := Q.no (tabD n t)
  have Qr := Q.rp
  have Qa := Q.ad
  have Qe := Q.er
  have Qs := eqD_same (Str.ofString "number " ++ reprOf od)
  unfold odds at e9
  obtain ⟨s4, el⟩ := lists_ok hn8 t (st := st0)
  have r6 := rngs.2.2.2.2.2.1
  have rq := rows_q hn8 t
  have l1 : ((List.range n).map fun i => rowD n (t i)).length = n := len_map _ n
  have cl := cut_le ((List.range n).map fun i => rowD n (t i))
  have c1 : slD (tabD n t) none (some (-1)) = some (.tup (cutD ((List.range n).map fun i => rowD n (t i)) none (some (-1)))) := rfl
  have c2 : slD (tabD n t) none (some 1) = some (.tup (cutD ((List.range n).map fun i => rowD n (t i)) none (some 1))) := rfl
  have c3 : addD (tabD n t) (.tup (cutD ((List.range n).map fun i => rowD n (t i)) none (some 1))) = some (.tup (((List.range n).map fun i => rowD n (t i)) ++ cutD ((List.range n).map fun i => rowD n (t i)) none (some 1))) := add_tup (by have := cl none (some 1); omega)
  have c4 : listD [tabD n t] = some ((List.range n).map fun i => rowD n (t i)) := rfl
  have c5 : ((List.range n).map fun i => D.lst ((List.range n).map fun j => gD (t i j))).length ≤ 100000 := by rw [len_map]; omega
  have c6 : ∀ xs, tupleD [.lst xs] = some (.tup xs) := fun _ => rfl
  have c7 : ixD (tabD n t) (.int 0) = some (rowD n (t 0)) := at_tab (i := 0) t h0
  have c8 : negD (.int 1) = some (.int (-1)) := rfl
  have t1 : TabQ (tabD n t) := tab_q hn8 t
  have t2 : TabQ (.tup (cutD ((List.range n).map fun i => rowD n (t i)) none (some (-1)))) := up_tab.tup _ (by have := cl none (some (-1)); omega) fun x hx => rq x ((cut_sub _ _ _).subset hx)
  have t3 : TabQ (.tup (((List.range n).map fun i => rowD n (t i)) ++ cutD ((List.range n).map fun i => rowD n (t i)) none (some 1))) := up_tab.tup _ (by rw [List.length_append]; have := cl none (some 1); omega) fun x hx => by
    rcases List.mem_append.mp hx with hx | hx
    · exact rq x hx
    · exact rq x ((cut_sub _ _ _).subset hx)
  have t4 : TabQ (.tup ((List.range n).map fun i => D.lst ((List.range n).map fun j => gD (t i j)))) := up_tab.tup _ (by rw [len_map]; omega) fun x hx => by
    obtain ⟨i, _, rfl⟩ := List.mem_map.mp hx
    exact rowq_leaf trivial nofun
  have t5 : TabQ (.tup []) := up_tab.tup _ (by decide) fun x hx => (List.not_mem_nil hx).elim
  have t6 : TabQ (rowD n (t 0)) := tabq_row hn8 _
  have t7 : TabQ (.tup [tabD n t]) := tabq_one (rowq_tab hn8 t)
  generalize hA : D.tup (cutD ((List.range n).map fun i => rowD n (t i)) none (some (-1))) = A at *
  generalize hB : D.tup (((List.range n).map fun i => rowD n (t i)) ++ cutD ((List.range n).map fun i => rowD n (t i)) none (some 1)) = B at *
  have all : ∀ v ∈ [tabD n t, A, B, .lst ((List.range n).map fun i => rowD n (t i)), .tup ((List.range n).map fun i => D.lst ((List.range n).map fun j => gD (t i j))), .non, .tup [], .str (Str.ofString "table"), d1, d2, d3, d4, d5, d6, d7, rowD n (t 0), .tup [tabD n t]], TabQ v := by
    simp only [List.forall_mem_cons]
    exact ⟨t1, t2, t3, tabq_flat trivial nofun, t4, tabq_flat trivial nofun, t5, tabq_flat trivial nofun, q1, q2, q3, q4, q5, q6, others_tab d7 q7, t6, t7, fun x hx => (List.not_mem_nil hx).elim⟩
  have ad1 : ∀ a b c d e f g h i j k l m n : D, addD (.lst [a, b, c, d, e, f, g, h]) (.lst [i, j, k, l, m, n]) = some (.lst [a, b, c, d, e, f, g, h, i, j, k, l, m, n]) := fun _ _ _ _ _ _ _ _ _ _ _ _ _ _ => rfl
  have ad2 : ∀ a b c d e f g h i j k l m n o p q : D, addD (.lst [a, b, c, d, e, f, g, h, i, j, k, l, m, n]) (.lst [o, p, q]) = some (.lst [a, b, c, d, e, f, g, h, i, j, k, l, m, n, o, p, q]) := fun _ _ _ _ _ _ _ _ _ _ _ _ _ _ _ _ _ => rfl
  have w6 : ∀ a b c d e f : D, [a, b, c, d, e, f].length ≤ 100000 := fun _ _ _ _ _ _ => by show 6 ≤ 100000; decide
  have w8 : ∀ a b c d e f g h : D, [a, b, c, d, e, f, g, h].length ≤ 100000 := fun _ _ _ _ _ _ _ _ => by show 8 ≤ 100000; decide
  obtain ⟨ρ', eL, s6, s7, s8, s9, rfl, p6, p7, p8, p9⟩ := forL_inv (gd := nmD 6) (body := b_law_values_right_4) (fun _ ρ => ∃ s6 s7 s8 s9, ρ = [.o st7, .d (.int (n : Nat)), .d (tabD n t), .d (.lst [tabD n t, A, B, .lst ((List.range n).map fun i => rowD n (t i)), .tup ((List.range n).map fun i => D.lst ((List.range n).map fun j => gD (t i j))), .non, .tup [], .str (Str.ofString "table"), d1, d2, d3, d4, d5, d6, d7, rowD n (t 0), .tup [tabD n t]]), .u, .u, s6, s7, s8, s9, .u] ∧ s6.pl = true ∧ s7.pl = true ∧ s8.pl = true ∧ s9.pl = true)
    [tabD n t, A, B, .lst ((List.range n).map fun i => rowD n (t i)), .tup ((List.range n).map fun i => D.lst ((List.range n).map fun j => gD (t i j))), .non, .tup [], .str (Str.ofString "table"), d1, d2, d3, d4, d5, d6, d7, rowD n (t 0), .tup [tabD n t]] 0 [.o st7, .d (.int (n : Nat)), .d (tabD n t), .d (.lst [tabD n t, A, B, .lst ((List.range n).map fun i => rowD n (t i)), .tup ((List.range n).map fun i => D.lst ((List.range n).map fun j => gD (t i j))), .non, .tup [], .str (Str.ofString "table"), d1, d2, d3, d4, d5, d6, d7, rowD n (t 0), .tup [tabD n t]]), .u, .u, .u, .u, .u, .u, .u] ⟨.u, .u, .u, .u, rfl, rfl, rfl, rfl, rfl⟩
    fun i x ρ li hx ⟨s6, s7, s8, s9, e, p6, p7, p8, p9⟩ => by
      subst e
      obtain ⟨s7', s8', s9', q7, q8, q9, e⟩ := val_ok h0 hn (all x hx) (st := st7) (vs := (.lst [tabD n t, A, B, .lst ((List.range n).map fun i => rowD n (t i)), .tup ((List.range n).map fun i => D.lst ((List.range n).map fun j => gD (t i j))), .non, .tup [], .str (Str.ofString "table"), d1, d2, d3, d4, d5, d6, d7, rowD n (t 0), .tup [tabD n t]])) (s7 := s7) p8 p9 (t := t)
      exact ⟨_, _, rfl, e, .d x, s7', s8', s9', rfl, rfl, q7, q8, q9⟩
  have o6 := pl_ro p6
  have o7 := pl_ro p7
  have o8 := pl_ro p8
  have o9 := pl_ro p9
  refine ⟨st8, ?_, hy8.up (by omega)⟩
  simp only [f_law_values_right, q_law_values_right, EV, evn, evw, evh, evro, evshy, ↓reduceIte, decide_true, decide_false, decide_eq_true_eq, Bool.not_true, Bool.not_false, Bool.or_true, Bool.or_false, Bool.true_or, Bool.false_or, Bool.and_true, Bool.true_and, Bool.and_false, Bool.false_and, Bool.false_eq_true, Int.lt_irrefl, Nat.reduceLeDiff, Nat.reduceLT, Nat.reduceAdd, Int.reduceLT, Int.reduceLE, Int.reduceNeg, Int.reduceAdd, Int.reduceEq, Int.cast_ofNat_Int, id, as_tab, e0, c1, c2, c3, c4, c5, c6, c7, c8, el, r6, e_law_values_right_2, e1, e2, e3, e4, e5, e6, e7, w6, w8, ad1, ad2, eL, e8, pow39, e9, o6, o7, o8, o9, Qn, Qr, Qa, Qe, Qs]
end Pl
namespace Pl
open PySem PySem.Spec PyProof.Rows L2
/-! ### what is written out -/
def PT (k : Nat) : Gr.Tb := fun i j => if j = (i + k) % 8 then (if 8 ≤ i + k then .paid else .free) else .none
def sameB (n : Nat) (s t : Gr.Tb) : Bool := (List.range n).all fun i => (List.range n).all fun j => decide (s i j = t i j)
theorem same_of {n : Nat} {s t : Gr.Tb} (h : sameB n s t = true) : Gr.Same n s t := fun i j hi hj => of_decide_eq_true (List.all_eq_true.mp (List.all_eq_true.mp h i (List.mem_range.mpr hi)) j (List.mem_range.mpr hj))
theorem pw (k : Nat) (h : sameB 8 (Gr.times 8 (PT k) (PT 1)) (PT (k + 1)) = true) : f_product [.d (tabD 8 (PT k)), .d (tabD 8 (PT 1))] = .ok (.v (tabD 8 (PT (k + 1)))) [.d (tabD 8 (PT k)), .d (.tup [tabD 8 (PT 1)])] := by
  have p := prod_ok (n := 8) (by decide) (by decide) (PT k) (PT 1)
  rw [tab_congr (same_of h)] at p
  exact p
theorem I8 : Gr.Idem 8 (PT 8) := same_of (by decide +kernel)
theorem I1 : ¬ Gr.Idem 8 (PT 1) := fun I => absurd (I 0 1 (by decide) (by decide)) (by decide +kernel)
theorem rows_ok : forL (nmD 1) b_law_written_right_2 ((List.range 8).map fun k => .int (k : Nat)) [.o [], .u, .u, .u, .u, .u, .u, .u, .u] = .ok .nx [.o ((List.range 8).map fun i => rowD 8 (PT 1 i)), .d (.int 7), .u, .u, .u, .u, .u, .u, .u] := by kernel_rfl
theorem due_ok {a b c d : D} : ∃ s1, lcL (nmD 1) (M.pure true) e_law_written_right_5 [1] ((List.range 8).map fun k => .int (k : Nat)) [.d a, .d (.int 7), .u, .d b, .d c, .d d, .u, .u, .u] = .ok ((List.range 8).map fun i => rowD 8 (PT 8 i)) [.d a, s1, .u, .d b, .d c, .d d, .u, .u, .u] := ⟨.d (.int 7), by kernel_rfl⟩
def N9 : D := .tup (List.replicate 9 (.tup (List.replicate 9 (gD .free))))
theorem n9_q : TabQ N9 := up_tab.tup _ (by decide) fun x hx => by
  rw [(List.mem_replicate.mp hx).2]
  exact up_row.tup _ (by decide) fun y hy => by
    rw [(List.mem_replicate.mp hy).2]
    exact leaf_g .free
theorem n9_no (m : Nat) (h : m ≤ 8) : tblOk m N9 = false := by
  show (decide ((List.replicate 9 (D.tup (List.replicate 9 (gD .free)))).length = m) && _) = false
  rw [List.length_replicate, decide_eq_false (by omega)]; rfl
theorem w4 : ∃ r s, f_pumped [.d (tabD 8 (PT 8))] = .ok (.v r) [.d (tabD 8 (PT 8))] ∧ ixD r (.int 3) = some s ∧ ixD s (.int 3) = some (gD .dear) := by
  have p := pumped_ok (n := 8) (by decide) (by decide) I8
  exact ⟨_, rowD 8 (Gr.pump 8 (PT 8) 3), p, at_tab (n := 8) (i := 3) _ (by decide), (at_row (n := 8) (j := 3) _ (by decide)).trans (by kernel_rfl)⟩
theorem written_ok : f_law_written_right [] = .ok (.v (.bl true)) [] := by
  have r8 : rng1D [.int 8] = some ((List.range 8).map fun k => .int (k : Nat)) := rng_nat (n := 8) (by omega)
  have r7 := rngs.2.2.2.2.2.2.1
  have R := rows_ok
  have p1 := pw 1 (by decide +kernel)
  have p2 := pw 2 (by decide +kernel)
  have p3 := pw 3 (by decide +kernel)
  have p4 := pw 4 (by decide +kernel)
  have p5 := pw 5 (by decide +kernel)
  have p6 := pw 6 (by decide +kernel)
  have p7 := pw 7 (by decide +kernel)
  simp only [Nat.reduceAdd] at p1 p2 p3 p4 p5 p6 p7
  have c6 : ∀ xs, tupleD [.lst xs] = some (.tup xs) := fun _ => rfl
  have tb : ∀ k, D.tup ((List.range 8).map fun i => rowD 8 (PT k i)) = tabD 8 (PT k) := fun _ => rfl
  obtain ⟨s1, du⟩ := due_ok (a := .lst ((List.range 8).map fun i => rowD 8 (PT 1 i))) (b := tabD 8 (PT 1)) (c := tabD 8 (PT 8)) (d := .int 6)
  have fw : ((List.range 8).map fun i => rowD 8 (PT 8 i)).length ≤ 100000 := by rw [len_map]; decide
  have ne := neT (Gr.same_refl 8 (PT 8))
  have i8 := is_idem_ok (n := 8) (by decide) (by decide) I8
  have i1 := is_idem_not (n := 8) (by decide) (by decide) I1
  obtain ⟨a, b, q1, q2, q3⟩ := w4
  have q4 : neD (gD .dear) (gD .dear) = some (.bl false) := by kernel_rfl
  have m1 : mulD (.tup [gD .free]) (.int 9) = some (.tup (List.replicate 9 (gD .free))) := by kernel_rfl
  have m2 : mulD (.lst [.tup (List.replicate 9 (gD .free))]) (.int 9) = some (.lst (List.replicate 9 (.tup (List.replicate 9 (gD .free))))) := by kernel_rfl
  have n9 : D.tup (List.replicate 9 (.tup (List.replicate 9 (gD .free)))) = N9 := rfl
  have e1 := prod_no1 n9_q fun m _ h => n9_no m h
  have e2 := is_idem_no n9_q fun m _ h => n9_no m h
  have e3 := prod_no2 (n := 1) (by decide) (by decide) (fun _ _ => .free) (tab_q (n := 8) (by decide) (PT 8)) (by
    show (decide (((List.range 8).map fun i => rowD 8 (PT 8 i)).length = 1) && ((List.range 8).map fun i => rowD 8 (PT 8 i)).all (rowOk 1)) = false
    rw [len_map, decide_eq_false (by decide)]; rfl)
  have e3 : f_product [.d (.tup [.tup [gD .free]]), .d (tabD 8 (PT 8))] = _ := e3
  have e4 := pumped_no n9_q fun m _ h => n9_no m h
  have t1 : f_is_table [.d (.int 8), .d (tabD 8 (PT 1))] = _ := istab_ok (n := 8) (by decide) (by decide) (tab_q (by decide) (PT 1))
  have t2 : f_is_table [.d (.int 8), .d N9] = _ := istab_ok (n := 8) (by decide) (by decide) n9_q
  rw [tab_ok] at t1
  rw [n9_no 8 (by decide)] at t2
  have m4 : mulD (.lst [.str (Str.ofString "table")]) (.int 4) = some (.lst [.str (Str.ofString "table"), .str (Str.ofString "table"), .str (Str.ofString "table"), .str (Str.ofString "table")]) := by kernel_rfl
  have q9 : eqD (.lst [.str (Str.ofString "table"), .str (Str.ofString "table"), .str (Str.ofString "table"), .str (Str.ofString "table")]) (.lst [.str (Str.ofString "table"), .str (Str.ofString "table"), .str (Str.ofString "table"), .str (Str.ofString "table")]) = some (.bl true) := by kernel_rfl
  have v2 : ∀ a b : D, [a, b].length < 100000 := fun _ _ => by show 2 < 100000; decide
  have v3 : ∀ a b c : D, [a, b, c].length < 100000 := fun _ _ _ => by show 3 < 100000; decide
  simp only [f_law_written_right, q_law_written_right, EV, evn, evw, evh, evro, evshy, ↓reduceIte, decide_true, decide_false, decide_eq_true_eq, Bool.not_true, Bool.not_false, Bool.or_true, Bool.or_false, Bool.true_or, Bool.false_or, Bool.and_true, Bool.true_and, Bool.and_false, Bool.false_and, Bool.false_eq_true, Int.lt_irrefl, Nat.reduceLeDiff, Nat.reduceLT, Nat.reduceAdd, Int.reduceLT, Int.reduceLE, Int.reduceNeg, Int.reduceAdd, Int.reduceEq, Int.cast_ofNat_Int, id, gNone, gDear, gPaid, gFree, gRest, r8, R, r7, c6, tb, b_law_written_right_3, p1, p2, p3, p4, p5, p6, p7, du, fw, ne, i8, i1, q1, q2, q3, q4, m1, m2, n9, e1, e2, e3, e4, g_tab, t1, t2, m4, q9, w1, w1', v2, v3, List.cons_append, List.nil_append]
end Pl
namespace Pl
open PySem PySem.Spec PyProof.Rows L2
theorem turn_one {ns : List Int} {i j : D} {st : List D} {m : Nat} {s4 : Slot} (h : St st m) (hm : m ≤ 50000) : ∃ st' k, b_law_1 [.d (.scr ns), .d i, .o st, .d j, s4] = .ok .nx [.d (.scr ns), .d i, .o st', .d j, .d k] ∧ St st' (m + 1001) := by
  obtain ⟨r1, st1, h1, k1, k2, hy1⟩ := draw h 7
  obtain ⟨n, rfl⟩ := Int.eq_ofNat_of_zero_le k1
  have c1 : (1 : Int) + (n : Nat) = ((n + 1 : Nat) : Int) := by omega
  obtain ⟨st2, e2, hy2⟩ := right_ok (n := n + 1) (by omega) (by omega) hy1 (by omega)
  obtain ⟨st3, e3, hy3⟩ := values_ok (n := n + 1) (by omega) (by omega) hy2 (by omega)
  exact ⟨st3, .int ((n + 1 : Nat) : Int), by simp only [b_law_1, EV, evn, evw, evh, evro, evshy, ↓reduceIte, decide_true, decide_false, decide_eq_true_eq, Bool.not_true, Bool.not_false, Bool.or_true, Bool.or_false, Bool.true_or, Bool.false_or, Bool.and_true, Bool.true_and, Bool.and_false, Bool.false_and, Bool.false_eq_true, Int.lt_irrefl, Nat.reduceLeDiff, Nat.reduceLT, Nat.reduceAdd, Int.reduceLT, Int.reduceLE, Int.reduceNeg, Int.reduceAdd, Int.reduceEq, Int.cast_ofNat_Int, id, h1, c1, e2, e3], hy3.up (by omega)⟩
theorem turn_any {ns : List Int} {i : D} {st : List D} {m : Nat} {s3 s4 : Slot} (h : St st m) (hm : m ≤ 40000) : ∃ st' k, forL (nmD 3) b_law_1 [.int 0, .int 1] [.d (.scr ns), .d i, .o st, s3, s4] = .ok .nx [.d (.scr ns), .d i, .o st', .d (.int 1), .d k] := by
  obtain ⟨st1, k1, e1, hy1⟩ := turn_one (ns := ns) (i := i) (j := .int 0) (s4 := s4) h (by omega)
  obtain ⟨st2, k2, e2, hy2⟩ := turn_one (ns := ns) (i := i) (j := .int 1) (s4 := .d k1) hy1 (by omega)
  exact ⟨st2, k2, by rw [forL_rec (ρ1 := [.d (.scr ns), .d i, .o st, .d (.int 0), s4]) rfl e1, forL_rec (ρ1 := [.d (.scr ns), .d i, .o st1, .d (.int 1), .d k1]) rfl e2]; rfl⟩
theorem law_true (ns : List Int) (h : ns.length ≤ 63) : ∃ outs, f_law [.d (.scr ns)] = .ok (.v (.bl true)) outs := by
  have lm : lenD [.scr ns] = some (.int (ns.length : Nat)) := rfl
  generalize hk : (if (1 : Int) < (if ((ns.length : Nat) : Int) < 5 then ((ns.length : Nat) : Int) else 5) then (if ((ns.length : Nat) : Int) < 5 then ((ns.length : Nat) : Int) else 5) else 1) = k
  have k0 : 1 ≤ k ∧ k ≤ 5 := by rw [← hk]; split <;> split <;> omega
  have mm : min2D [.int 5, .int (ns.length : Nat)] = some (.int (if ((ns.length : Nat) : Int) < 5 then ((ns.length : Nat) : Int) else 5)) := rfl
  have mx : max2D [.int 1, .int (if ((ns.length : Nat) : Int) < 5 then ((ns.length : Nat) : Int) else 5)] = some (.int k) := by rw [← hk]; rfl
  have hr := rng_int (i := k) (by omega) (by omega)
  obtain ⟨ρ', e, t1, t2, t3, t4, rfl⟩ := forL_inv (gd := nmD 1) (body := b_law_2) (fun i ρ => ∃ t1 t2 t3 t4, ρ = [.d (.scr ns), t1, t2, t3, t4]) ((List.range k.toNat).map fun k => .int (k : Nat)) 0 [.d (.scr ns), .u, .u, .u, .u] ⟨.u, .u, .u, .u, rfl⟩
    fun i x ρ li hx ⟨t1, t2, t3, t4, e⟩ => by
      subst e
      obtain ⟨j, hj, rfl⟩ := List.mem_map.mp hx
      have hj := List.mem_range.mp hj
      obtain ⟨l, e1, hy⟩ := stream_ok h (i := (j : Nat)) (by omega) (by omega)
      obtain ⟨st', q, e2⟩ := turn_any (ns := ns) (i := .int (j : Nat)) (s3 := t3) (s4 := t4) hy (by omega)
      have r2 := rngs.2.1
      exact ⟨_, _, rfl, by simp only [b_law_2, EV, evn, evw, evh, evro, evshy, ↓reduceIte, decide_true, decide_false, decide_eq_true_eq, Bool.not_true, Bool.not_false, Bool.or_true, Bool.or_false, Bool.true_or, Bool.false_or, Bool.and_true, Bool.true_and, Bool.and_false, Bool.false_and, Bool.false_eq_true, Int.lt_irrefl, Nat.reduceLeDiff, Nat.reduceLT, Nat.reduceAdd, Int.reduceLT, Int.reduceLE, Int.reduceNeg, Int.reduceAdd, Int.reduceEq, Int.cast_ofNat_Int, id, e1, r2, e2], .d (.int (j : Nat)), .o st', .d (.int 1), .d q, rfl⟩
  have fx := written_ok
  refine ⟨[.d (.scr ns)], ?_⟩
  simp only [f_law, q_law, EV, evn, evw, evh, evro, evshy, ↓reduceIte, decide_true, decide_false, decide_eq_true_eq, Bool.not_true, Bool.not_false, Bool.or_true, Bool.or_false, Bool.true_or, Bool.false_or, Bool.and_true, Bool.true_and, Bool.and_false, Bool.false_and, Bool.false_eq_true, Int.lt_irrefl, Nat.reduceLeDiff, Nat.reduceLT, Nat.reduceAdd, Int.reduceLT, Int.reduceLE, Int.reduceNeg, Int.reduceAdd, Int.reduceEq, Int.cast_ofNat_Int, id, lm, mm, mx, hr, e, fx]
end Pl
namespace Pl
open PySem PySem.Spec PyProof.Rows L2
def dd (x : Str) (st : Stmt) : He.DefD := ⟨(x, none), x, x, defArgs st, defBody st, defScope st, [], []⟩
def dI (x : Str) (st : Stmt) : He.DefD := ⟨(x, some "__init__"), "__init__", x ++ ".__init__", defArgs st, defBody st, defScope st, [], []⟩
def fnL : List He.DefD := [dd "is_between" s_is_between, dd "packed_form" s_packed_form, dd "table_from" s_table_from, dd "row_times" s_row_times, dd "packed_product" s_packed_product, dd "is_packed_idempotent" s_is_packed_idempotent, dd "packed_pumped" s_packed_pumped, dd "is_table" s_is_table, dd "packed_table" s_packed_table, dd "first_packed" s_first_packed, dd "product" s_product, dd "is_idempotent" s_is_idempotent, dd "pumped" s_pumped, dd "_law_stream" s_law_stream, dd "_law_draw" s_law_draw, dd "_law_better" s_law_better, dd "_law_joined" s_law_joined, dd "_law_times" s_law_times, dd "_law_other" s_law_other, dd "_law_changed" s_law_changed, dd "_law_some_table" s_law_some_table, dd "_law_steady" s_law_steady, dd "_law_error" s_law_error, dd "_law_is_a_table" s_law_is_a_table, dd "_law_right" s_law_right, dd "_law_values_right" s_law_values_right, dd "_law_written_right" s_law_written_right, dd "law" s_law, dI "InvalidNumber" s_init_InvalidNumber]
def gloL : List Str := List.append ["is_between", "packed_form", "table_from", "row_times", "packed_product", "is_packed_idempotent", "packed_pumped", "is_table", "packed_table", "first_packed", "product", "is_idempotent", "pumped", "_law_stream", "_law_draw", "_law_better", "_law_joined", "_law_times", "_law_other", "_law_changed", "_law_some_table", "_law_steady", "_law_error", "_law_is_a_table"] (["_law_right", "_law_values_right", "_law_written_right", "law", "CODES", "ORDER", "NAMES", "LimitError", "InvalidTable", "InvalidOperation", "InvalidNumber"])
def freeL : List Str := ["int", "type", "tuple", "isinstance", "len", "enumerate", "zip", "abs", "max", "min", "range", "str", "bool", "repr", "list"]
def ownL : List Str := ["LimitError", "InvalidTable", "InvalidOperation", "InvalidNumber"]
def bltL : List (Str × Value) := []
def intL : List (Str × Int) := [("MAX_STATES", 8), ("RESTART", 16843009), ("FREE", 65793), ("PAID", 257), ("DEAR", 1)]
def strL : List (Str × Str) := []
def faL : List He.Fa := gloL.map He.Fa.glo ++ (freeL.map He.Fa.free ++ (intL.map (fun p => He.Fa.int p.1 p.2) ++ strL.map fun p => He.Fa.str p.1 p.2))
def con_CODES : List (Str × Int) := [("restart", 16843009), ("free", 65793), ("paid", 257), ("dear", 1), ("none", 0)]
def con_ORDER : List Str := ["none", "free", "paid", "restart", "dear"]
def con_NAMES : List (Int × Str) := [(16843009, "restart"), (65793, "free"), (257, "paid"), (1, "dear"), (0, "none")]
def tsL : List He.Tab := [(fun K => He.ga K "CODES", con_CODES.map (·.1))]
def tfL : List He.Defn := [("_law_values_right", none), ("_law_written_right", none)]
def exL (K : PySem.W.Frag) : Bool := errsB K ownL bltL errL && (xOwnB K (He.ga K "InvalidTable") && (xOwnB K (He.ga K "InvalidOperation") && (oexB K (He.ga K "InvalidNumber") (He.ma K (He.ga K "InvalidNumber") "__init__") "value" .ix && (tabSB K (He.ga K "CODES") con_CODES && (conTB K (He.ga K "ORDER") con_ORDER && (tabIB K (He.ga K "NAMES") con_NAMES && (nodupB (tfL.map fun p => (He.cT K p).2))))))))
abbrev rowL : PySem.W.OpenRow := PySem.W.OpenLaw.row PySem.Challenge.rw_openlimit_k19_products_of_tables
abbrev hookL : PySem.W.Hook := He.hookX 8 faL fnL tsL tfL exL
def obL (s : PySem.W.SharedT) : He.AlX := He.obsX 8 faL fnL tsL tfL exL (HandSHeadRun.getT s)
theorem obL_eq (s : PySem.W.SharedT) : obL s = hookL.obs s.abs := He.obsX_eq (HandSHeadRun.getT_eq s)
def looseL : List Str := List.append ["LimitError", "InvalidTable", "InvalidOperation", "InvalidNumber", "is_between", "MAX_STATES", "RESTART", "FREE", "PAID", "DEAR", "CODES", "ORDER", "NAMES", "packed_form", "table_from", "row_times", "packed_product", "is_packed_idempotent", "packed_pumped", "is_table", "packed_table", "first_packed", "product", "is_idempotent"] (["pumped", "_law_stream", "_law_draw", "_law_better", "_law_joined", "_law_times", "_law_other", "_law_changed", "_law_some_table", "_law_steady", "_law_error", "_law_is_a_table", "_law_right", "_law_values_right", "_law_written_right", "law"])
theorem runL (w : World) : HandSHeadRun.RunEq rowL (PySem.W.view rowL.prog [44]) hookL obL 20000 looseL w :=
  PySem.W.byRow2 "special-get-raises" (P := fun w => HandSHeadRun.RunEq rowL (PySem.W.view rowL.prog [44]) hookL obL 20000 looseL w) (fun w os => by kernel_rfl) (fun w os => by kernel_rfl) w
end Pl
namespace Pl
open PySem PySem.Spec PyProof.Rows L2
def tL (K : PySem.W.Frag) : List (Addr × Str) := [((He.cT K ("_law_values_right", none)).2, ("_law_values_right" : Str) ++ ".<locals>." ++ "<lambda>"), ((He.cT K ("_law_written_right", none)).2, ("_law_written_right" : Str) ++ ".<locals>." ++ "<lambda>")]
theorem atL {w : World} {K : PySem.W.Frag} {h : Heap} {mg : Str → Option Value} {f : Addr} (X : K.In h) (G : h.Ns mainGlobals mg) (hfa : mg "law" = some (.ref f)) (c : He.SaysX faL fnL tsL tfL exL w h K) :
    LawAtG PySem.Challenge.rw_openlimit_k19_products_of_tables w K 8 63 "script" mg f h := by
  have gl : ∀ x ∈ gloL, mg x = some (.ref (He.ga K x)) := fun x hx => He.glo_ok X G (c.t.d.facts (List.mem_append_left _ (List.mem_map.mpr ⟨x, hx, rfl⟩)))
  have fr : ∀ x ∈ freeL, mg x = none := fun x hx => He.free_ok X G (c.t.d.facts (List.mem_append_right _ (List.mem_append_left _ (List.mem_map.mpr ⟨x, hx, rfl⟩))))
  have it : ∀ p ∈ intL, ∃ t, mg p.1 = some (.int p.2 t) := fun p hp => He.int_ok X G (c.t.d.facts (List.mem_append_right _ (List.mem_append_right _ (List.mem_append_left _ (List.mem_map.mpr ⟨p, hp, rfl⟩)))))
  have sr : ∀ p ∈ strL, ∃ t, mg p.1 = some (.str p.2 t) := fun p hp => He.str_ok X G (c.t.d.facts (List.mem_append_right _ (List.mem_append_right _ (List.mem_append_right _ (List.mem_map.mpr ⟨p, hp, rfl⟩)))))
  obtain ⟨fd0, D0⟩ := c.t.d.def_ 0 (d := dd "is_between" s_is_between) rfl
  have F_is_between : Fun K "is_between" "is_between" s_is_between (He.ga K "is_between") fd0 := fun_of D0
  obtain ⟨fd1, D1⟩ := c.t.d.def_ 1 (d := dd "packed_form" s_packed_form) rfl
  have F_packed_form : Fun K "packed_form" "packed_form" s_packed_form (He.ga K "packed_form") fd1 := fun_of D1
  obtain ⟨fd2, D2⟩ := c.t.d.def_ 2 (d := dd "table_from" s_table_from) rfl
  have F_table_from : Fun K "table_from" "table_from" s_table_from (He.ga K "table_from") fd2 := fun_of D2
  obtain ⟨fd3, D3⟩ := c.t.d.def_ 3 (d := dd "row_times" s_row_times) rfl
  have F_row_times : Fun K "row_times" "row_times" s_row_times (He.ga K "row_times") fd3 := fun_of D3
  obtain ⟨fd4, D4⟩ := c.t.d.def_ 4 (d := dd "packed_product" s_packed_product) rfl
  have F_packed_product : Fun K "packed_product" "packed_product" s_packed_product (He.ga K "packed_product") fd4 := fun_of D4
  obtain ⟨fd5, D5⟩ := c.t.d.def_ 5 (d := dd "is_packed_idempotent" s_is_packed_idempotent) rfl
  have F_is_packed_idempotent : Fun K "is_packed_idempotent" "is_packed_idempotent" s_is_packed_idempotent (He.ga K "is_packed_idempotent") fd5 := fun_of D5
  obtain ⟨fd6, D6⟩ := c.t.d.def_ 6 (d := dd "packed_pumped" s_packed_pumped) rfl
  have F_packed_pumped : Fun K "packed_pumped" "packed_pumped" s_packed_pumped (He.ga K "packed_pumped") fd6 := fun_of D6
  obtain ⟨fd7, D7⟩ := c.t.d.def_ 7 (d := dd "is_table" s_is_table) rfl
  have F_is_table : Fun K "is_table" "is_table" s_is_table (He.ga K "is_table") fd7 := fun_of D7
  obtain ⟨fd8, D8⟩ := c.t.d.def_ 8 (d := dd "packed_table" s_packed_table) rfl
  have F_packed_table : Fun K "packed_table" "packed_table" s_packed_table (He.ga K "packed_table") fd8 := fun_of D8
  obtain ⟨fd9, D9⟩ := c.t.d.def_ 9 (d := dd "first_packed" s_first_packed) rfl
  have F_first_packed : Fun K "first_packed" "first_packed" s_first_packed (He.ga K "first_packed") fd9 := fun_of D9
  obtain ⟨fd10, D10⟩ := c.t.d.def_ 10 (d := dd "product" s_product) rfl
  have F_product : Fun K "product" "product" s_product (He.ga K "product") fd10 := fun_of D10
  obtain ⟨fd11, D11⟩ := c.t.d.def_ 11 (d := dd "is_idempotent" s_is_idempotent) rfl
  have F_is_idempotent : Fun K "is_idempotent" "is_idempotent" s_is_idempotent (He.ga K "is_idempotent") fd11 := fun_of D11
  obtain ⟨fd12, D12⟩ := c.t.d.def_ 12 (d := dd "pumped" s_pumped) rfl
  have F_pumped : Fun K "pumped" "pumped" s_pumped (He.ga K "pumped") fd12 := fun_of D12
  obtain ⟨fd13, D13⟩ := c.t.d.def_ 13 (d := dd "_law_stream" s_law_stream) rfl
  have F_law_stream : Fun K "_law_stream" "_law_stream" s_law_stream (He.ga K "_law_stream") fd13 := fun_of D13
  obtain ⟨fd14, D14⟩ := c.t.d.def_ 14 (d := dd "_law_draw" s_law_draw) rfl
  have F_law_draw : Fun K "_law_draw" "_law_draw" s_law_draw (He.ga K "_law_draw") fd14 := fun_of D14
  obtain ⟨fd15, D15⟩ := c.t.d.def_ 15 (d := dd "_law_better" s_law_better) rfl
  have F_law_better : Fun K "_law_better" "_law_better" s_law_better (He.ga K "_law_better") fd15 := fun_of D15
  obtain ⟨fd16, D16⟩ := c.t.d.def_ 16 (d := dd "_law_joined" s_law_joined) rfl
  have F_law_joined : Fun K "_law_joined" "_law_joined" s_law_joined (He.ga K "_law_joined") fd16 := fun_of D16
  obtain ⟨fd17, D17⟩ := c.t.d.def_ 17 (d := dd "_law_times" s_law_times) rfl
  have F_law_times : Fun K "_law_times" "_law_times" s_law_times (He.ga K "_law_times") fd17 := fun_of D17
  obtain ⟨fd18, D18⟩ := c.t.d.def_ 18 (d := dd "_law_other" s_law_other) rfl
  have F_law_other : Fun K "_law_other" "_law_other" s_law_other (He.ga K "_law_other") fd18 := fun_of D18
  obtain ⟨fd19, D19⟩ := c.t.d.def_ 19 (d := dd "_law_changed" s_law_changed) rfl
  have F_law_changed : Fun K "_law_changed" "_law_changed" s_law_changed (He.ga K "_law_changed") fd19 := fun_of D19
  obtain ⟨fd20, D20⟩ := c.t.d.def_ 20 (d := dd "_law_some_table" s_law_some_table) rfl
  have F_law_some_table : Fun K "_law_some_table" "_law_some_table" s_law_some_table (He.ga K "_law_some_table") fd20 := fun_of D20
  obtain ⟨fd21, D21⟩ := c.t.d.def_ 21 (d := dd "_law_steady" s_law_steady) rfl
  have F_law_steady : Fun K "_law_steady" "_law_steady" s_law_steady (He.ga K "_law_steady") fd21 := fun_of D21
  obtain ⟨fd22, D22⟩ := c.t.d.def_ 22 (d := dd "_law_error" s_law_error) rfl
  have F_law_error : Fun K "_law_error" "_law_error" s_law_error (He.ga K "_law_error") fd22 := fun_of D22
  obtain ⟨fd23, D23⟩ := c.t.d.def_ 23 (d := dd "_law_is_a_table" s_law_is_a_table) rfl
  have F_law_is_a_table : Fun K "_law_is_a_table" "_law_is_a_table" s_law_is_a_table (He.ga K "_law_is_a_table") fd23 := fun_of D23
  obtain ⟨fd24, D24⟩ := c.t.d.def_ 24 (d := dd "_law_right" s_law_right) rfl
  have F_law_right : Fun K "_law_right" "_law_right" s_law_right (He.ga K "_law_right") fd24 := fun_of D24
  obtain ⟨fd25, D25⟩ := c.t.d.def_ 25 (d := dd "_law_values_right" s_law_values_right) rfl
  have F_law_values_right : Fun K "_law_values_right" "_law_values_right" s_law_values_right (He.ga K "_law_values_right") fd25 := fun_of D25
  have C_law_values_right : FunC K "_law_values_right" "_law_values_right" s_law_values_right (He.ga K "_law_values_right") fd25 (.ref (He.codeOf K ("_law_values_right", none))) := funC_of (p := ("_law_values_right", none)) D25
  obtain ⟨fd26, D26⟩ := c.t.d.def_ 26 (d := dd "_law_written_right" s_law_written_right) rfl
  have F_law_written_right : Fun K "_law_written_right" "_law_written_right" s_law_written_right (He.ga K "_law_written_right") fd26 := fun_of D26
  have C_law_written_right : FunC K "_law_written_right" "_law_written_right" s_law_written_right (He.ga K "_law_written_right") fd26 (.ref (He.codeOf K ("_law_written_right", none))) := funC_of (p := ("_law_written_right", none)) D26
  obtain ⟨fd27, D27⟩ := c.t.d.def_ 27 (d := dd "law" s_law) rfl
  have F_law : Fun K "law" "law" s_law (He.ga K "law") fd27 := fun_of D27
  obtain ⟨fd28, D28⟩ := c.t.d.def_ 28 (d := dI "InvalidNumber" s_init_InvalidNumber) rfl
  have F_init_InvalidNumber : Fun K "__init__" "InvalidNumber.__init__" s_init_InvalidNumber (He.ma K (He.ga K "InvalidNumber") "__init__") fd28 := fun_of D28
  have more := c.more
  obtain ⟨e0, more⟩ := He.ba more
  obtain ⟨e1, more⟩ := He.ba more
  obtain ⟨e2, more⟩ := He.ba more
  obtain ⟨e3, more⟩ := He.ba more
  obtain ⟨e4, more⟩ := He.ba more
  obtain ⟨e5, more⟩ := He.ba more
  obtain ⟨e6, more⟩ := He.ba more
  have e7 := more
  have Te : ErrTab K mg tab_err := errTab_of (own := ownL) (bl := bltL) (by decide +kernel) (fun x hx => gl x (by revert x; decide)) (fun p hp => fr p.1 (by revert p; decide)) e0
  have x_InvalidTable : XOwn K mg "InvalidTable" (He.ga K "InvalidTable") := xOwn_of (gl _ (by decide)) e1
  have x_InvalidOperation : XOwn K mg "InvalidOperation" (He.ga K "InvalidOperation") := xOwn_of (gl _ (by decide)) e2
  have xf_InvalidNumber : XfC K (He.ga K "InvalidNumber") ∧ PySem.W.findIn K (.ref (He.ga K "InvalidNumber")) "value" = some none := (oex_of e3).2.2.2
  have t_CODES : Pl.TabS K w (He.ga K "CODES") tab_CODES := tabS_of (c.t.tab 0) e4
  have t_ORDER : ConT K (He.ga K "ORDER") tab_ORDER := conT_of e5
  have t_NAMES : TabI K (He.ga K "NAMES") tab_NAMES := tabI_of e6
  have nd := nodup_of e7
  obtain ⟨t_MAX_STATES, n_MAX_STATES⟩ := it ("MAX_STATES", 8) (by decide)
  obtain ⟨t_RESTART, n_RESTART⟩ := it ("RESTART", 16843009) (by decide)
  obtain ⟨t_FREE, n_FREE⟩ := it ("FREE", 65793) (by decide)
  obtain ⟨t_PAID, n_PAID⟩ := it ("PAID", 257) (by decide)
  obtain ⟨t_DEAR, n_DEAR⟩ := it ("DEAR", 1) (by decide)
  have eL := hfa.symm.trans (gl "law" (by decide))
  cases eL
  refine ⟨fd27, tfL.map (He.cT K), spM ⟨K, mg, tL K, none⟩ f_law, fun p hp => ?_, fun s u => ?_, fun H a ns hl hT hS => ?_, fun base KB GB TB => ?_⟩
  · obtain ⟨q, hq, rfl⟩ := List.mem_map.mp hp
    exact ⟨c.empty _ hq, c.out _ hq, PySem.W.codeHd_of_K X (c.hd _ hq)⟩
  · obtain ⟨oc, od, kV, doc, pm, an, cdv, ct, osl, e, l, cc⟩ := F_law.ex
    rw [e]
    exact .of_eq rfl
  · obtain ⟨outs, ht⟩ := law_true ns hl
    refine law_sp (fun p hp => ?_) hS ht
    have hq : p.1 ∈ (tfL.map (He.cT K)).map (·.2) := by
      have := List.mem_map_of_mem (f := Prod.fst) hp
      exact this
    obtain ⟨q, hq, e⟩ := List.mem_map.mp hq
    rw [← e]
    exact .nil (hT q hq)
  · have TB_law_values_right := TB (He.cT K ("_law_values_right", none)) (List.mem_map.mpr ⟨("_law_values_right", none), by decide, rfl⟩)
    have mT_law_values_right : ((He.cT K ("_law_values_right", none)).2, ("_law_values_right" : Str) ++ ".<locals>." ++ "<lambda>") ∈ tL K := (by unfold tL; exact List.mem_cons_self)
    have hu_law_values_right : ∀ p ∈ tL K, p.1 = (He.cT K ("_law_values_right", none)).2 → p.2 = ("_law_values_right" : Str) ++ ".<locals>." ++ "<lambda>" := one_of (i := 0) nd rfl rfl
    have TB_law_written_right := TB (He.cT K ("_law_written_right", none)) (List.mem_map.mpr ⟨("_law_written_right", none), by decide, rfl⟩)
    have mT_law_written_right : ((He.cT K ("_law_written_right", none)).2, ("_law_written_right" : Str) ++ ".<locals>." ++ "<lambda>") ∈ tL K := (by unfold tL; exact List.mem_cons_of_mem _ (List.mem_cons_self))
    have hu_law_written_right : ∀ p ∈ tL K, p.1 = (He.cT K ("_law_written_right", none)).2 → p.2 = ("_law_written_right" : Str) ++ ".<locals>." ++ "<lambda>" := one_of (i := 1) nd rfl rfl
    have x_InvalidNumber : XVal PySem.Challenge.rw_openlimit_k19_products_of_tables.prog w K mg base "InvalidNumber" "value" (He.ga K "InvalidNumber") := ⟨gl _ (by decide), (oex_of e3).1, _, _, "self", "value", (oex_of e3).2.1, (oex_of e3).2.2.1, ok_init_InvalidNumber F_init_InvalidNumber, F_init_InvalidNumber.binds (ps := ["self", "value"]) fun _ _ _ _ _ _ us hl => match us, hl with | [_, _], _ => rfl⟩
    have b_law_error := F_law_error.binds (ps := ["call"]) fun _ _ _ _ _ _ us hl => match us, hl with | [_], _ => rfl
    have V_law_error : ∀ {X : Cx} {cdg : Value} {q : Str}, X.mg = mg → X.K = K → X.A.guards = some [] → Room 1 X.A → LamX.GivesTo X ["call", "e"] "_law_error" (defScope s_law_error) (He.ga K "_law_error") cdg (defBody s_law_error) "call" q (LamGo ⟨X.K, X.mg, tL K, none⟩ gm_law_error) := fun {X} {cdg} {q} em ek hgX hrX => by
      subst em ek
      exact gives_law_error (gl _ (by decide)) (gl _ (by decide)) (gl _ (by decide)) xf_InvalidNumber (fr _ (by decide)) (fr _ (by decide)) Te hgX hrX
    have h_is_between := hasG F_is_between (gl _ (by decide)) (F_is_between.binds (ps := ["value", "low", "high"]) fun _ _ _ _ _ _ us hl => match us, hl with | [_, _, _], _ => rfl) (ok_is_between (P := PySem.Challenge.rw_openlimit_k19_products_of_tables.prog) (w := w) (base := base) (T := tL K) (fr _ (by decide)) (fr _ (by decide)) F_is_between)
    have h_packed_form := hasG F_packed_form (gl _ (by decide)) (F_packed_form.binds (ps := ["size", "value"]) fun _ _ _ _ _ _ us hl => match us, hl with | [_, _], _ => rfl) (ok_packed_form (P := PySem.Challenge.rw_openlimit_k19_products_of_tables.prog) (w := w) (base := base) (T := tL K) (fr _ (by decide)) (fr _ (by decide)) (fr _ (by decide)) (gl _ (by decide)) t_ORDER (gl _ (by decide)) t_CODES F_packed_form)
    have h_table_from := hasG F_table_from (gl _ (by decide)) (F_table_from.binds (ps := ["packed"]) fun _ _ _ _ _ _ us hl => match us, hl with | [_], _ => rfl) (ok_table_from (P := PySem.Challenge.rw_openlimit_k19_products_of_tables.prog) (w := w) (base := base) (T := tL K) (fr _ (by decide)) (gl _ (by decide)) t_NAMES n_RESTART F_table_from)
    have h_row_times := hasG F_row_times (gl _ (by decide)) (F_row_times.binds (ps := ["row", "packed"]) fun _ _ _ _ _ _ us hl => match us, hl with | [_, _], _ => rfl) (ok_row_times (P := PySem.Challenge.rw_openlimit_k19_products_of_tables.prog) (w := w) (base := base) (T := tL K) n_RESTART n_FREE n_PAID n_DEAR F_row_times)
    have h_law_stream := hasG F_law_stream (gl _ (by decide)) (F_law_stream.binds (ps := ["script", "at"]) fun _ _ _ _ _ _ us hl => match us, hl with | [_, _], _ => rfl) (ok_law_stream (P := PySem.Challenge.rw_openlimit_k19_products_of_tables.prog) (w := w) (base := base) (T := tL K) (fr _ (by decide)) (fr _ (by decide)) (fr _ (by decide)) (fr _ (by decide)) F_law_stream)
    have h_law_draw := hasG F_law_draw (gl _ (by decide)) (F_law_draw.binds (ps := ["stream", "total"]) fun _ _ _ _ _ _ us hl => match us, hl with | [_, _], _ => rfl) (ok_law_draw (P := PySem.Challenge.rw_openlimit_k19_products_of_tables.prog) (w := w) (base := base) (T := tL K)  F_law_draw)
    have h_law_better := hasG F_law_better (gl _ (by decide)) (F_law_better.binds (ps := ["one", "other"]) fun _ _ _ _ _ _ us hl => match us, hl with | [_, _], _ => rfl) (ok_law_better (P := PySem.Challenge.rw_openlimit_k19_products_of_tables.prog) (w := w) (base := base) (T := tL K) (fr _ (by decide)) F_law_better)
    have h_law_joined := hasG F_law_joined (gl _ (by decide)) (F_law_joined.binds (ps := ["one", "other"]) fun _ _ _ _ _ _ us hl => match us, hl with | [_, _], _ => rfl) (ok_law_joined (P := PySem.Challenge.rw_openlimit_k19_products_of_tables.prog) (w := w) (base := base) (T := tL K) (fr _ (by decide)) F_law_joined)
    have h_law_is_a_table := hasG F_law_is_a_table (gl _ (by decide)) (F_law_is_a_table.binds (ps := ["size", "value"]) fun _ _ _ _ _ _ us hl => match us, hl with | [_, _], _ => rfl) (ok_law_is_a_table (P := PySem.Challenge.rw_openlimit_k19_products_of_tables.prog) (w := w) (base := base) (T := tL K) (fr _ (by decide)) (fr _ (by decide)) (fr _ (by decide)) (fr _ (by decide)) F_law_is_a_table)
    have h_packed_product := hasG F_packed_product (gl _ (by decide)) (F_packed_product.binds (ps := ["first", "second"]) fun _ _ _ _ _ _ us hl => match us, hl with | [_, _], _ => rfl) (ok_packed_product (P := PySem.Challenge.rw_openlimit_k19_products_of_tables.prog) (w := w) (base := base) (T := tL K) (fr _ (by decide)) h_row_times F_packed_product)
    have h_is_packed_idempotent := hasG F_is_packed_idempotent (gl _ (by decide)) (F_is_packed_idempotent.binds (ps := ["packed"]) fun _ _ _ _ _ _ us hl => match us, hl with | [_], _ => rfl) (ok_is_packed_idempotent (P := PySem.Challenge.rw_openlimit_k19_products_of_tables.prog) (w := w) (base := base) (T := tL K) h_row_times F_is_packed_idempotent)
    have h_packed_table := hasG F_packed_table (gl _ (by decide)) (F_packed_table.binds (ps := ["size", "table"]) fun _ _ _ _ _ _ us hl => match us, hl with | [_, _], _ => rfl) (ok_packed_table (P := PySem.Challenge.rw_openlimit_k19_products_of_tables.prog) (w := w) (base := base) (T := tL K) h_packed_form x_InvalidTable F_packed_table)
    have h_law_times := hasG F_law_times (gl _ (by decide)) (F_law_times.binds (ps := ["one", "other"]) fun _ _ _ _ _ _ us hl => match us, hl with | [_, _], _ => rfl) (ok_law_times (P := PySem.Challenge.rw_openlimit_k19_products_of_tables.prog) (w := w) (base := base) (T := tL K) (fr _ (by decide)) (fr _ (by decide)) (fr _ (by decide)) (fr _ (by decide)) h_law_better h_law_joined F_law_times)
    have h_law_other := hasG F_law_other (gl _ (by decide)) (F_law_other.binds (ps := ["stream"]) fun _ _ _ _ _ _ us hl => match us, hl with | [_], _ => rfl) (ok_law_other (P := PySem.Challenge.rw_openlimit_k19_products_of_tables.prog) (w := w) (base := base) (T := tL K) h_law_draw (fr _ (by decide)) F_law_other)
    have h_law_some_table := hasG F_law_some_table (gl _ (by decide)) (F_law_some_table.binds (ps := ["stream", "size"]) fun _ _ _ _ _ _ us hl => match us, hl with | [_, _], _ => rfl) (ok_law_some_table (P := PySem.Challenge.rw_openlimit_k19_products_of_tables.prog) (w := w) (base := base) (T := tL K) (fr _ (by decide)) (fr _ (by decide)) h_law_draw F_law_some_table)
    have h_packed_pumped := hasG F_packed_pumped (gl _ (by decide)) (F_packed_pumped.binds (ps := ["packed"]) fun _ _ _ _ _ _ us hl => match us, hl with | [_], _ => rfl) (ok_packed_pumped (P := PySem.Challenge.rw_openlimit_k19_products_of_tables.prog) (w := w) (base := base) (T := tL K) n_PAID h_packed_product n_RESTART h_row_times (fr _ (by decide)) n_DEAR (fr _ (by decide)) F_packed_pumped)
    have h_is_table := hasG F_is_table (gl _ (by decide)) (F_is_table.binds (ps := ["size", "value"]) fun _ _ _ _ _ _ us hl => match us, hl with | [_, _], _ => rfl) (ok_is_table (P := PySem.Challenge.rw_openlimit_k19_products_of_tables.prog) (w := w) (base := base) (T := tL K) h_is_between n_MAX_STATES x_InvalidNumber h_packed_form F_is_table)
    have h_first_packed := hasG F_first_packed (gl _ (by decide)) (F_first_packed.binds (ps := ["table"]) fun _ _ _ _ _ _ us hl => match us, hl with | [_], _ => rfl) (ok_first_packed (P := PySem.Challenge.rw_openlimit_k19_products_of_tables.prog) (w := w) (base := base) (T := tL K) h_packed_table x_InvalidTable (fr _ (by decide)) (fr _ (by decide)) (fr _ (by decide)) n_MAX_STATES F_first_packed)
    have h_law_steady := hasG F_law_steady (gl _ (by decide)) (F_law_steady.binds (ps := ["table"]) fun _ _ _ _ _ _ us hl => match us, hl with | [_], _ => rfl) (ok_law_steady (P := PySem.Challenge.rw_openlimit_k19_products_of_tables.prog) (w := w) (base := base) (T := tL K) (fr _ (by decide)) h_law_times F_law_steady)
    have h_product := hasS F_product (gl _ (by decide)) (ok_product (P := PySem.Challenge.rw_openlimit_k19_products_of_tables.prog) (w := w) (base := base) (T := tL K) h_first_packed h_table_from h_packed_table h_packed_product (fr _ (by decide)) F_product (by
      obtain ⟨oc, od, kV, doc, pm, an, cdv, ct, osl, e, l, cc⟩ := F_product.ex
      rw [e]
      intro v rest
      cases rest <;> rfl))
    have h_is_idempotent := hasG F_is_idempotent (gl _ (by decide)) (F_is_idempotent.binds (ps := ["table"]) fun _ _ _ _ _ _ us hl => match us, hl with | [_], _ => rfl) (ok_is_idempotent (P := PySem.Challenge.rw_openlimit_k19_products_of_tables.prog) (w := w) (base := base) (T := tL K) h_is_packed_idempotent h_first_packed F_is_idempotent)
    have h_pumped := hasG F_pumped (gl _ (by decide)) (F_pumped.binds (ps := ["table"]) fun _ _ _ _ _ _ us hl => match us, hl with | [_], _ => rfl) (ok_pumped (P := PySem.Challenge.rw_openlimit_k19_products_of_tables.prog) (w := w) (base := base) (T := tL K) h_first_packed h_table_from h_is_packed_idempotent x_InvalidOperation h_packed_pumped F_pumped)
    have h_law_right := hasG F_law_right (gl _ (by decide)) (F_law_right.binds (ps := ["stream", "size"]) fun _ _ _ _ _ _ us hl => match us, hl with | [_, _], _ => rfl) (ok_law_right (P := PySem.Challenge.rw_openlimit_k19_products_of_tables.prog) (w := w) (base := base) (T := tL K) h_law_times h_law_steady h_law_some_table (fr _ (by decide)) (fr _ (by decide)) h_product h_is_idempotent F_law_right)
    have b_law_changed := (F_law_changed.binds (ps := ["stream", "value"]) fun _ _ _ _ _ _ us hl => match us, hl with | [_, _], _ => rfl)
    have h_law_changed := hasG F_law_changed (gl _ (by decide)) b_law_changed (ok_law_changed (P := PySem.Challenge.rw_openlimit_k19_products_of_tables.prog) (w := w) (base := base) (T := tL K) h_law_other (fr _ (by decide)) (fr _ (by decide)) h_law_draw (fr _ (by decide)) (fr _ (by decide)) (fr _ (by decide)) (fr _ (by decide)) F_law_changed (gl _ (by decide)) b_law_changed)
    have h_law_values_right := hasG F_law_values_right (gl _ (by decide)) (F_law_values_right.binds (ps := ["stream", "size"]) fun _ _ _ _ _ _ us hl => match us, hl with | [_, _], _ => rfl) (ok_law_values_right (P := PySem.Challenge.rw_openlimit_k19_products_of_tables.prog) (w := w) (base := base) (T := tL K) h_law_some_table (fr _ (by decide)) (fr _ (by decide)) h_law_draw h_law_other h_law_is_a_table (fr _ (by decide)) (fr _ (by decide)) (fr _ (by decide)) h_law_changed h_is_table (fr _ (by decide)) h_product h_is_idempotent F_law_error b_law_error (gl _ (by decide)) V_law_error TB_law_values_right mT_law_values_right hu_law_values_right C_law_values_right)
    have h_law_written_right := hasG F_law_written_right (gl _ (by decide)) (F_law_written_right.binds (ps := []) fun _ _ _ _ _ _ us hl => match us, hl with | [], _ => rfl) (ok_law_written_right (P := PySem.Challenge.rw_openlimit_k19_products_of_tables.prog) (w := w) (base := base) (T := tL K) (fr _ (by decide)) (fr _ (by decide)) h_product h_is_idempotent h_is_table h_pumped (fr _ (by decide)) F_law_error b_law_error (gl _ (by decide)) V_law_error TB_law_written_right mT_law_written_right hu_law_written_right C_law_written_right)
    exact ok_law (P := PySem.Challenge.rw_openlimit_k19_products_of_tables.prog) (w := w) (base := base) (T := tL K) (fr _ (by decide)) h_law_written_right (fr _ (by decide)) h_law_stream (fr _ (by decide)) (fr _ (by decide)) h_law_draw h_law_right h_law_values_right F_law
end Pl
open PySem PySem.W PySem.Calls PyProof.Rows
theorem PySem.Challenge.cw_openlimit_k19_products_of_tables_holds : PySem.Challenge.rw_openlimit_k19_products_of_tables.Holds := by
  w_on; o_law
  refine HandSHeadRun.head_any (r := OpenLaw.row PySem.Challenge.rw_openlimit_k19_products_of_tables) (q := view (OpenLaw.row PySem.Challenge.rw_openlimit_k19_products_of_tables).prog [44]) (H := Pl.hookL) (ob := Pl.obL) (M := 20000) (loose := Pl.looseL) (d := HandSHeadRun.topDef (OpenLaw.row PySem.Challenge.rw_openlimit_k19_products_of_tables).prog 44) (kwd := []) Pl.obL_eq
    (by kernel_rfl) (fun s => by kernel_rfl) Pl.runL (by kernel_rfl) (by kernel_rfl) (by kernel_rfl) (by rfl) (by first | assumption | decide +kernel) (by decide +kernel) ⟨rfl, rfl, rfl, rfl, rfl, by decide +kernel⟩ ?hw ?hc
  case hw => w_witness2
  case hc =>
    refine Pl.walk_G (l := PySem.Challenge.rw_openlimit_k19_products_of_tables) (n := 63) (k := 8) (x := "script") rfl (by decide) (by kernel_rfl) ⟨rfl, by decide, by decide⟩ ?F
    case F =>
      intro w mg fa h Y G hmg0
      obtain ⟨K, KX, c⟩ := Y
      have hmg : mg ("law" : PySem.Str) = some (.ref fa) := by
        have e : (HandSHeadRun.topDef (OpenLaw.row PySem.Challenge.rw_openlimit_k19_products_of_tables).prog 44).name = ("law" : PySem.Str) := by kernel_rfl
        rw [← e]
        exact hmg0
      exact ⟨K, KX, Pl.atL KX G hmg c⟩
