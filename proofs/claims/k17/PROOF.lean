import PyProof.Rows.All
import Wide.All
import OpenK.AllK
import Wide.FinOn
import KE.SortData
import KE.DatumIndex
import HandS.Base
import HandS.Call
import HandS.List
import HandS.Comp
import HandS.Dict
import HandS.Iter
import HandS.Walk
import HandS.Text
import HandS.More
import HandS.Ends
import HandS.Words
import HandS.WordsList
import HandS.WordsDict
import HandS.WordsExc
import HandS.Wide
import HandS.Exc
import HandS.ExcOwn
import HandS.Defaults
import HandS.Lambda
import HandS.TupAny
import HandS.TupMul
import HandS.Deep
import HandS.IsInst
import PyProof.NeKinds
import PyProof.TypeEq
import HandS.Zip
import KE.LtData
import PyProof.ListStr
import HandS.Rev
import HandS.TryMany
import HandS.TryOnly
import HandS.ExcIs
import HandS.Star
import HandS.SortKw
import HandS.Strs
import KE.DataMinMax
import KE.KStateDown
import HandS.HeadHook4
import HandS.HeadWalk
import HandS.HeadEnd
import HandS.Head2
import PySem.Challenge.RW_openlimit_k17_choice_and_sequence
set_option Elab.async false
set_option linter.all false
set_option maxRecDepth 100000
set_option maxHeartbeats 0
/-! Values by their content: data, environments of them, what a piece of code does to them. -/
namespace Pl
open PySem PySem.Spec PyProof.Rows L2
inductive D where
  | non | bl (b : Bool) | int (i : Int) | str (x : Str) | tup (xs : List D) | lst (xs : List D) | dct (ks : List Key) (ds : List D) | rf (v : V) | scr (ns : List Int)
/-- what a name holds: nothing known, data that stays, a list or a dict of the frame's own that may still change -/
inductive Slot where
  | u | d (x : D) | o (xs : List D) | q (kvs : List (Key × D)) | qt (kvs : List (List Key × D))
abbrev Env := List Slot
structure Exn where
  cls : Str
  val : Option (Str × D)
inductive Rs (α : Type) where
  | ok (a : α) (ρ : Env) | ex (e : Exn) (ρ : Env) | bad
abbrev M (α : Type) := Env → Rs α
variable {α β : Type}
def M.pure (a : α) : M α := fun ρ => .ok a ρ
def M.bind (m : M α) (f : α → M β) : M β := fun ρ => match m ρ with
  | .ok a ρ' => f a ρ'
  | .ex e ρ' => .ex e ρ'
  | .bad => .bad
def M.lift : Option α → M α
  | some a => M.pure a
  | none => fun _ => .bad
/-! ### how data stands in the heap -/
/-- a tuple that is tracked, or one of the module's own -/
def TupAt (K : PySem.W.Frag) (F : Hp) (a : Addr) (xs : List V) : Prop :=
  F a = some (.tup xs) ∨ ∃ (o : Obj) (its : Array Value) (n : Nat), K.lookup a = some o ∧ o.cls = .type "tuple" ∧ o.data = .seq its n ∧ its.size ≤ sizeLine ∧ Vals xs its.toList
theorem TupAt.sq {K : PySem.W.Frag} {F : Hp} {a : Addr} {xs : List V} (h : TupAt K F a xs) : SqT K F a xs := h.elim (fun h => .of h) .inr
section
variable (K : PySem.W.Frag) (F : Hp)
mutual
def Rep : D → V → Prop
  | .non, v => v = .non
  | .bl b, v => v = .bl b
  | .int i, v => v = .int i
  | .str x, v => v = .str x
  | .tup ds, v => ∃ a xs, v = .ref a ∧ TupAt K F a xs ∧ RepL ds xs
  | .lst ds, v => ∃ a xs, v = .ref a ∧ F a = some (.lst xs) ∧ RepL ds xs
  | .dct ks ds, v => ∃ a us, v = .ref a ∧ F a = some (.dK us) ∧ us.map (·.1) = ks ∧ RepL ds (us.map (·.2))
  | .rf w, v => v = w
  | .scr ns, v => ∃ a, v = .ref a ∧ SqL K F a (ns.map V.int)
def RepL : List D → List V → Prop
  | [], xs => xs = []
  | d :: ds, xs => ∃ v vs, xs = v :: vs ∧ Rep d v ∧ RepL ds vs
end
end
section
variable {K : PySem.W.Frag} {F F' : Hp}
theorem sqT_mono {a : Addr} {xs : List V} (e : Same F F') (h : SqT K F a xs) : SqT K F' a xs := by
  rcases h with (h | ⟨o, h⟩) | h
  · exact .inl (.inl (e _ _ h))
  · exact .inl (.inr ⟨o, e _ _ h⟩)
  · exact .inr h
theorem tup_mono {a : Addr} {xs : List V} (e : Same F F') (h : TupAt K F a xs) : TupAt K F' a xs := h.imp (e _ _) id
theorem rd_mono {a : Addr} {u : HO} (e : Same F F') (h : Rd F a u) : Rd F' a u := by
  rcases h with h | ⟨o, h⟩
  · exact .inl (e _ _ h)
  · exact .inr ⟨o, e _ _ h⟩
mutual
theorem Rep.mono (e : Same F F') : ∀ (d : D) {v : V}, Rep K F d v → Rep K F' d v
  | .non, _, h => h
  | .bl _, _, h => h
  | .int _, _, h => h
  | .str _, _, h => h
  | .rf _, _, h => h
  | .tup ds, _, ⟨a, xs, h1, h2, h3⟩ => ⟨a, xs, h1, tup_mono e h2, RepL.mono e ds h3⟩
  | .lst ds, _, ⟨a, xs, h1, h2, h3⟩ => ⟨a, xs, h1, e _ _ h2, RepL.mono e ds h3⟩
  | .dct _ ds, _, ⟨a, us, h1, h2, h3, h4⟩ => ⟨a, us, h1, e _ _ h2, h3, RepL.mono e ds h4⟩
  | .scr _, _, ⟨a, h1, h2⟩ => ⟨a, h1, e.seq h2⟩
theorem RepL.mono (e : Same F F') : ∀ (ds : List D) {vs : List V}, RepL K F ds vs → RepL K F' ds vs
  | [], _, h => h
  | d :: ds, _, ⟨v, vs, h1, h2, h3⟩ => ⟨v, vs, h1, Rep.mono e d h2, RepL.mono e ds h3⟩
end
theorem RepL.len : ∀ {ds : List D} {vs : List V}, RepL K F ds vs → ds.length = vs.length
  | [], _, h => by
    have h : _ = [] := h
    rw [h]
    rfl
  | d :: ds, _, ⟨v, vs, h1, h2, h3⟩ => by rw [h1, List.length_cons, List.length_cons, RepL.len h3]
theorem RepL.nil : RepL K F [] [] := rfl
theorem RepL.cons {d : D} {ds : List D} {v : V} {vs : List V} (h : Rep K F d v) (t : RepL K F ds vs) : RepL K F (d :: ds) (v :: vs) := ⟨v, vs, rfl, h, t⟩
theorem RepL.app : ∀ {ds es : List D} {vs ws : List V}, RepL K F ds vs → RepL K F es ws → RepL K F (ds ++ es) (vs ++ ws)
  | [], _, _, _, h, k => by
    have h : _ = [] := h
    rw [h]
    exact k
  | d :: ds, _, _, _, ⟨v, vs, h1, h2, h3⟩, k => by
    rw [h1]
    exact ⟨v, _, rfl, h2, RepL.app h3 k⟩
theorem RepL.get : ∀ {ds : List D} {vs : List V} {i : Nat} {d : D}, RepL K F ds vs → ds[i]? = some d → ∃ v, vs[i]? = some v ∧ Rep K F d v
  | [], _, _, _, _, e => by simp at e
  | d :: ds, _, 0, _, ⟨v, vs, h1, h2, h3⟩, e => by
    rw [h1]
    simp at e
    subst e
    exact ⟨v, rfl, h2⟩
  | d :: ds, _, i + 1, _, ⟨v, vs, h1, h2, h3⟩, e => by
    rw [h1]
    obtain ⟨w, e1, e2⟩ := RepL.get (i := i) h3 (by simpa using e)
    exact ⟨w, by simpa using e1, e2⟩
theorem RepL.of_get {ds : List D} {vs : List V} {i : Nat} {v : V} (h : RepL K F ds vs) (e : vs[i]? = some v) : ∃ d, ds[i]? = some d ∧ Rep K F d v := by
  have hl := h.len
  have hi : i < vs.length := (List.getElem?_eq_some_iff.mp e).1
  have e2 : ds[i]? = some (ds[i]'(by omega)) := List.getElem?_eq_getElem _
  obtain ⟨w, e1, r⟩ := h.get e2
  rw [e] at e1
  cases e1
  exact ⟨_, e2, r⟩
theorem RepL.take : ∀ (n : Nat) {ds : List D} {vs : List V}, RepL K F ds vs → RepL K F (ds.take n) (vs.take n)
  | 0, _, _, _ => by
    rw [List.take_zero, List.take_zero]
    rfl
  | n + 1, [], _, h => by
    have h : _ = [] := h
    rw [h]
    rfl
  | n + 1, d :: ds, _, ⟨v, vs, h1, h2, h3⟩ => by
    rw [h1]
    exact ⟨v, _, rfl, h2, RepL.take n h3⟩
theorem RepL.drop : ∀ (n : Nat) {ds : List D} {vs : List V}, RepL K F ds vs → RepL K F (ds.drop n) (vs.drop n)
  | 0, _, _, h => h
  | n + 1, [], _, h => by
    have h : _ = [] := h
    rw [h]
    rfl
  | n + 1, d :: ds, _, ⟨v, vs, h1, h2, h3⟩ => by
    rw [h1]
    exact RepL.drop n h3
theorem RepL.set : ∀ {ds : List D} {vs : List V} (i : Nat) {d : D} {v : V}, RepL K F ds vs → Rep K F d v → RepL K F (ds.set i d) (vs.set i v)
  | [], _, _, _, _, h, _ => by
    have h : _ = [] := h
    rw [h]
    rfl
  | d :: ds, _, 0, _, _, ⟨v, vs, h1, h2, h3⟩, k => by
    rw [h1]
    exact ⟨_, _, rfl, k, h3⟩
  | d :: ds, _, i + 1, _, _, ⟨v, vs, h1, h2, h3⟩, k => by
    rw [h1]
    exact ⟨v, _, rfl, h2, RepL.set i h3 k⟩
end
/-! ### frames -/
/-- what stays through a law: the written part, the module's names, the tables of code objects -/
structure Cn where
  K : PySem.W.Frag
  mg : Str → Option Value
  T : List (Addr × Str)
/-- a body running: what it may write, the frozen heap and the heap that it began with -/
structure Fm where
  np : Nat
  P : Nat → Addr → Prop
  B : Addr → Prop
  F0 : Hp
  H0 : Hp
variable {c : Cn} {W : Fm} {F F' F1 H H' H1 : Hp} {σ : L2.St} {ρ ρ' : Env}
/-- a list, a dict of the frame's own -/
def OwnL (c : Cn) (F H : Hp) (p : Addr) (ds : List D) : Prop := ∃ vs, H p = some (.lst vs) ∧ RepL c.K F ds vs ∧ F p = none
def OwnK (c : Cn) (F H : Hp) (p : Addr) (kvs : List (Key × D)) : Prop := ∃ us : List (Key × V), H p = some (.dK us) ∧ us.map (·.1) = kvs.map (·.1) ∧ RepL c.K F (kvs.map (·.2)) (us.map (·.2)) ∧ F p = none
def OwnT (c : Cn) (F H : Hp) (p : Addr) (kvs : List (List Key × D)) : Prop := ∃ us : List (List Key × V), H p = some (.dT us) ∧ us.map (·.1) = kvs.map (·.1) ∧ RepL c.K F (kvs.map (·.2)) (us.map (·.2)) ∧ F p = none
def Own (c : Cn) (F H : Hp) (p : Addr) : Slot → Prop
  | .o ds => OwnL c F H p ds
  | .q kvs => OwnK c F H p kvs
  | .qt kvs => OwnT c F H p kvs
  | _ => False
def SlotOk (c : Cn) (W : Fm) (F H : Hp) (x : Option (Option V)) : Slot → Prop
  | .u => True
  | .d d => ∃ v, x = some (some v) ∧ Rep c.K F d v
  | s => ∃ p, x = some (some (.ref p)) ∧ Own c F H p s ∧ W.B p
def Slot.own : Slot → Bool
  | .u => false
  | .d _ => false
  | _ => true
/-- the heap without the tables of code objects -/
def bl (H : Hp) : Hp := fun a => match H a with
  | some (.tbl _) => none
  | x => x
theorem bl_of {a : Addr} {o : HO} (e : H a = some o) (n : ∀ ps, o ≠ .tbl ps) : bl H a = some o := by
  unfold bl
  rw [e]
  cases o with
  | tbl ps => exact absurd rfl (n ps)
  | _ => rfl
theorem bl_at {a : Addr} {o : HO} (e : bl H a = some o) : H a = some o ∧ ∀ ps, o ≠ .tbl ps := by
  unfold bl at e
  cases h : H a with
  | none => rw [h] at e; cases e
  | some u =>
    rw [h] at e
    cases u with
    | tbl ps => cases e
    | _ => cases e; exact ⟨rfl, fun _ z => by cases z⟩
theorem bl_none {a : Addr} (e : H a = none) : bl H a = none := by
  unfold bl
  rw [e]
theorem bl_free {a : Addr} (k : ∀ b o, H b = some o → (∀ ps, o ≠ .tbl ps) → H' b = some o) (e : bl H' a = none) : bl H a = none := by
  cases h : bl H a with
  | none => rfl
  | some o =>
    obtain ⟨h1, h2⟩ := bl_at h
    rw [bl_of (k a o h1 h2) h2] at e
    cases e
structure Rel (c : Cn) (W : Fm) (F H : Hp) (σ : L2.St) (ρ : Env) : Prop where
  sub : Same F H
  nt : ∀ a ps, F a ≠ some (.tbl ps)
  tab : LamX.Tabs c.T H
  len : σ.length = ρ.length
  here : ∀ (i : Nat) (s : Slot), ρ[i]? = some s → SlotOk c W F H σ[i]? s
  dis : ∀ (i j : Nat) (s t : Slot) (p : Addr), ρ[i]? = some s → ρ[j]? = some t → s.own = true → t.own = true → σ[i]? = some (some (.ref p)) → σ[j]? = some (some (.ref p)) → i = j
  wb : ∀ a, W.H0 a = none → W.B a
  pa : ∀ (i : Nat) (p : Addr), W.P i p → i < W.np ∧ ∀ s, ρ[i]? = some s → s.own = true → σ[i]? = some (some (.ref p))
  lo : ∀ (i : Nat) (s : Slot) (p : Addr), W.np ≤ i → ρ[i]? = some s → s.own = true → σ[i]? = some (some (.ref p)) → W.H0 p = none
  st : ∀ a, bl H a = none → W.H0 a = none
  kp : ∀ a o, ¬ W.B a → W.H0 a = some o → (∀ ps, o ≠ .tbl ps) → H a = some o
  f0 : Same W.F0 F
  nf : ∀ a, W.F0 a = none → W.H0 a ≠ none → F a = none
/-- from (F, H) to (F', H'): the frozen part and the rest have grown, nothing has changed -/
structure Grow (F H F' H' : Hp) : Prop where
  fs : Same F F'
  sub : Same F' H'
  nt : ∀ a ps, F' a ≠ some (.tbl ps)
  nw : ∀ a, F a = none → bl H a ≠ none → F' a = none
  hs : Same H H'
theorem Own.mono {p : Addr} {s : Slot} (h : Own c F H p s) (fs : Same F F') (nw : F' p = none) (hp : ∀ o, H p = some o → (∀ ps, o ≠ .tbl ps) → H' p = some o) : Own c F' H' p s := by
  cases s with
  | u => exact h
  | d _ => exact h
  | o ds =>
    obtain ⟨vs, h1, h2, h3⟩ := h
    exact ⟨vs, hp _ h1 (fun _ z => by cases z), h2.mono fs, nw⟩
  | q kvs =>
    obtain ⟨us, h1, h2, h3, h4⟩ := h
    exact ⟨us, hp _ h1 (fun _ z => by cases z), h2, h3.mono fs, nw⟩
  | qt kvs =>
    obtain ⟨us, h1, h2, h3, h4⟩ := h
    exact ⟨us, hp _ h1 (fun _ z => by cases z), h2, h3.mono fs, nw⟩
theorem Own.at {p : Addr} {s : Slot} (h : Own c F H p s) : F p = none ∧ (∃ o, H p = some o ∧ ∀ ps, o ≠ .tbl ps) ∧ s.own = true := by
  cases s with
  | u => exact h.elim
  | d _ => exact h.elim
  | o ds =>
    obtain ⟨vs, h1, h2, h3⟩ := h
    exact ⟨h3, ⟨_, h1, fun _ z => by cases z⟩, rfl⟩
  | q kvs =>
    obtain ⟨us, h1, h2, h3, h4⟩ := h
    exact ⟨h4, ⟨_, h1, fun _ z => by cases z⟩, rfl⟩
  | qt kvs =>
    obtain ⟨us, h1, h2, h3, h4⟩ := h
    exact ⟨h4, ⟨_, h1, fun _ z => by cases z⟩, rfl⟩
theorem Own.there {p : Addr} {s : Slot} (h : Own c F H p s) : H p ≠ none := by
  obtain ⟨_, ⟨o, e, _⟩, _⟩ := h.at
  rw [e]
  intro z
  cases z
theorem Own.bl {p : Addr} {s : Slot} (h : Own c F H p s) : Pl.bl H p ≠ none := by
  obtain ⟨_, ⟨o, e, n⟩, _⟩ := h.at
  rw [bl_of e n]
  intro z
  cases z
theorem SlotOk.of_own {x : Option (Option V)} {p : Addr} {s : Slot} (e : x = some (some (.ref p))) (h : Own c F H p s) (b : W.B p) : SlotOk c W F H x s := by
  cases s with
  | u => exact trivial
  | d _ => exact h.elim
  | o _ => exact ⟨p, e, h, b⟩
  | q _ => exact ⟨p, e, h, b⟩
  | qt _ => exact ⟨p, e, h, b⟩
theorem SlotOk.own {x : Option (Option V)} {s : Slot} (h : SlotOk c W F H x s) (e : s.own = true) : ∃ p, x = some (some (.ref p)) ∧ Own c F H p s ∧ W.B p := by
  cases s with
  | u => cases e
  | d _ => cases e
  | o _ => exact h
  | q _ => exact h
  | qt _ => exact h
theorem SlotOk.mono {x : Option (Option V)} {s : Slot} (h : SlotOk c W F H x s) (fs : Same F F') (k : ∀ p, x = some (some (.ref p)) → Own c F H p s → Own c F' H' p s) : SlotOk c W F' H' x s := by
  cases s with
  | u => exact trivial
  | d d =>
    obtain ⟨v, e, r⟩ := h
    exact ⟨v, e, r.mono fs⟩
  | o _ => obtain ⟨p, e, r, b⟩ := h; exact ⟨p, e, k p e r, b⟩
  | q _ => obtain ⟨p, e, r, b⟩ := h; exact ⟨p, e, k p e r, b⟩
  | qt _ => obtain ⟨p, e, r, b⟩ := h; exact ⟨p, e, k p e r, b⟩
theorem Rel.grow (R : Rel c W F H σ ρ) (g : Grow F H F' H') : Rel c W F' H' σ ρ where
  sub := g.sub
  nt := g.nt
  tab := R.tab.ext g.hs
  len := R.len
  here := fun i s e => (R.here i s e).mono g.fs fun p _ h => by
    exact h.mono g.fs (g.nw p h.at.1 h.bl) fun o e _ => g.hs p o e
  dis := R.dis
  wb := R.wb
  pa := R.pa
  lo := R.lo
  st := fun a e => R.st a (bl_free (fun b o h _ => g.hs b o h) e)
  kp := fun a o h1 h2 h3 => g.hs a o (R.kp a o h1 h2 h3)
  f0 := fun a o e => g.fs a o (R.f0 a o e)
  nf := fun a h1 h2 => g.nw a (R.nf a h1 h2) fun e => h2 (R.st a e)
theorem Grow.refl (h : Same F H) (n : ∀ a ps, F a ≠ some (.tbl ps)) : Grow F H F H := ⟨Same.refl _, h, n, fun _ e _ => e, Same.refl _⟩
theorem Grow.trans {F2 H2 : Hp} (a : Grow F H F1 H1) (b : Grow F1 H1 F2 H2) : Grow F H F2 H2 :=
  ⟨a.fs.trans b.fs, b.sub, b.nt, fun x e h => b.nw x (a.nw x e h) fun z => h (bl_free (fun b o h _ => a.hs b o h) z), a.hs.trans b.hs⟩
/-- a new object that is frozen at once; one that is not -/
theorem Grow.new (h : Same F H) (n : ∀ a ps, F a ≠ some (.tbl ps)) {p : Addr} {o : HO} (hp : H p = none) (ho : ∀ ps, o ≠ .tbl ps) : Grow F H (upd F p o) (upd H p o) := by
  have fp : F p = none := h.free hp
  refine ⟨fun a u e => ?_, fun a u e => ?_, fun a ps => ?_, fun a e k => ?_, fun a u e => ?_⟩
  · rw [upd_ne (ne_of_none e fp)]; exact e
  · by_cases q : a = p
    · subst q; rw [upd_same] at e ⊢; exact e
    · rw [upd_ne q] at e ⊢; exact h a u e
  · by_cases q : a = p
    · subst q; rw [upd_same]; exact fun z => ho ps (Option.some.inj z)
    · rw [upd_ne q]; exact n a ps
  · have q : a ≠ p := fun z => k (by rw [z]; exact bl_none hp)
    rw [upd_ne q]; exact e
  · rw [upd_ne (ne_of_none e hp)]; exact e
theorem Grow.side (h : Same F H) (n : ∀ a ps, F a ≠ some (.tbl ps)) {p : Addr} {o : HO} (hp : H p = none) : Grow F H F (upd H p o) :=
  ⟨Same.refl _, fun a u e => by rw [upd_ne (ne_of_none (h a u e) hp)]; exact h a u e, n, fun _ e _ => e, fun a u e => by rw [upd_ne (ne_of_none e hp)]; exact e⟩
end Pl
namespace Pl
open PySem PySem.Spec PyProof.Rows L2
variable {α β γ : Type} {c : Cn} {E : WX}
/-! ## A. judgements -/
/-- the exception e -/
def XRep (c : Cn) (F H : Hp) (e : Exn) (cls : Value) (od : Option Addr) : Prop :=
  (c.mg e.cls = some cls ∨ (c.mg e.cls = none ∧ bootBuiltins e.cls = some cls)) ∧ match e.val with
    | none => od = none
    | some (f, x) => ∃ d v, od = some d ∧ F d = some (.xd [(f, v)]) ∧ Rep c.K F x v
def Post (c : Cn) (W : Fm) (F : Hp) (σ : L2.St) (E : WX) (rel : Hp → α → β → Prop) (r : Rs α) (Q : β → Hp → Prop) : Prop := match r with
  | .ok a ρ' => ∀ F' H' b, Rel c W F' H' σ ρ' → Same F F' → rel F' a b → Q b H'
  | .ex e ρ' => ∀ F' H' cls od, Rel c W F' H' σ ρ' → Same F F' → XRep c F' H' e cls od → E cls od σ H'
  | .bad => False
section
variable {W : Fm} {F : Hp} {σ : L2.St} {rel : Hp → α → β → Prop} {rel2 : Hp → γ → δ → Prop} {Q Q' : β → Hp → Prop} {δ : Type} {Q2 : δ → Hp → Prop} {r : Rs α}
theorem Post.mono (h : Post c W F σ E rel r Q) (k : ∀ b H, Q b H → Q' b H) : Post c W F σ E rel r Q' := by
  cases r with
  | ok a ρ' => exact fun F' H' b h1 h2 h3 => k _ _ (h F' H' b h1 h2 h3)
  | ex e ρ' => exact h
  | bad => exact h
theorem Post.up {F1 : Hp} (s : Same F F1) (h : Post c W F σ E rel r Q) : Post c W F1 σ E rel r Q := by
  cases r with
  | ok a ρ' => exact fun F' H' b h1 h2 h3 => h F' H' b h1 (s.trans h2) h3
  | ex e ρ' => exact fun F' H' cls od h1 h2 h3 => h F' H' cls od h1 (s.trans h2) h3
  | bad => exact h
theorem Post.bind {m : M α} {g : α → M γ} {ρ : Env} {rel2 : Hp → γ → δ → Prop} (rel : Hp → α → β → Prop) (h : Post c W F σ E rel2 (M.bind m g ρ) Q2) :
    Post c W F σ E rel (m ρ) fun b H1 => ∃ a ρ1 F1, Rel c W F1 H1 σ ρ1 ∧ Same F F1 ∧ rel F1 a b ∧ Post c W F1 σ E rel2 (g a ρ1) Q2 := by
  unfold M.bind at h
  revert h
  cases m ρ with
  | ok a ρ' => exact fun h F' H' b h1 h2 h3 => ⟨a, ρ', F', h1, h2, h3, h.up h2⟩
  | ex e ρ' => exact fun h => h
  | bad => exact fun h => h
theorem Post.lift {m : Option α} {ρ : Env} (h : Post c W F σ E rel (M.lift m ρ) Q) : ∃ a, m = some a ∧ ∀ F' H' b, Rel c W F' H' σ ρ → Same F F' → rel F' a b → Q b H' := by
  cases m with
  | none => exact h.elim
  | some a => exact ⟨a, rfl, h⟩
end
def Ex (c : Cn) (E : WX) (t : TE) (f : M D) : Prop := ∀ W F H σ ρ Q, Rel c W F H σ ρ → Post c W F σ E (Rep c.K) (f ρ) Q → t σ H Q
def Tx (c : Cn) (E : WX) (t : TT) (f : M Bool) : Prop := ∀ W F H σ ρ Q, Rel c W F H σ ρ → Post c W F σ E (fun _ a b => b = a) (f ρ) Q → t σ H Q
def Ax (c : Cn) (E : WX) (t : TA) (f : M (List D)) : Prop := ∀ W F H σ ρ Q, Rel c W F H σ ρ → Post c W F σ E (RepL c.K) (f ρ) Q → t σ H Q
/-! ## B. names, constants, pure operations -/
def eVar (i : Nat) : M D := fun ρ => match ρ[i]? with
  | some (.d x) => .ok x ρ
  | _ => .bad
def eCon (d : D) : M D := fun ρ => .ok d ρ
def eOp (g : D → D → Option D) (a b : M D) : M D := a.bind fun x => b.bind fun y => M.lift (g x y)
def eUn (g : D → Option D) (a : M D) : M D := a.bind fun x => M.lift (g x)
def eIf (t : M Bool) (a b : M D) : M D := t.bind fun k => if k = true then a else b
def tTru (g : D → Option Bool) (a : M D) : M Bool := a.bind fun x => M.lift (g x)
def isBl : D → Option Bool
  | .bl b => some b
  | _ => none
def tAndB (a b : M Bool) : M Bool := a.bind fun k => if k = true then b else M.pure false
def tOrB (a b : M Bool) : M Bool := a.bind fun k => if k = true then M.pure true else b
def tNotB (a : M Bool) : M Bool := a.bind fun k => M.pure (!k)
def eAnd (a b : M D) : M D := a.bind fun x => (M.lift (isBl x)).bind fun k => if k = true then b else M.pure (.bl false)
def eOr (a b : M D) : M D := a.bind fun x => (M.lift (isBl x)).bind fun k => if k = true then M.pure (.bl true) else b
def eNot (a : M D) : M D := a.bind fun x => (M.lift (isBl x)).bind fun k => M.pure (.bl (!k))
def eChain (g g' : D → D → Option D) (a b d : M D) : M D := a.bind fun x => b.bind fun y => (M.lift (g x y)).bind fun z => (M.lift (isBl z)).bind fun k => if k = true then d.bind fun w => M.lift (g' y w) else M.pure (.bl false)
def aNil : M (List D) := M.pure []
def aCons (a : M D) (r : M (List D)) : M (List D) := a.bind fun x => r.bind fun xs => M.pure (x :: xs)
def eTup (a : M (List D)) : M D := a.bind fun xs => M.lift (if xs.length ≤ 100000 then some (.tup xs) else none)
def eLst (a : M (List D)) : M D := a.bind fun xs => M.lift (if xs.length ≤ 100000 then some (.lst xs) else none)
def eCall (g : List D → Option D) (a : M (List D)) : M D := a.bind fun xs => M.lift (g xs)
/-- the frozen part lies in the heap and has no tables -/
def Fz (F H : Hp) : Prop := Same F H ∧ ∀ a ps, F a ≠ some (.tbl ps)
theorem Rel.fz {W : Fm} {F H : Hp} {σ : L2.St} {ρ : Env} (R : Rel c W F H σ ρ) : Fz F H := ⟨R.sub, R.nt⟩
theorem Fz.refl {F H : Hp} (h : Fz F H) : Grow F H F H := Grow.refl h.1 h.2
theorem Fz.new {F H : Hp} (h : Fz F H) {p : Addr} {o : HO} (hp : H p = none) (ho : ∀ ps, o ≠ .tbl ps) : Grow F H (upd F p o) (upd H p o) := Grow.new h.1 h.2 hp ho
/-- what a pure operation is, by the data -/
def rD (K : PySem.W.Frag) (g : D → D → Option D) : R2 := fun x y H Q => ∃ F d e z, Fz F H ∧ Rep K F d x ∧ Rep K F e y ∧ g d e = some z ∧ ∀ F' H' v, Grow F H F' H' → Rep K F' z v → Q v H'
def uD (K : PySem.W.Frag) (g : D → Option D) : V → Hp → VK → Prop := fun x H Q => ∃ F d z, Fz F H ∧ Rep K F d x ∧ g d = some z ∧ ∀ F' H' v, Grow F H F' H' → Rep K F' z v → Q v H'
def cD (K : PySem.W.Frag) (g : List D → Option D) : List V → Hp → VK → Prop := fun xs H Q => ∃ F ds z, Fz F H ∧ RepL K F ds xs ∧ g ds = some z ∧ ∀ F' H' v, Grow F H F' H' → Rep K F' z v → Q v H'
section
variable {t ta tb td : TE} {tA : TA} {f fa fb fd : M D} {fA : M (List D)} {tT tU : TT} {fT fU : M Bool}
theorem ex_var {i : Nat} : Ex c E (tVar i) (eVar i) := by
  intro W F H σ ρ Q R h
  unfold eVar at h
  cases e : ρ[i]? with
  | none => rw [e] at h; exact h.elim
  | some s =>
    rw [e] at h
    cases s with
    | d x =>
      obtain ⟨v, e1, r⟩ := R.here i _ e
      exact ⟨v, e1, h F H v R (Same.refl _) r⟩
    | _ => exact h.elim
theorem ex_con {d : D} {v : V} (r : ∀ F, Rep c.K F d v) : Ex c E (tC v) (eCon d) := fun W F H σ ρ Q R h => h F H v R (Same.refl _) (r F)
theorem ex_op {g : D → D → Option D} (ha : Ex c E ta fa) (hb : Ex c E tb fb) : Ex c E (tOp (rD c.K g) ta tb) (eOp g fa fb) := by
  intro W F H σ ρ Q R h
  refine ha W F H σ ρ _ R ((h.bind (Rep c.K)).mono fun x H1 ⟨d, ρ1, F1, R1, s1, r1, h1⟩ => ?_)
  refine hb W F1 H1 σ ρ1 _ R1 ((h1.bind (Rep c.K)).mono fun y H2 ⟨e, ρ2, F2, R2, s2, r2, h2⟩ => ?_)
  obtain ⟨z, e1, k⟩ := h2.lift
  exact ⟨F2, d, e, z, R2.fz, r1.mono s2, r2, e1, fun F' H' v gr rv => k F' H' v (R2.grow gr) gr.fs rv⟩
theorem ex_un {g : D → Option D} (ha : Ex c E ta fa) : Ex c E (tUn (uD c.K g) ta) (eUn g fa) := by
  intro W F H σ ρ Q R h
  refine ha W F H σ ρ _ R ((h.bind (Rep c.K)).mono fun x H1 ⟨d, ρ1, F1, R1, s1, r1, h1⟩ => ?_)
  obtain ⟨z, e1, k⟩ := h1.lift
  exact ⟨F1, d, z, R1.fz, r1, e1, fun F' H' v gr rv => k F' H' v (R1.grow gr) gr.fs rv⟩
theorem ex_if (hT : Tx c E tT fT) (ha : Ex c E ta fa) (hb : Ex c E tb fb) : Ex c E (tIf tT ta tb) (eIf fT fa fb) := by
  intro W F H σ ρ Q R h
  refine hT W F H σ ρ _ R ((h.bind (fun _ a b => b = a)).mono fun k H1 ⟨k', ρ1, F1, R1, s1, r1, h1⟩ => ?_)
  subst r1
  cases k with
  | true => exact ha W F1 H1 σ ρ1 _ R1 h1
  | false => exact hb W F1 H1 σ ρ1 _ R1 h1
theorem rep_bl {K : PySem.W.Frag} {F : Hp} {x : D} {v : V} {k : Bool} (r : Rep K F x v) (e : isBl x = some k) : v = .bl k := by
  cases x with
  | bl b =>
    cases e
    exact r
  | _ => cases e
theorem tx_bool {f : M D} (ha : Ex c E ta f) : Tx c E (tB ta) (tTru isBl f) := by
  intro W F H σ ρ Q R h
  refine ha W F H σ ρ _ R ((h.bind (Rep c.K)).mono fun x H1 ⟨d, ρ1, F1, R1, s1, r1, h1⟩ => ?_)
  obtain ⟨k, e1, q⟩ := h1.lift
  exact ⟨k, rep_bl r1 e1, q F1 H1 k R1 (Same.refl _) rfl⟩
theorem tx_test {f : M D} (ha : Ex c E ta f) : Tx c E (tTest ta) (tTru isBl f) := tx_bool ha
def truD : D → Option Bool
  | .non => some false
  | .bl b => some b
  | .int i => some (i != 0)
  | .str x => if x.length ≤ 100000 then some ((x.length : Int) != 0) else none
  | .tup xs => some (!xs.isEmpty)
  | .lst xs => some (!xs.isEmpty)
  | .dct ks _ => some (!ks.isEmpty)
  | _ => none
theorem h100 : (100000 : Nat) ≤ sizeLine := by decide
theorem isEmpty_len {α β : Type} {xs : List α} {ys : List β} (h : xs.length = ys.length) : xs.isEmpty = ys.isEmpty := by
  cases xs <;> cases ys <;> first | rfl | cases h
theorem tru_rep {K : PySem.W.Frag} {F H : Hp} {x : D} {v : V} {k : Bool} (s : Same F H) (r : Rep K F x v) (e : truD x = some k) : TruV K v H k := by
  cases x with
  | non => cases e; cases r; rfl
  | bl b => cases e; cases r; rfl
  | int i => cases e; cases r; rfl
  | str y =>
    cases r
    have e : (if y.length ≤ 100000 then some ((y.length : Int) != 0) else none) = some k := e
    split at e
    · cases e
      exact ⟨Nat.le_trans (by assumption) h100, rfl⟩
    · cases e
  | tup xs =>
    obtain ⟨a, vs, h1, h2, h3⟩ := r
    cases e
    subst h1
    exact .inr (.inl ⟨vs, sqT_mono s h2.sq, by rw [isEmpty_len h3.len]⟩)
  | lst xs =>
    obtain ⟨a, vs, h1, h2, h3⟩ := r
    cases e
    subst h1
    exact .inl ⟨vs, .of (s _ _ h2), by rw [isEmpty_len h3.len]⟩
  | dct ks ds =>
    obtain ⟨a, us, h1, h2, h3, h4⟩ := r
    cases e
    subst h1
    have hl : ks.isEmpty = us.isEmpty := isEmpty_len (by rw [← h3, List.length_map])
    exact .inr (.inr ⟨us, s _ _ h2, by rw [hl]⟩)
  | rf w => cases e
  | scr ns => cases e
theorem tx_tru {f : M D} (ha : Ex c E ta f) : Tx c E (fun σ H Q => ta σ H fun x H' => ∃ k, TruV c.K x H' k ∧ Q k H') (tTru truD f) := by
  intro W F H σ ρ Q R h
  refine ha W F H σ ρ _ R ((h.bind (Rep c.K)).mono fun x H1 ⟨d, ρ1, F1, R1, s1, r1, h1⟩ => ?_)
  obtain ⟨k, e1, q⟩ := h1.lift
  exact ⟨k, tru_rep R1.sub r1 e1, q F1 H1 k R1 (Same.refl _) rfl⟩
theorem tx_and (hT : Tx c E tT fT) (hU : Tx c E tU fU) : Tx c E (tAnd tT tU) (tAndB fT fU) := by
  intro W F H σ ρ Q R h
  refine hT W F H σ ρ _ R ((h.bind (fun _ a b => b = a)).mono fun k H1 ⟨k', ρ1, F1, R1, s1, r1, h1⟩ => ?_)
  subst r1
  cases k with
  | true => exact hU W F1 H1 σ ρ1 _ R1 h1
  | false => exact h1 F1 H1 false R1 (Same.refl _) rfl
theorem tx_or (hT : Tx c E tT fT) (hU : Tx c E tU fU) : Tx c E (tOr tT tU) (tOrB fT fU) := by
  intro W F H σ ρ Q R h
  refine hT W F H σ ρ _ R ((h.bind (fun _ a b => b = a)).mono fun k H1 ⟨k', ρ1, F1, R1, s1, r1, h1⟩ => ?_)
  subst r1
  cases k with
  | true => exact h1 F1 H1 true R1 (Same.refl _) rfl
  | false => exact hU W F1 H1 σ ρ1 _ R1 h1
theorem tx_not (hT : Tx c E tT fT) : Tx c E (tNot tT) (tNotB fT) := by
  intro W F H σ ρ Q R h
  refine hT W F H σ ρ _ R ((h.bind (fun _ a b => b = a)).mono fun k H1 ⟨k', ρ1, F1, R1, s1, r1, h1⟩ => ?_)
  subst r1
  exact h1 F1 H1 _ R1 (Same.refl _) rfl
theorem ex_and (ha : Ex c E ta fa) (hb : Ex c E tb fb) : Ex c E (tAndV ta tb) (eAnd fa fb) := by
  intro W F H σ ρ Q R h
  refine ha W F H σ ρ _ R ((h.bind (Rep c.K)).mono fun x H1 ⟨d, ρ1, F1, R1, s1, r1, h1⟩ => ?_)
  obtain ⟨k, ρ2, F2, R2, s2, r2, h2⟩ : ∃ k ρ2 F2, Rel c W F2 H1 σ ρ2 ∧ Same F1 F2 ∧ isBl d = some k ∧ Post c W F2 σ E (Rep c.K) ((if k = true then fb else M.pure (.bl false)) ρ2) Q := by
    cases e : isBl d with
    | none => rw [e] at h1; exact h1.elim
    | some k => rw [e] at h1; exact ⟨k, ρ1, F1, R1, Same.refl _, rfl, h1⟩
  refine ⟨k, rep_bl r1 r2, ?_⟩
  cases k with
  | true => exact hb W F2 H1 σ ρ2 _ R2 h2
  | false => exact h2 F2 H1 _ R2 (Same.refl _) rfl
theorem ex_or (ha : Ex c E ta fa) (hb : Ex c E tb fb) : Ex c E (tOrV ta tb) (eOr fa fb) := by
  intro W F H σ ρ Q R h
  refine ha W F H σ ρ _ R ((h.bind (Rep c.K)).mono fun x H1 ⟨d, ρ1, F1, R1, s1, r1, h1⟩ => ?_)
  obtain ⟨k, ρ2, F2, R2, s2, r2, h2⟩ : ∃ k ρ2 F2, Rel c W F2 H1 σ ρ2 ∧ Same F1 F2 ∧ isBl d = some k ∧ Post c W F2 σ E (Rep c.K) ((if k = true then M.pure (.bl true) else fb) ρ2) Q := by
    cases e : isBl d with
    | none => rw [e] at h1; exact h1.elim
    | some k => rw [e] at h1; exact ⟨k, ρ1, F1, R1, Same.refl _, rfl, h1⟩
  refine ⟨k, rep_bl r1 r2, ?_⟩
  cases k with
  | true => exact h2 F2 H1 _ R2 (Same.refl _) rfl
  | false => exact hb W F2 H1 σ ρ2 _ R2 h2
theorem ex_not (ha : Ex c E ta fa) : Ex c E (tNotV ta) (eNot fa) := by
  intro W F H σ ρ Q R h
  refine ha W F H σ ρ _ R ((h.bind (Rep c.K)).mono fun x H1 ⟨d, ρ1, F1, R1, s1, r1, h1⟩ => ?_)
  cases e : isBl d with
  | none => rw [e] at h1; exact h1.elim
  | some k =>
    rw [e] at h1
    exact ⟨k, rep_bl r1 e, h1 F1 H1 _ R1 (Same.refl _) rfl⟩
theorem ex_chain {g g' : D → D → Option D} (ha : Ex c E ta fa) (hb : Ex c E tb fb) (hd : Ex c E td fd) : Ex c E (tChain (rD c.K g) (rD c.K g') ta tb td) (eChain g g' fa fb fd) := by
  intro W F H σ ρ Q R h
  refine ha W F H σ ρ _ R ((h.bind (Rep c.K)).mono fun x H1 ⟨d, ρ1, F1, R1, s1, r1, h1⟩ => ?_)
  refine hb W F1 H1 σ ρ1 _ R1 ((h1.bind (Rep c.K)).mono fun y H2 ⟨e, ρ2, F2, R2, s2, r2, h2⟩ => ?_)
  cases e1 : g d e with
  | none => rw [e1] at h2; exact h2.elim
  | some z =>
    rw [e1] at h2
    cases e2 : isBl z with
    | none =>
      have h3 : Post c W F2 σ E (Rep c.K) (((M.lift (isBl z)).bind fun k => if k = true then fd.bind fun w => M.lift (g' e w) else M.pure (.bl false)) ρ2) Q := h2
      rw [e2] at h3
      exact h3.elim
    | some k =>
      have h3 : Post c W F2 σ E (Rep c.K) (((M.lift (isBl z)).bind fun k => if k = true then fd.bind fun w => M.lift (g' e w) else M.pure (.bl false)) ρ2) Q := h2
      rw [e2] at h3
      refine ⟨F2, d, e, z, R2.fz, r1.mono s2, r2, e1, fun F3 H3 v gr rv => ⟨k, rep_bl rv e2, ?_⟩⟩
      have R3 := R2.grow gr
      have h4 := Post.up gr.fs h3
      cases k with
      | false =>
        rw [if_neg Bool.false_ne_true]
        exact h4 F3 H3 _ R3 (Same.refl _) rfl
      | true =>
        rw [if_pos rfl]
        have h5 : Post c W F3 σ E (Rep c.K) ((fd.bind fun w => M.lift (g' e w)) ρ2) Q := h4
        refine hd W F3 H3 σ ρ2 _ R3 ((h5.bind (Rep c.K)).mono fun w H4 ⟨d4, ρ4, F4, R4, s4, r4, h6⟩ => ?_)
        obtain ⟨z4, e4, k4⟩ := h6.lift
        exact ⟨F4, e, d4, z4, R4.fz, (r2.mono gr.fs).mono s4, r4, e4, fun F' H' v gr rv => k4 F' H' v (R4.grow gr) gr.fs rv⟩
theorem ax_nil : Ax c E tNil aNil := fun W F H σ ρ Q R h => h F H [] R (Same.refl _) rfl
theorem ax_cons (ha : Ex c E ta fa) (hr : Ax c E tA fA) : Ax c E (tCons ta tA) (aCons fa fA) := by
  intro W F H σ ρ Q R h
  refine ha W F H σ ρ _ R ((h.bind (Rep c.K)).mono fun x H1 ⟨d, ρ1, F1, R1, s1, r1, h1⟩ => ?_)
  refine hr W F1 H1 σ ρ1 _ R1 ((h1.bind (RepL c.K)).mono fun xs H2 ⟨ds, ρ2, F2, R2, s2, r2, h2⟩ => ?_)
  exact h2 F2 H2 _ R2 (Same.refl _) (.cons (r1.mono s2) r2)
theorem ex_tup (ha : Ax c E tA fA) : Ex c E (tTup tA) (eTup fA) := by
  intro W F H σ ρ Q R h
  refine ha W F H σ ρ _ R ((h.bind (RepL c.K)).mono fun xs H1 ⟨ds, ρ1, F1, R1, s1, r1, h1⟩ => ?_)
  obtain ⟨z, e1, k⟩ := h1.lift
  split at e1
  · cases e1
    refine ⟨by rw [← r1.len]; exact Nat.le_trans (by assumption) h100, fun p hp => ?_⟩
    have g := R1.fz.new (o := .tup xs) hp fun _ z => by cases z
    exact k _ _ _ (R1.grow g) g.fs ⟨p, xs, rfl, .inl upd_same, r1.mono g.fs⟩
  · cases e1
theorem ex_lst (ha : Ax c E tA fA) : Ex c E (tLst tA) (eLst fA) := by
  intro W F H σ ρ Q R h
  refine ha W F H σ ρ _ R ((h.bind (RepL c.K)).mono fun xs H1 ⟨ds, ρ1, F1, R1, s1, r1, h1⟩ => ?_)
  obtain ⟨z, e1, k⟩ := h1.lift
  split at e1
  · cases e1
    refine ⟨by rw [← r1.len]; exact Nat.le_trans (by assumption) h100, fun p hp => ?_⟩
    have g := R1.fz.new (o := .lst xs) hp fun _ z => by cases z
    exact k _ _ _ (R1.grow g) g.fs ⟨p, xs, rfl, upd_same, r1.mono g.fs⟩
  · cases e1
theorem ex_cD {g : List D → Option D} (ha : Ax c E tA fA) : Ex c E (fun σ H Q => tA σ H fun vs H1 => cD c.K g vs H1 Q) (eCall g fA) := by
  intro W F H σ ρ Q R h
  refine ha W F H σ ρ _ R ((h.bind (RepL c.K)).mono fun xs H1 ⟨ds, ρ1, F1, R1, s1, r1, h1⟩ => ?_)
  obtain ⟨z, e1, k⟩ := h1.lift
  exact ⟨F1, ds, z, R1.fz, r1, e1, fun F' H' v gr rv => k F' H' v (R1.grow gr) gr.fs rv⟩
end
end Pl
namespace Pl
open PySem PySem.Spec PyProof.Rows L2
variable {α β γ : Type} {c : Cn} {E : WX} {W : Fm} {F H : Hp} {σ : L2.St} {ρ : Env}
/-! ## C. changes of an environment -/
theorem set_at {α : Type} {l : List α} {i j : Nat} {x y : α} (h : (l.set i x)[j]? = some y) : (i = j ∧ i < l.length ∧ x = y) ∨ (i ≠ j ∧ l[j]? = some y) := by
  by_cases e : i = j
  · subst e
    have hi : i < l.length := by
      have := (List.getElem?_eq_some_iff.mp h).1
      rwa [List.length_set] at this
    rw [List.getElem?_set_self hi] at h
    exact .inl ⟨rfl, hi, Option.some.inj h⟩
  · rw [List.getElem?_set_ne e] at h
    exact .inr ⟨e, h⟩
theorem Rel.store {d : D} {v : V} (R : Rel c W F H σ ρ) (r : Rep c.K F d v) (i : Nat) : Rel c W F H (σ.set i (some v)) (ρ.set i (.d d)) where
  sub := R.sub
  nt := R.nt
  tab := R.tab
  len := by rw [List.length_set, List.length_set, R.len]
  here := fun j s e => by
    rcases set_at e with ⟨e1, e2, e3⟩ | ⟨e1, e2⟩
    · subst e1 e3
      exact ⟨v, by rw [List.getElem?_set_self (by rw [R.len]; exact e2)], r⟩
    · rw [List.getElem?_set_ne e1]
      exact R.here j s e2
  dis := fun j k s t p e1 e2 o1 o2 a1 a2 => by
    rcases set_at e1 with ⟨_, _, z⟩ | ⟨n1, e1⟩
    · subst z; cases o1
    · rcases set_at e2 with ⟨_, _, z⟩ | ⟨n2, e2⟩
      · subst z; cases o2
      · rw [List.getElem?_set_ne n1] at a1
        rw [List.getElem?_set_ne n2] at a2
        exact R.dis j k s t p e1 e2 o1 o2 a1 a2
  wb := R.wb
  pa := fun j p h => ⟨(R.pa j p h).1, fun s e o => by
    rcases set_at e with ⟨_, _, z⟩ | ⟨n1, e1⟩
    · subst z; cases o
    · rw [List.getElem?_set_ne n1]
      exact (R.pa j p h).2 s e1 o⟩
  lo := fun j s p h e o a => by
    rcases set_at e with ⟨_, _, z⟩ | ⟨n1, e1⟩
    · subst z; cases o
    · rw [List.getElem?_set_ne n1] at a
      exact R.lo j s p h e1 o a
  st := R.st
  kp := R.kp
  f0 := R.f0
  nf := R.nf
/-- a fresh object comes to a name -/
theorem Rel.got {p : Addr} {o : HO} {s : Slot} {i : Nat} (R : Rel c W F H σ ρ) (hp : H p = none) (hi : W.np ≤ i) (h : Own c F (upd H p o) p s) : Rel c W F (upd H p o) (σ.set i (some (.ref p))) (ρ.set i s) := by
  have R1 := R.grow (Grow.side (o := o) R.sub R.nt hp)
  have ne : ∀ (j : Nat) (t : Slot), ρ[j]? = some t → t.own = true → σ[j]? ≠ some (some (.ref p)) := fun j t e ot z => by
    obtain ⟨q, e1, e2, _⟩ := (R.here j t e).own ot
    rw [z] at e1
    cases e1
    exact e2.there hp
  refine ⟨R1.sub, R1.nt, R1.tab, by rw [List.length_set, List.length_set, R.len], fun j t e => ?_, fun j k t u q e1 e2 o1 o2 a1 a2 => ?_, R.wb, fun j q m => ⟨(R.pa j q m).1, fun t e ot => ?_⟩, fun j t q hj e ot a => ?_, R1.st, R1.kp, R1.f0, R1.nf⟩
  · rcases set_at e with ⟨e1, e2, e3⟩ | ⟨e1, e2⟩
    · subst e1 e3
      exact .of_own (List.getElem?_set_self (by rw [R.len]; exact e2)) h (R.wb p (R.st p (bl_none hp)))
    · rw [List.getElem?_set_ne e1]
      exact R1.here j t e2
  · rcases set_at e1 with ⟨n1, l1, z1⟩ | ⟨n1, e1⟩
    · rcases set_at e2 with ⟨n2, l2, z2⟩ | ⟨n2, e2⟩
      · rw [← n1, ← n2]
      · subst n1
        rw [List.getElem?_set_self (by rw [R.len]; exact l1)] at a1
        rw [List.getElem?_set_ne n2] at a2
        cases a1
        exact absurd a2 (ne k u e2 o2)
    · rw [List.getElem?_set_ne n1] at a1
      rcases set_at e2 with ⟨n2, l2, z2⟩ | ⟨n2, e2⟩
      · subst n2
        rw [List.getElem?_set_self (by rw [R.len]; exact l2)] at a2
        cases a2
        exact absurd a1 (ne j t e1 o1)
      · rw [List.getElem?_set_ne n2] at a2
        exact R.dis j k t u q e1 e2 o1 o2 a1 a2
  · rcases set_at e with ⟨n1, _, _⟩ | ⟨n1, e1⟩
    · have := (R.pa j q m).1
      omega
    · rw [List.getElem?_set_ne n1]
      exact (R.pa j q m).2 t e1 ot
  · rcases set_at e with ⟨n1, l1, _⟩ | ⟨n1, e1⟩
    · subst n1
      rw [List.getElem?_set_self (by rw [R.len]; exact l1)] at a
      cases a
      exact R.st p (bl_none hp)
    · rw [List.getElem?_set_ne n1] at a
      exact R.lo j t q hj e1 ot a
theorem tabS_put {p P : Addr} {q : Str} {o o' : HO} (t : LamX.TabS H P q) (e : H p = some o) (n1 : ∀ ps, o ≠ .tbl ps) (n2 : ∀ φ, o ≠ .ext φ) : LamX.TabS (upd H p o') P q := by
  obtain ⟨ps, h1, h2, h3⟩ := t
  refine ⟨ps, ?_, h2, fun pos cv hc => ?_⟩
  · rw [upd_ne (fun z => by rw [z, e] at h1; exact n1 _ (Option.some.inj h1))]
    exact h1
  · obtain ⟨c, e1, e2⟩ := h3 pos cv hc
    refine ⟨c, e1, ?_⟩
    rw [upd_ne (fun z => by rw [z, e] at e2; exact n2 _ (Option.some.inj e2))]
    exact e2
theorem Own.plain {p : Addr} {s : Slot} (h : Own c F H p s) : ∃ o, H p = some o ∧ (∀ ps, o ≠ .tbl ps) ∧ ∀ φ, o ≠ .ext φ := by
  cases s with
  | u => exact h.elim
  | d _ => exact h.elim
  | o ds => obtain ⟨vs, h1, h2, h3⟩ := h; exact ⟨_, h1, (fun _ z => by cases z), (fun _ z => by cases z)⟩
  | q kvs => obtain ⟨us, h1, h2, h3, h4⟩ := h; exact ⟨_, h1, (fun _ z => by cases z), (fun _ z => by cases z)⟩
  | qt kvs => obtain ⟨us, h1, h2, h3, h4⟩ := h; exact ⟨_, h1, (fun _ z => by cases z), (fun _ z => by cases z)⟩
/-- an address that nothing but its name knows is written -/
theorem Rel.write {p : Addr} {o o' : HO} (R : Rel c W F H σ ρ) (e : H p = some o) (n1 : ∀ ps, o ≠ .tbl ps) (n2 : ∀ φ, o ≠ .ext φ) (n3 : ∀ ps, o' ≠ .tbl ps) (fp : F p = none) (b : W.B p) (h : ∀ (j : Nat) (t : Slot), ρ[j]? = some t → t.own = true → σ[j]? = some (some (.ref p)) → Own c F (upd H p o') p t) : Rel c W F (upd H p o') σ ρ where
  sub := fun a u q => by rw [upd_ne (fun z => by rw [z, fp] at q; cases q)]; exact R.sub a u q
  nt := R.nt
  tab := fun q hq => tabS_put (R.tab q hq) e n1 n2
  len := R.len
  here := fun j t q => by
    cases t with
    | u => exact trivial
    | d d => exact R.here j _ q
    | o _ =>
      obtain ⟨a, e1, e2, e3⟩ := R.here j _ q
      by_cases z : a = p
      · rw [z] at e1 e3
        exact ⟨p, e1, h j _ q rfl e1, e3⟩
      · exact ⟨a, e1, e2.mono (Same.refl _) e2.at.1 fun o k _ => by rw [upd_ne z]; exact k, e3⟩
    | q _ =>
      obtain ⟨a, e1, e2, e3⟩ := R.here j _ q
      by_cases z : a = p
      · rw [z] at e1 e3
        exact ⟨p, e1, h j _ q rfl e1, e3⟩
      · exact ⟨a, e1, e2.mono (Same.refl _) e2.at.1 fun o k _ => by rw [upd_ne z]; exact k, e3⟩
    | qt _ =>
      obtain ⟨a, e1, e2, e3⟩ := R.here j _ q
      by_cases z : a = p
      · rw [z] at e1 e3
        exact ⟨p, e1, h j _ q rfl e1, e3⟩
      · exact ⟨a, e1, e2.mono (Same.refl _) e2.at.1 fun o k _ => by rw [upd_ne z]; exact k, e3⟩
  dis := R.dis
  wb := R.wb
  pa := R.pa
  lo := R.lo
  st := fun a q => R.st a (by
    by_cases z : a = p
    · rw [z, bl_of upd_same n3] at q; cases q
    · unfold bl at q ⊢
      rw [upd_ne z] at q; exact q)
  kp := fun a u h1 h2 h3 => by rw [upd_ne (fun z => h1 (by rw [z]; exact b))]; exact R.kp a u h1 h2 h3
  f0 := R.f0
  nf := R.nf
/-- the object of a name is changed -/
theorem Rel.put {i : Nat} {p : Addr} {s s' : Slot} {o' : HO} (R : Rel c W F H σ ρ) (e : ρ[i]? = some s) (so : s.own = true) (a : σ[i]? = some (some (.ref p))) (h : Own c F (upd H p o') p s') : Rel c W F (upd H p o') σ (ρ.set i s') := by
  obtain ⟨q, e1, e2, e3⟩ := (R.here i s e).own so
  rw [a] at e1
  cases e1
  obtain ⟨o, k1, k2, k3⟩ := e2.plain
  have hi : i < ρ.length := (List.getElem?_eq_some_iff.mp e).1
  have so' : s'.own = true := h.at.2.2
  refine ⟨fun b u q => ?_, R.nt, fun q hq => tabS_put (R.tab q hq) k1 k2 k3, by rw [List.length_set, R.len], fun j t q => ?_, fun j k t u q f1 f2 o1 o2 a1 a2 => ?_, R.wb, fun j q m => ⟨(R.pa j q m).1, fun t f ot => ?_⟩, fun j t q hj f ot b => ?_, fun b q => R.st b ?_, fun b u h1 h2 h3 => ?_, R.f0, R.nf⟩
  · rw [upd_ne (fun z => by rw [z, e2.at.1] at q; cases q)]
    exact R.sub b u q
  · rcases set_at q with ⟨n1, l1, z1⟩ | ⟨n1, q1⟩
    · subst n1 z1
      exact .of_own a h e3
    · refine (R.here j t q1).mono (Same.refl _) fun r f k => ?_
      have z : r ≠ p := fun z => by
        rw [z] at f
        exact n1 (R.dis i j s t p e q1 so k.at.2.2 a f)
      exact k.mono (Same.refl _) k.at.1 fun o f _ => by rw [upd_ne z]; exact f
  · rcases set_at f1 with ⟨n1, _, _⟩ | ⟨n1, f1⟩
    · rcases set_at f2 with ⟨n2, _, _⟩ | ⟨n2, f2⟩
      · rw [← n1, ← n2]
      · subst n1
        exact R.dis i k s u q e f2 so o2 a1 a2
    · rcases set_at f2 with ⟨n2, _, _⟩ | ⟨n2, f2⟩
      · subst n2
        exact R.dis j i t s q f1 e o1 so a1 a2
      · exact R.dis j k t u q f1 f2 o1 o2 a1 a2
  · rcases set_at f with ⟨n1, _, _⟩ | ⟨n1, f1⟩
    · subst n1
      exact (R.pa i q m).2 s e so
    · exact (R.pa j q m).2 t f1 ot
  · rcases set_at f with ⟨n1, _, _⟩ | ⟨n1, f1⟩
    · subst n1
      exact R.lo i s q hj e so b
    · exact R.lo j t q hj f1 ot b
  · by_cases z : b = p
    · rw [z] at q
      exact absurd q h.bl
    · unfold bl at q ⊢
      rw [upd_ne z] at q; exact q
  · rw [upd_ne (fun z => h1 (by rw [z]; exact e3))]
    exact R.kp b u h1 h2 h3
/-- a list, a dict of the frame's own is frozen -/
def frz : Slot → Option D
  | .o ds => some (.lst ds)
  | .q kvs => some (.dct (kvs.map (·.1)) (kvs.map (·.2)))
  | _ => none
theorem Rel.freeze {i : Nat} {s : Slot} {d : D} (R : Rel c W F H σ ρ) (hi : W.np ≤ i) (e : ρ[i]? = some s) (ed : frz s = some d) : ∃ F', Same F F' ∧ Rel c W F' H σ (ρ.set i (.d d)) := by
  have so : s.own = true := by cases s <;> first | rfl | cases ed
  obtain ⟨p, a, h, b⟩ := (R.here i s e).own so
  have h0 : W.H0 p = none := R.lo i s p hi e so a
  have fp := h.at.1
  obtain ⟨o, eo, n1, n2⟩ := h.plain
  have sm : Same F (upd F p o) := fun a u q => by rw [upd_ne (ne_of_none q fp)]; exact q
  have rp : Rep c.K (upd F p o) d (.ref p) := by
    cases s with
    | u => cases ed
    | d _ => cases ed
    | qt _ => cases ed
    | o ds =>
      obtain ⟨vs, h1, h2, h3⟩ := h
      cases ed
      rw [eo] at h1
      cases h1
      exact ⟨p, vs, rfl, upd_same, h2.mono sm⟩
    | q kvs =>
      obtain ⟨us, h1, h2, h3, h4⟩ := h
      cases ed
      rw [eo] at h1
      cases h1
      exact ⟨p, us, rfl, upd_same, h2, h3.mono sm⟩
  refine ⟨upd F p o, sm, fun x u q => ?_, fun x ps => ?_, R.tab, by rw [List.length_set, R.len], fun j t q => ?_, fun j k t u q f1 f2 o1 o2 a1 a2 => ?_, R.wb, fun j q m => ⟨(R.pa j q m).1, fun t f ot => ?_⟩, fun j t q hj f ot b => ?_, R.st, R.kp, fun x u q => sm x u (R.f0 x u q), fun x h1 h2 => ?_⟩
  · by_cases z : x = p
    · rw [z, upd_same] at q; rw [z, eo]; exact q
    · rw [upd_ne z] at q; exact R.sub x u q
  · by_cases z : x = p
    · rw [z, upd_same]; exact fun w => n1 ps (Option.some.inj w)
    · rw [upd_ne z]; exact R.nt x ps
  · rcases set_at q with ⟨n1, l1, z1⟩ | ⟨n1, q1⟩
    · subst n1 z1
      exact ⟨.ref p, a, rp⟩
    · refine (R.here j t q1).mono sm fun r f k => ?_
      have z : r ≠ p := fun z => by
        rw [z] at f
        exact n1 (R.dis i j s t p e q1 so k.at.2.2 a f)
      exact k.mono sm (by rw [upd_ne z]; exact k.at.1) fun o f _ => f
  · rcases set_at f1 with ⟨_, _, z⟩ | ⟨n1, f1⟩
    · subst z; cases o1
    · rcases set_at f2 with ⟨_, _, z⟩ | ⟨n2, f2⟩
      · subst z; cases o2
      · exact R.dis j k t u q f1 f2 o1 o2 a1 a2
  · rcases set_at f with ⟨_, _, z⟩ | ⟨n1, f1⟩
    · subst z; cases ot
    · exact (R.pa j q m).2 t f1 ot
  · rcases set_at f with ⟨_, _, z⟩ | ⟨n1, f1⟩
    · subst z; cases ot
    · exact R.lo j t q hj f1 ot b
  · rw [upd_ne (fun z => h2 (by rw [z]; exact h0))]
    exact R.nf x h1 h2
end Pl
namespace Pl
open PySem PySem.Spec PyProof.Rows L2
variable {α β γ : Type} {c : Cn} {E : WX} {np : Nat}
/-! ## D. statements -/
inductive Ct where
  | nx | rt (d : D) | rn (ds : List D) | bk | ct
abbrev S := M Ct
/-- at p lies a list of the data ds that nobody else knows -/
structure Fresh (c : Cn) (W : Fm) (F H : Hp) (σ : L2.St) (ρ : Env) (p : Addr) (ds : List D) : Prop where
  own : OwnL c F H p ds
  h0 : W.H0 p = none
  no : ∀ (j : Nat) (t : Slot), ρ[j]? = some t → t.own = true → σ[j]? ≠ some (some (.ref p))
def SPost (c : Cn) (W : Fm) (F : Hp) (E : WX) (D : Ends) (r : Rs Ct) : Prop := match r with
  | .ok .nx ρ' => ∀ F' H' σ', Rel c W F' H' σ' ρ' → Same F F' → D.nx σ' H'
  | .ok (.rt d) ρ' => ∀ F' H' σ' v, Rel c W F' H' σ' ρ' → Same F F' → Rep c.K F' d v → D.rt v H'
  | .ok (.rn ds) ρ' => ∀ F' H' σ' p, Rel c W F' H' σ' ρ' → Same F F' → Fresh c W F' H' σ' ρ' p ds → D.rt (.ref p) H'
  | .ok .bk ρ' => ∀ F' H' σ', Rel c W F' H' σ' ρ' → Same F F' → D.bk σ' H'
  | .ok .ct ρ' => ∀ F' H' σ', Rel c W F' H' σ' ρ' → Same F F' → D.ct σ' H'
  | .ex e ρ' => ∀ F' H' σ' cls od, Rel c W F' H' σ' ρ' → Same F F' → XRep c F' H' e cls od → E cls od σ' H'
  | .bad => False
section
variable {W : Fm} {F : Hp} {D : Ends}
theorem SPost.up {F1 : Hp} {r : Rs Ct} (s : Same F F1) (h : SPost c W F E D r) : SPost c W F1 E D r := by
  cases r with
  | ok k ρ' =>
    cases k with
    | nx => exact fun F' H' σ' h1 h2 => h F' H' σ' h1 (s.trans h2)
    | rt d => exact fun F' H' σ' v h1 h2 h3 => h F' H' σ' v h1 (s.trans h2) h3
    | rn ds => exact fun F' H' σ' v h1 h2 h3 => h F' H' σ' v h1 (s.trans h2) h3
    | bk => exact fun F' H' σ' h1 h2 => h F' H' σ' h1 (s.trans h2)
    | ct => exact fun F' H' σ' h1 h2 => h F' H' σ' h1 (s.trans h2)
  | ex e ρ' => exact fun F' H' σ' cls od h1 h2 h3 => h F' H' σ' cls od h1 (s.trans h2) h3
  | bad => exact h
theorem SPost.bind {σ : L2.St} {m : M α} {g : α → S} {ρ : Env} (rel : Hp → α → β → Prop) (h : SPost c W F E D (M.bind m g ρ)) :
    Post c W F σ E rel (m ρ) fun b H1 => ∃ a ρ1 F1, Rel c W F1 H1 σ ρ1 ∧ Same F F1 ∧ rel F1 a b ∧ SPost c W F1 E D (g a ρ1) := by
  unfold M.bind at h
  revert h
  cases m ρ with
  | ok a ρ' => exact fun h F' H' b h1 h2 h3 => ⟨a, ρ', F', h1, h2, h3, h.up h2⟩
  | ex e ρ' => exact fun h F' H' cls od h1 h2 h3 => h F' H' σ cls od h1 h2 h3
  | bad => exact fun h => h
end
def Sx (c : Cn) (E : WX) (np : Nat) (t : TS) (g : S) : Prop := ∀ W F H σ ρ D, W.np = np → Rel c W F H σ ρ → SPost c W F E D (g ρ) → t D σ H
/-- a target; the places that it stores to -/
def Gx (c : Cn) (g : TG) (is : List Nat) (gd : D → Env → Option Env) : Prop := ∀ W F H σ ρ d v ρ' Q, Rel c W F H σ ρ → Rep c.K F d v → gd d ρ = some ρ' →
  (∀ F' H' σ', Rel c W F' H' σ' ρ' → Same F F' → σ'.length = σ.length → (∀ j, j ∉ is → σ'[j]? = σ[j]?) → Q σ' H') → g v σ H Q
def Gxs (c : Cn) (g : TGs) (is : List Nat) (gd : List D → Env → Option Env) : Prop := ∀ W F H σ ρ ds vs ρ' Q, Rel c W F H σ ρ → RepL c.K F ds vs → gd ds ρ = some ρ' →
  (∀ F' H' σ', Rel c W F' H' σ' ρ' → Same F F' → σ'.length = σ.length → (∀ j, j ∉ is → σ'[j]? = σ[j]?) → Q σ' H') → g vs σ H Q
def sSeq (s t : S) : S := s.bind fun k => match k with
  | .nx => t
  | k => M.pure k
def sNext : S := M.pure .nx
def sIf (t : M Bool) (a b : S) : S := t.bind fun k => if k = true then a else b
def sRet (e : M D) : S := e.bind fun d => M.pure (.rt d)
def sDrop (e : M D) : S := e.bind fun _ => M.pure .nx
def sAsg (gd : D → Env → Option Env) (e : M D) : S := e.bind fun d ρ => match gd d ρ with
  | some ρ' => .ok .nx ρ'
  | none => .bad
def sBad : S := fun _ => .bad
def nmD (i : Nat) (d : D) (ρ : Env) : Option Env := some (ρ.set i (.d d))
def nilD (ds : List D) (ρ : Env) : Option Env := match ds with
  | [] => some ρ
  | _ => none
def consD (g : D → Env → Option Env) (gs : List D → Env → Option Env) (ds : List D) (ρ : Env) : Option Env := match ds with
  | [] => none
  | d :: ds => (g d ρ).bind (gs ds)
def tupD (n : Nat) (gs : List D → Env → Option Env) (d : D) (ρ : Env) : Option Env := match d with
  | .tup ds => if ds.length = n then gs ds ρ else none
  | _ => none
def lstD (n : Nat) (gs : List D → Env → Option Env) (d : D) (ρ : Env) : Option Env := match d with
  | .lst ds => if ds.length = n then gs ds ρ else none
  | _ => none
section
variable {t u ts : TS} {g gu : S} {te : TE} {f : M D} {tT : TT} {fT : M Bool}
theorem sx_next : Sx c E np tNext sNext := fun W F H σ ρ D _ R h => h F H σ R (Same.refl _)
theorem sx_seq (h1 : Sx c E np t g) (h2 : Sx c E np u gu) : Sx c E np (tSeq t u) (sSeq g gu) := by
  intro W F H σ ρ D hn R h
  refine h1 W F H σ ρ { D with nx := u D } hn R ?_
  unfold sSeq M.bind at h
  revert h
  cases g ρ with
  | ok k ρ' =>
    cases k with
    | nx => exact fun h F' H' σ' R' s => h2 W F' H' σ' ρ' D hn R' (h.up s)
    | rt d => exact fun h => h
    | rn ds => exact fun h => h
    | bk => exact fun h => h
    | ct => exact fun h => h
  | ex e ρ' => exact fun h => h
  | bad => exact fun h => h
theorem sx_if (hT : Tx c E tT fT) (h1 : Sx c E np t g) (h2 : Sx c E np u gu) : Sx c E np (tIfS tT t u) (sIf fT g gu) := by
  intro W F H σ ρ D hn R h
  refine hT W F H σ ρ _ R ((h.bind (fun _ a b => b = a)).mono fun k H1 ⟨k', ρ1, F1, R1, s1, r1, q⟩ => ?_)
  subst r1
  cases k with
  | true => exact h1 W F1 H1 σ ρ1 D hn R1 q
  | false => exact h2 W F1 H1 σ ρ1 D hn R1 q
theorem sx_ret (he : Ex c E te f) : Sx c E np (tRet te) (sRet f) := by
  intro W F H σ ρ D hn R h
  refine he W F H σ ρ _ R ((h.bind (Rep c.K)).mono fun v H1 ⟨d, ρ1, F1, R1, s1, r1, q⟩ => ?_)
  exact q F1 H1 σ v R1 (Same.refl _) r1
theorem sx_retN : Sx c E np tRetN (M.pure (.rt .non)) := fun W F H σ ρ D _ R h => h F H σ .non R (Same.refl _) rfl
theorem sx_drop (he : Ex c E te f) : Sx c E np (tDrop te) (sDrop f) := by
  intro W F H σ ρ D hn R h
  refine he W F H σ ρ _ R ((h.bind (Rep c.K)).mono fun v H1 ⟨d, ρ1, F1, R1, s1, r1, q⟩ => ?_)
  exact q F1 H1 σ R1 (Same.refl _)
theorem sx_break : Sx c E np tBreak (M.pure .bk) := fun W F H σ ρ D _ R h => h F H σ R (Same.refl _)
theorem sx_cont : Sx c E np tCont (M.pure .ct) := fun W F H σ ρ D _ R h => h F H σ R (Same.refl _)
theorem sx_never : Sx c E np tNever sBad := fun W F H σ ρ D _ R h => h
theorem gx_name {i : Nat} : Gx c (gName i) [i] (nmD i) := by
  intro W F H σ ρ d v ρ' Q R r e k
  cases e
  exact k F H _ (R.store r i) (Same.refl _) (by rw [List.length_set]) fun j hj => by
    rw [List.getElem?_set_ne]
    intro z
    exact hj (by rw [z]; exact List.mem_cons_self ..)
theorem gxs_nil : Gxs c gNil [] nilD := by
  intro W F H σ ρ ds vs ρ' Q R r e k
  cases ds with
  | nil =>
    have r : vs = [] := r
    cases e
    exact ⟨r, k F H σ R (Same.refl _) rfl fun _ _ => rfl⟩
  | cons d ds => cases e
theorem gxs_cons {g : TG} {gs : TGs} {is js : List Nat} {gd : D → Env → Option Env} {gds : List D → Env → Option Env} (h1 : Gx c g is gd) (h2 : Gxs c gs js gds) : Gxs c (gCons g gs) (is ++ js) (consD gd gds) := by
  intro W F H σ ρ ds vs ρ' Q R r e k
  cases ds with
  | nil => cases e
  | cons d ds =>
    obtain ⟨v, vr, e1, r1, r2⟩ := r
    have e : (gd d ρ).bind (gds ds) = some ρ' := e
    cases e2 : gd d ρ with
    | none => rw [e2] at e; cases e
    | some ρ1 =>
      rw [e2] at e
      refine ⟨v, vr, e1, h1 W F H σ ρ d v ρ1 _ R r1 e2 fun F1 H1 σ1 R1 s1 l1 k1 => ?_⟩
      refine h2 W F1 H1 σ1 ρ1 ds vr ρ' _ R1 (r2.mono s1) e fun F2 H2 σ2 R2 s2 l2 k2 => ?_
      exact k F2 H2 σ2 R2 (s1.trans s2) (l2.trans l1) fun j hj => (k2 j fun z => hj (List.mem_append_right _ z)).trans (k1 j fun z => hj (List.mem_append_left _ z))
theorem gx_tup {n : Nat} {gs : TGs} {is : List Nat} {gds : List D → Env → Option Env} (h : Gxs c gs is gds) : Gx c (gTup c.K n gs) is (tupD n gds) := by
  intro W F H σ ρ d v ρ' Q R r e k
  cases d with
  | tup ds =>
    obtain ⟨a, xs, e1, e2, e3⟩ := r
    have e : (if ds.length = n then gds ds ρ else none) = some ρ' := e
    split at e
    · rename_i hl
      exact ⟨a, xs, e1, sqT_mono R.sub e2.sq, by rw [← e3.len]; exact hl, h W F H σ ρ ds xs ρ' Q R e3 e k⟩
    · cases e
  | _ => cases e
theorem sx_asg {g : TG} {is : List Nat} {gd : D → Env → Option Env} (he : Ex c E te f) (hg : Gx c g is gd) : Sx c E np (tAsg te g) (sAsg gd f) := by
  intro W F H σ ρ D hn R h
  refine he W F H σ ρ _ R ((h.bind (Rep c.K)).mono fun v H1 ⟨d, ρ1, F1, R1, s1, r1, q⟩ => ?_)
  cases e : gd d ρ1 with
  | none =>
    have q : SPost c W F1 E D (match gd d ρ1 with | some ρ' => Rs.ok Ct.nx ρ' | none => Rs.bad) := q
    rw [e] at q
    exact q.elim
  | some ρ2 =>
    have q : SPost c W F1 E D (match gd d ρ1 with | some ρ' => Rs.ok Ct.nx ρ' | none => Rs.bad) := q
    rw [e] at q
    exact hg W F1 H1 σ ρ1 d v ρ2 _ R1 r1 e fun F2 H2 σ2 R2 s2 _ _ => q F2 H2 σ2 R2 s2
end
/-! ### loops -/
/-- the iterator J walks over the data ds, that lie frozen in F -/
structure WalkD (K : PySem.W.Frag) (J : It) (F : Hp) (ds : List D) : Prop where
  stop : ∀ i H, Same F H → ds.length ≤ i → J.stop i H
  go : ∀ i H, Same F H → i < ds.length → J.go i H
  yld : ∀ i H x H', Same F H → i < ds.length → J.yld i H x H' → ∃ d, ds[i]? = some d ∧ ((H' = H ∧ Rep K F d x) ∨ ∃ (T : Addr) (vs : List V) (es : List D), H T = none ∧ H' = upd H T (.tup vs) ∧ x = .ref T ∧ d = .tup es ∧ RepL K F es vs)
theorem WalkD.mono {K : PySem.W.Frag} {J : It} {F F' : Hp} {ds : List D} (w : WalkD K J F ds) (s : Same F F') : WalkD K J F' ds :=
  ⟨fun i H h => w.stop i H (s.trans h), fun i H h => w.go i H (s.trans h), fun i H x H' h hi y => by
    obtain ⟨d, e, q⟩ := w.yld i H x H' (s.trans h) hi y
    refine ⟨d, e, ?_⟩
    rcases q with ⟨q1, q2⟩ | ⟨T, vs, es, q1, q2, q3, q4, q5⟩
    · exact .inl ⟨q1, q2.mono s⟩
    · exact .inr ⟨T, vs, es, q1, q2, q3, q4, q5.mono s⟩⟩
/-- the item that a turn hands over, data again -/
theorem WalkD.turn {W : Fm} {F F1 H H' : Hp} {σ : L2.St} {ρ : Env} {J : It} {ds : List D} {i : Nat} {x : V} (w : WalkD c.K J F ds) (s : Same F F1) (R : Rel c W F1 H σ ρ) (hi : i < ds.length) (y : J.yld i H x H') :
    ∃ d F2, ds[i]? = some d ∧ Grow F1 H F2 H' ∧ Rep c.K F2 d x := by
  obtain ⟨d, e, q⟩ := w.yld i H x H' (s.trans R.sub) hi y
  rcases q with ⟨q1, q2⟩ | ⟨T, vs, es, q1, q2, q3, q4, q5⟩
  · subst q1
    exact ⟨d, F1, e, R.fz.refl, q2.mono s⟩
  · subst q2 q3 q4
    have g := R.fz.new (o := .tup vs) q1 fun _ z => by cases z
    exact ⟨_, _, e, g, T, vs, rfl, .inl upd_same, (q5.mono s).mono g.fs⟩
def Ix (c : Cn) (E : WX) (wi : TI) (f : M (List D)) : Prop := ∀ W F H σ ρ R, Rel c W F H σ ρ → Post c W F σ E (fun F' ds J => WalkD c.K J F' ds) (f ρ) R → wi σ H R
/-- behind a turn: on with k, or out -/
def again (r : Rs Ct) (k : S) : Rs Ct := match r with
  | .ok .nx ρ => k ρ
  | .ok .ct ρ => k ρ
  | .ok .bk ρ => .ok .nx ρ
  | .ok (.rt d) ρ => .ok (.rt d) ρ
  | .ok (.rn ds) ρ => .ok (.rn ds) ρ
  | .ex e ρ => .ex e ρ
  | .bad => .bad
def forL (gd : D → Env → Option Env) (body : S) : List D → S
  | [], ρ => .ok .nx ρ
  | x :: xs, ρ => match gd x ρ with
    | none => .bad
    | some ρ1 => again (body ρ1) (forL gd body xs)
def sFor (it : M (List D)) (gd : D → Env → Option Env) (body : S) : S := it.bind fun xs => forL gd body xs
theorem sx_for {wi : TI} {f : M (List D)} {g : TG} {is : List Nat} {gd : D → Env → Option Env} {tb : TS} {gb : S} (hi : Ix c E wi f) (hg : Gx c g is gd) (hb : Sx c E np tb gb) : Sx c E np (tFor wi g tb) (sFor f gd gb) := by
  intro W F H σ ρ D hn R h
  refine hi W F H σ ρ _ R ((h.bind (fun F' ds J => WalkD c.K J F' ds)).mono fun J H1 ⟨ds, ρ1, F1, R1, s1, w, q⟩ => ?_)
  refine ⟨fun i m σ2 H2 => ∃ F2 ρ2, Rel c W F2 H2 σ2 ρ2 ∧ Same F1 F2 ∧ m = ds.length - i ∧ i ≤ ds.length ∧ SPost c W F2 E D (forL gd gb (ds.drop i) ρ2), ⟨_, F1, ρ1, R1, Same.refl _, rfl, Nat.zero_le _, q⟩, ?_⟩
  rintro i m σ2 H2 ⟨F2, ρ2, R2, s2, rfl, hle, q2⟩
  by_cases hlt : i < ds.length
  · refine .inr ⟨w.go i H2 (s2.trans R2.sub) hlt, fun σ' H' => ∃ F3 ρ3, Rel c W F3 H' σ' ρ3 ∧ Same F1 F3 ∧ SPost c W F3 E D (forL gd gb (ds.drop (i + 1)) ρ3), fun σ' H' ⟨F3, ρ3, a, b, d⟩ => ⟨ds.length - (i + 1), by omega, F3, ρ3, a, b, rfl, hlt, d⟩, fun x H3 y => ?_⟩
    obtain ⟨d, F3, e, gr, r⟩ := w.turn s2 R2 hlt y
    have ed : ds.drop i = d :: ds.drop (i + 1) := by
      rw [List.getElem?_eq_getElem hlt] at e
      rw [List.drop_eq_getElem_cons hlt, Option.some.inj e]
    rw [ed] at q2
    have R3 := R2.grow gr
    cases e4 : gd d ρ2 with
    | none =>
      unfold forL at q2
      rw [e4] at q2
      exact q2.elim
    | some ρ4 =>
      unfold forL at q2
      rw [e4] at q2
      have q2 : SPost c W F2 E D (again (gb ρ4) (forL gd gb (ds.drop (i + 1)))) := q2
      refine hg W F3 H3 σ2 ρ2 d x ρ4 _ R3 r e4 fun F4 H4 σ4 R4 s4 _ _ => ?_
      have s14 : Same F1 F4 := (s2.trans gr.fs).trans s4
      refine hb W F4 H4 σ4 ρ4 _ hn R4 ?_
      have q3 := SPost.up (gr.fs.trans s4) q2
      revert q3
      cases gb ρ4 with
      | ok k ρ5 =>
        cases k with
        | nx => exact fun q3 F' H' σ' R' s' => ⟨F', ρ5, R', s14.trans s', q3.up s'⟩
        | ct => exact fun q3 F' H' σ' R' s' => ⟨F', ρ5, R', s14.trans s', q3.up s'⟩
        | bk => exact fun q3 => q3
        | rt d => exact fun q3 => q3
        | rn ds => exact fun q3 => q3
      | ex e ρ5 => exact fun q3 => q3
      | bad => exact fun q3 => q3
  · have e : i = ds.length := by omega
    subst e
    refine .inl ⟨w.stop _ H2 (s2.trans R2.sub) (Nat.le_refl _), ?_⟩
    rw [List.drop_length] at q2
    exact q2 F2 H2 σ2 R2 (Same.refl _)
/-- while, at most n turns -/
def whileN (t : M Bool) (body : S) : Nat → S
  | 0, _ => .bad
  | n + 1, ρ => match t ρ with
    | .ok false ρ1 => .ok .nx ρ1
    | .ok true ρ1 => again (body ρ1) (whileN t body n)
    | .ex e ρ1 => .ex e ρ1
    | .bad => .bad
theorem sx_while {tT : TT} {fT : M Bool} {tb : TS} {gb : S} (n : Nat) (hT : Tx c E tT fT) (hb : Sx c E np tb gb) : Sx c E np (tWhile tT tb) (whileN fT gb n) := by
  intro W F H σ ρ D hn R h
  refine ⟨fun m σ2 H2 => ∃ F2 ρ2, Rel c W F2 H2 σ2 ρ2 ∧ Same F F2 ∧ SPost c W F2 E D (whileN fT gb m ρ2), ⟨n, F, ρ, R, Same.refl _, h⟩, ?_⟩
  rintro m σ2 H2 ⟨F2, ρ2, R2, s2, q2⟩
  cases m with
  | zero => exact q2.elim
  | succ m =>
    refine hT W F2 H2 σ2 ρ2 _ R2 ?_
    unfold whileN at q2
    revert q2
    cases fT ρ2 with
    | ex e ρ3 => exact fun q3 F' H' cls od R' s' x' => q3 F' H' σ2 cls od R' s' x'
    | bad => exact fun q3 => q3
    | ok k ρ3 =>
      cases k with
      | false =>
        intro q3 F3 H3 b R3 s3 eb
        subst eb
        rw [if_neg Bool.false_ne_true]
        exact q3 F3 H3 σ2 R3 s3
      | true =>
        intro q3 F3 H3 b R3 s3 eb
        subst eb
        rw [if_pos rfl]
        refine ⟨fun σ' H' => ∃ F4 ρ4, Rel c W F4 H' σ' ρ4 ∧ Same F F4 ∧ SPost c W F4 E D (whileN fT gb m ρ4), fun σ' H' ⟨F4, ρ4, a, b, d⟩ => ⟨m, Nat.lt_succ_self _, F4, ρ4, a, b, d⟩, ?_⟩
        refine hb W F3 H3 σ2 ρ3 _ hn R3 ?_
        have q4 : SPost c W F3 E D (again (gb ρ3) (whileN fT gb m)) := SPost.up s3 q3
        have sF : Same F F3 := s2.trans s3
        revert q4
        cases gb ρ3 with
        | ok k ρ5 =>
          cases k with
          | nx => exact fun q3 F' H' σ' R' s' => ⟨F', ρ5, R', sF.trans s', q3.up s'⟩
          | ct => exact fun q3 F' H' σ' R' s' => ⟨F', ρ5, R', sF.trans s', q3.up s'⟩
          | bk => exact fun q3 => q3
          | rt d => exact fun q3 => q3
          | rn ds => exact fun q3 => q3
        | ex e ρ5 => exact fun q3 => q3
        | bad => exact fun q3 => q3
end Pl
namespace Pl
open PySem PySem.Spec PyProof.Rows L2
variable {α β γ : Type} {c : Cn} {E : WX} {np : Nat} {W : Fm} {F H : Hp} {σ : L2.St} {ρ : Env}
/-! ## E. lists just made -/
theorem Rel.nobody {p : Addr} (R : Rel c W F H σ ρ) (hp : H p = none) : ∀ (j : Nat) (t : Slot), ρ[j]? = some t → t.own = true → σ[j]? ≠ some (some (.ref p)) := fun j t e ot z => by
  obtain ⟨q, e1, e2, _⟩ := (R.here j t e).own ot
  rw [z] at e1
  cases e1
  exact e2.there hp
theorem Rel.lay {p : Addr} {vs : List V} {ds : List D} (R : Rel c W F H σ ρ) (hp : H p = none) (r : RepL c.K F ds vs) : Rel c W F (upd H p (.lst vs)) σ ρ ∧ Fresh c W F (upd H p (.lst vs)) σ ρ p ds :=
  ⟨R.grow (Grow.side R.sub R.nt hp), ⟨⟨vs, upd_same, r, R.sub.free hp⟩, R.st p (bl_none hp), R.nobody hp⟩⟩
/-- it is frozen -/
theorem Rel.chill {p : Addr} {o : HO} (R : Rel c W F H σ ρ) (e : H p = some o) (n1 : ∀ ps, o ≠ .tbl ps) (fp : F p = none) (h0 : W.H0 p = none) (no : ∀ (j : Nat) (t : Slot), ρ[j]? = some t → t.own = true → σ[j]? ≠ some (some (.ref p))) : Same F (upd F p o) ∧ Rel c W (upd F p o) H σ ρ := by
  have sm : Same F (upd F p o) := fun a u q => by rw [upd_ne (ne_of_none q fp)]; exact q
  refine ⟨sm, fun x u q => ?_, fun x ps => ?_, R.tab, R.len, fun j t q => (R.here j t q).mono sm fun r f k => ?_, R.dis, R.wb, R.pa, R.lo, R.st, R.kp, fun x u q => sm x u (R.f0 x u q), fun x h1 h2 => ?_⟩
  · by_cases z : x = p
    · rw [z, upd_same] at q; rw [z, e]; exact q
    · rw [upd_ne z] at q; exact R.sub x u q
  · by_cases z : x = p
    · rw [z, upd_same]; exact fun w => n1 ps (Option.some.inj w)
    · rw [upd_ne z]; exact R.nt x ps
  · have z : r ≠ p := fun z => no j t q k.at.2.2 (by rw [f, z])
    exact k.mono sm (by rw [upd_ne z]; exact k.at.1) fun o f _ => f
  · rw [upd_ne (fun z => h2 (by rw [z]; exact h0))]
    exact R.nf x h1 h2
theorem Fresh.chill {p : Addr} {ds : List D} (R : Rel c W F H σ ρ) (h : Fresh c W F H σ ρ p ds) : ∃ F', Same F F' ∧ Rel c W F' H σ ρ ∧ Rep c.K F' (.lst ds) (.ref p) := by
  obtain ⟨vs, h1, h2, h3⟩ := h.own
  obtain ⟨s, R'⟩ := R.chill h1 (fun _ z => by cases z) h3 h.h0 h.no
  exact ⟨_, s, R', p, vs, rfl, upd_same, h2.mono s⟩
/-- it comes to a name -/
theorem Fresh.named {p : Addr} {ds : List D} {i : Nat} (R : Rel c W F H σ ρ) (h : Fresh c W F H σ ρ p ds) (hi : W.np ≤ i) : Rel c W F H (σ.set i (some (.ref p))) (ρ.set i (.o ds)) := by
  obtain ⟨own, h0, no⟩ := h
  have ne := no
  refine ⟨R.sub, R.nt, R.tab, by rw [List.length_set, List.length_set, R.len], fun j t e => ?_, fun j k t u q e1 e2 o1 o2 a1 a2 => ?_, R.wb, fun j q m => ⟨(R.pa j q m).1, fun t e ot => ?_⟩, fun j t q hj e ot a => ?_, R.st, R.kp, R.f0, R.nf⟩
  · rcases set_at e with ⟨e1, e2, e3⟩ | ⟨e1, e2⟩
    · subst e1 e3
      exact .of_own (s := .o ds) (List.getElem?_set_self (by rw [R.len]; exact e2)) own (R.wb p h0)
    · rw [List.getElem?_set_ne e1]
      exact R.here j t e2
  · rcases set_at e1 with ⟨n1, l1, z1⟩ | ⟨n1, e1⟩
    · rcases set_at e2 with ⟨n2, l2, z2⟩ | ⟨n2, e2⟩
      · rw [← n1, ← n2]
      · subst n1
        rw [List.getElem?_set_self (by rw [R.len]; exact l1)] at a1
        rw [List.getElem?_set_ne n2] at a2
        cases a1
        exact absurd a2 (ne k u e2 o2)
    · rw [List.getElem?_set_ne n1] at a1
      rcases set_at e2 with ⟨n2, l2, z2⟩ | ⟨n2, e2⟩
      · subst n2
        rw [List.getElem?_set_self (by rw [R.len]; exact l2)] at a2
        cases a2
        exact absurd a1 (ne j t e1 o1)
      · rw [List.getElem?_set_ne n2] at a2
        exact R.dis j k t u q e1 e2 o1 o2 a1 a2
  · rcases set_at e with ⟨n1, _, _⟩ | ⟨n1, e1⟩
    · have := (R.pa j q m).1
      omega
    · rw [List.getElem?_set_ne n1]
      exact (R.pa j q m).2 t e1 ot
  · rcases set_at e with ⟨n1, l1, _⟩ | ⟨n1, e1⟩
    · subst n1
      rw [List.getElem?_set_self (by rw [R.len]; exact l1)] at a
      cases a
      exact h0
    · rw [List.getElem?_set_ne n1] at a
      exact R.lo j t q hj e1 ot a
def PostF (c : Cn) (W : Fm) (F : Hp) (σ : L2.St) (E : WX) (r : Rs (List D)) (Q : VK) : Prop := match r with
  | .ok ds ρ' => ∀ F' H' p, Rel c W F' H' σ ρ' → Same F F' → Fresh c W F' H' σ ρ' p ds → Q (.ref p) H'
  | .ex e ρ' => ∀ F' H' cls od, Rel c W F' H' σ ρ' → Same F F' → XRep c F' H' e cls od → E cls od σ H'
  | .bad => False
/-- an expression that makes a new list -/
def Ef (c : Cn) (E : WX) (t : TE) (f : M (List D)) : Prop := ∀ W F H σ ρ Q, Rel c W F H σ ρ → PostF c W F σ E (f ρ) Q → t σ H Q
theorem PostF.bind {Q : VK} {m : M α} {g : α → M (List D)} (rel : Hp → α → β → Prop) (h : PostF c W F σ E (M.bind m g ρ) Q) :
    Post c W F σ E rel (m ρ) fun b H1 => ∃ a ρ1 F1, Rel c W F1 H1 σ ρ1 ∧ Same F F1 ∧ rel F1 a b ∧ PostF c W F1 σ E (g a ρ1) Q := by
  unfold M.bind at h
  revert h
  have up : ∀ {F1 : Hp} {r : Rs (List D)}, Same F F1 → PostF c W F σ E r Q → PostF c W F1 σ E r Q := fun {F1 r} s h => by
    cases r with
    | ok a ρ' => exact fun F' H' b h1 h2 h3 => h F' H' b h1 (s.trans h2) h3
    | ex e ρ' => exact fun F' H' cls od h1 h2 h3 => h F' H' cls od h1 (s.trans h2) h3
    | bad => exact h
  cases m ρ with
  | ok a ρ' => exact fun h F' H' b h1 h2 h3 => ⟨a, ρ', F', h1, h2, h3, up h2 h⟩
  | ex e ρ' => exact fun h => h
  | bad => exact fun h => h
def eFr (f : M (List D)) : M D := f.bind fun ds => M.pure (.lst ds)
theorem ex_fr {t : TE} {f : M (List D)} (h : Ef c E t f) : Ex c E t (eFr f) := by
  intro W F H σ ρ Q R q
  refine h W F H σ ρ Q R ?_
  unfold eFr M.bind at q
  revert q
  cases f ρ with
  | ok ds ρ' =>
    intro q F' H' p R' s fr
    obtain ⟨F2, s2, R2, r2⟩ := fr.chill R'
    exact q F2 H' _ R2 (s.trans s2) r2
  | ex e ρ' => exact fun q => q
  | bad => exact fun q => q
def eNew (a : M (List D)) : M (List D) := a.bind fun xs => M.lift (if xs.length ≤ 100000 then some xs else none)
theorem ef_lst {tA : TA} {fA : M (List D)} (ha : Ax c E tA fA) : Ef c E (tLst tA) (eNew fA) := by
  intro W F H σ ρ Q R h
  refine ha W F H σ ρ _ R ((h.bind (RepL c.K)).mono fun xs H1 ⟨ds, ρ1, F1, R1, s1, r1, h1⟩ => ?_)
  split at h1
  · refine ⟨by rw [← r1.len]; exact Nat.le_trans (by assumption) h100, fun p hp => ?_⟩
    obtain ⟨R2, fr⟩ := R1.lay hp r1
    exact h1 F1 _ p R2 (Same.refl _) fr
  · exact h1.elim
/-- x = a new list that will change -/
def sNew (i : Nat) (f : M (List D)) : S := f.bind fun ds ρ => .ok .nx (ρ.set i (.o ds))
theorem sx_new {t : TE} {f : M (List D)} {i : Nat} (h : Ef c E t f) (hi : np ≤ i) : Sx c E np (tAsg t (gName i)) (sNew i f) := by
  intro W F H σ ρ D hn R q
  refine h W F H σ ρ _ R ?_
  unfold sNew M.bind at q
  revert q
  cases f ρ with
  | ok ds ρ' => exact fun q F' H' p R' s fr => q F' H' _ (fr.named R' (by rw [hn]; exact hi)) s
  | ex e ρ' => exact fun q F' H' cls od R' s x => q F' H' σ cls od R' s x
  | bad => exact fun q => q
/-- return a new list -/
def sRetN (f : M (List D)) : S := f.bind fun ds => M.pure (.rn ds)
theorem sx_retNew {t : TE} {f : M (List D)} (h : Ef c E t f) : Sx c E np (tRet t) (sRetN f) := by
  intro W F H σ ρ D hn R q
  refine h W F H σ ρ _ R ?_
  unfold sRetN M.bind at q
  revert q
  cases f ρ with
  | ok ds ρ' => exact fun q F' H' p R' s fr => q F' H' σ p R' s fr
  | ex e ρ' => exact fun q F' H' cls od R' s x => q F' H' σ cls od R' s x
  | bad => exact fun q => q
/-! ### comprehensions -/
def wipeE (ρ : Env) : List Nat → Env
  | [] => ρ
  | v :: vs => (wipeE ρ vs).set v .u
def restE (ρ0 ρ : Env) : List Nat → Env
  | [] => ρ
  | v :: vs => (restE ρ0 ρ vs).set v (ρ0.getD v .u)
def calmE (ρ : Env) (vs : List Nat) : Bool := vs.all fun v => !(ρ.getD v .u).own
theorem wipeE_length (ρ : Env) : ∀ vs : List Nat, (wipeE ρ vs).length = ρ.length
  | [] => rfl
  | v :: vs => by
    show ((wipeE ρ vs).set v .u).length = _
    rw [List.length_set, wipeE_length ρ vs]
theorem wipe_get {σ : L2.St} {j : Nat} : ∀ {vs : List Nat}, j ∉ vs → (wipe σ vs)[j]? = σ[j]?
  | [], _ => rfl
  | v :: vs, h => by
    show ((wipe σ vs).set v none)[j]? = _
    rw [List.getElem?_set_ne (fun z => h (by rw [z]; exact List.mem_cons_self ..))]
    exact wipe_get fun z => h (List.mem_cons_of_mem _ z)
theorem wipeE_get {ρ : Env} {j : Nat} : ∀ {vs : List Nat}, j ∉ vs → (wipeE ρ vs)[j]? = ρ[j]?
  | [], _ => rfl
  | v :: vs, h => by
    show ((wipeE ρ vs).set v .u)[j]? = _
    rw [List.getElem?_set_ne (fun z => h (by rw [z]; exact List.mem_cons_self ..))]
    exact wipeE_get fun z => h (List.mem_cons_of_mem _ z)
theorem wipeE_in {ρ : Env} {j : Nat} {s : Slot} : ∀ {vs : List Nat}, j ∈ vs → (wipeE ρ vs)[j]? = some s → s = .u
  | [], h, _ => by cases h
  | v :: vs, h, e => by
    have e : ((wipeE ρ vs).set v .u)[j]? = some s := e
    rcases set_at e with ⟨_, _, z⟩ | ⟨n, e⟩
    · exact z.symm
    · exact wipeE_in (by
        rcases List.mem_cons.mp h with z | z
        · exact absurd z.symm n
        · exact z) e
theorem wipe_ext {σ σ2 : L2.St} {vs : List Nat} (hl : σ2.length = σ.length) (h : ∀ j, j ∉ vs → σ2[j]? = σ[j]?) : wipe σ2 vs = wipe σ vs := by
  have inn : ∀ (σ : L2.St) (vs : List Nat) (j : Nat), j ∈ vs → (wipe σ vs)[j]? = if j < σ.length then some none else none := by
    intro σ vs
    induction vs with
    | nil => intro j hj; cases hj
    | cons v vs ih =>
      intro j hj
      show ((wipe σ vs).set v none)[j]? = _
      by_cases z : v = j
      · subst z
        by_cases hlt : v < σ.length
        · rw [List.getElem?_set_self (by rw [wipe_length]; exact hlt), if_pos hlt]
        · rw [List.getElem?_eq_none (by rw [List.length_set, wipe_length]; omega), if_neg hlt]
      · rw [List.getElem?_set_ne z]
        exact ih j (by
          rcases List.mem_cons.mp hj with w | w
          · exact absurd w.symm z
          · exact w)
  refine List.ext_getElem? fun j => ?_
  by_cases hj : j ∈ vs
  · rw [inn _ _ _ hj, inn _ _ _ hj, hl]
  · rw [wipe_get hj, wipe_get hj]
    exact h j hj
theorem Rel.wiped (R : Rel c W F H σ ρ) (vs : List Nat) : Rel c W F H (wipe σ vs) (wipeE ρ vs) := by
  have key : ∀ (j : Nat) (s : Slot), (wipeE ρ vs)[j]? = some s → s.own = true → j ∉ vs ∧ ρ[j]? = some s ∧ (wipe σ vs)[j]? = σ[j]? := fun j s e o => by
    by_cases h : j ∈ vs
    · rw [wipeE_in h e] at o
      cases o
    · exact ⟨h, by rw [← wipeE_get h]; exact e, wipe_get h⟩
  refine ⟨R.sub, R.nt, R.tab, by rw [wipe_length, wipeE_length, R.len], fun j s e => ?_, fun j k s t p e1 e2 o1 o2 a1 a2 => ?_, R.wb, fun j p m => ⟨(R.pa j p m).1, fun s e o => ?_⟩, fun j s p hj e o a => ?_, R.st, R.kp, R.f0, R.nf⟩
  · by_cases h : j ∈ vs
    · rw [wipeE_in h e]
      exact trivial
    · rw [wipe_get h]
      exact R.here j s (by rw [← wipeE_get h]; exact e)
  · obtain ⟨_, q1, w1⟩ := key j s e1 o1
    obtain ⟨_, q2, w2⟩ := key k t e2 o2
    rw [w1] at a1
    rw [w2] at a2
    exact R.dis j k s t p q1 q2 o1 o2 a1 a2
  · obtain ⟨_, q1, w1⟩ := key j s e o
    rw [w1]
    exact (R.pa j p m).2 s q1 o
  · obtain ⟨_, q1, w1⟩ := key j s e o
    rw [w1] at a
    exact R.lo j s p hj q1 o a
theorem restE_length (ρ0 ρ : Env) : ∀ vs : List Nat, (restE ρ0 ρ vs).length = ρ.length
  | [] => rfl
  | v :: vs => by
    show ((restE ρ0 ρ vs).set v _).length = _
    rw [List.length_set, restE_length ρ0 ρ vs]
theorem restE_get {ρ0 ρ : Env} {j : Nat} {s : Slot} : ∀ {vs : List Nat}, (restE ρ0 ρ vs)[j]? = some s → (j ∈ vs ∧ s = ρ0.getD j .u) ∨ (j ∉ vs ∧ ρ[j]? = some s)
  | [], e => .inr ⟨by simp, e⟩
  | v :: vs, e => by
    have e : ((restE ρ0 ρ vs).set v (ρ0.getD v .u))[j]? = some s := e
    rcases set_at e with ⟨n, _, z⟩ | ⟨n, e⟩
    · subst n
      exact .inl ⟨List.mem_cons_self .., z.symm⟩
    · rcases restE_get e with ⟨a, b⟩ | ⟨a, b⟩
      · exact .inl ⟨List.mem_cons_of_mem _ a, b⟩
      · exact .inr ⟨fun z => by
          rcases List.mem_cons.mp z with z | z
          · exact n z.symm
          · exact a z, b⟩
/-- behind a comprehension: its names are what they were -/
theorem Rel.back {F0 H0 : Hp} {ρ1 : Env} {vs : List Nat} (R0 : Rel c W F0 H0 σ ρ) (hc : calmE ρ vs = true) (s : Same F0 F) (R : Rel c W F H (wipe σ vs) (wipeE ρ1 vs)) : Rel c W F H σ (restE ρ ρ1 vs) := by
  have calm : ∀ j, j ∈ vs → (ρ.getD j .u).own = false := fun j hj => by
    have := List.all_eq_true.mp hc j hj
    simpa using this
  have key : ∀ (j : Nat) (t : Slot), (restE ρ ρ1 vs)[j]? = some t → t.own = true → (wipeE ρ1 vs)[j]? = some t ∧ (wipe σ vs)[j]? = σ[j]? := fun j t e o => by
    rcases restE_get e with ⟨a, b⟩ | ⟨a, b⟩
    · rw [b, calm j a] at o
      cases o
    · exact ⟨by rw [wipeE_get a]; exact b, wipe_get a⟩
  have hl : ρ1.length = ρ.length := by
    have h1 := R.len
    rw [wipe_length, wipeE_length] at h1
    rw [← h1, R0.len]
  refine ⟨R.sub, R.nt, R.tab, by rw [restE_length, R0.len, hl], fun j t e => ?_, fun j k t u p e1 e2 o1 o2 a1 a2 => ?_, R.wb, fun j p m => ⟨(R.pa j p m).1, fun t e o => ?_⟩, fun j t p hj e o a => ?_, R.st, R.kp, R.f0, R.nf⟩
  · rcases restE_get e with ⟨a, b⟩ | ⟨a, b⟩
    · have hj : j < ρ.length := by
        have := (List.getElem?_eq_some_iff.mp e).1
        rw [restE_length] at this
        omega
      have e0 : ρ[j]? = some t := by
        rw [b, List.getD_eq_getElem?_getD, List.getElem?_eq_getElem hj]
        rfl
      have o0 : t.own = false := by rw [b]; exact calm j a
      have h0 := R0.here j t e0
      cases t with
      | u => exact trivial
      | d d =>
        obtain ⟨v, e1, r⟩ := h0
        exact ⟨v, e1, r.mono s⟩
      | o _ => cases o0
      | q _ => cases o0
      | qt _ => cases o0
    · have := R.here j t (by rw [wipeE_get a]; exact b)
      rw [wipe_get a] at this
      exact this
  · obtain ⟨q1, w1⟩ := key j t e1 o1
    obtain ⟨q2, w2⟩ := key k u e2 o2
    rw [← w1] at a1
    rw [← w2] at a2
    exact R.dis j k t u p q1 q2 o1 o2 a1 a2
  · obtain ⟨q1, w1⟩ := key j t e o
    rw [← w1]
    exact (R.pa j p m).2 t q1 o
  · obtain ⟨q1, w1⟩ := key j t e o
    rw [← w1] at a
    exact R.lo j t p hj q1 o a
/-- while an element is reckoned, the list so far is out of reach -/
def Fm.ward (W : Fm) (p : Addr) (o : HO) : Fm := { W with B := fun a => W.B a ∧ a ≠ p, H0 := upd W.H0 p o }
theorem Rel.ward {p : Addr} {o : HO} (R : Rel c W F H σ ρ) (e : H p = some o) (n1 : ∀ ps, o ≠ .tbl ps) (fp : F p = none) (h0 : W.H0 p = none) (no : ∀ (j : Nat) (t : Slot), ρ[j]? = some t → t.own = true → σ[j]? ≠ some (some (.ref p))) : Rel c (W.ward p o) F H σ ρ := by
  refine ⟨R.sub, R.nt, R.tab, R.len, fun j t q => ?_, R.dis, fun a q => ?_, R.pa, fun j t q hj f ot a => ?_, fun a q => ?_, fun a u h1 h2 h3 => ?_, R.f0, fun a h1 h2 => ?_⟩
  · have h := R.here j t q
    cases t with
    | u => exact trivial
    | d d => exact h
    | o _ => obtain ⟨r, e1, e2, e3⟩ := h; exact ⟨r, e1, e2, e3, fun z => no j _ q rfl (by rw [e1, z])⟩
    | q _ => obtain ⟨r, e1, e2, e3⟩ := h; exact ⟨r, e1, e2, e3, fun z => no j _ q rfl (by rw [e1, z])⟩
    | qt _ => obtain ⟨r, e1, e2, e3⟩ := h; exact ⟨r, e1, e2, e3, fun z => no j _ q rfl (by rw [e1, z])⟩
  · have q : upd W.H0 p o a = none := q
    have z : a ≠ p := fun z => by rw [z, upd_same] at q; cases q
    rw [upd_ne z] at q
    exact ⟨R.wb a q, z⟩
  · have z : q ≠ p := fun z => no j t f ot (by rw [a, z])
    show upd W.H0 p o q = none
    rw [upd_ne z]
    exact R.lo j t q hj f ot a
  · have z : a ≠ p := fun z => by rw [z, bl_of e n1] at q; cases q
    show upd W.H0 p o a = none
    rw [upd_ne z]
    exact R.st a q
  · have h2 : upd W.H0 p o a = some u := h2
    by_cases z : a = p
    · rw [z, upd_same] at h2
      rw [z, e]
      exact h2
    · rw [upd_ne z] at h2
      exact R.kp a u (fun b => h1 ⟨b, z⟩) h2 h3
  · have h2 : upd W.H0 p o a ≠ none := h2
    by_cases z : a = p
    · rw [z]; exact fp
    · rw [upd_ne z] at h2
      exact R.nf a h1 h2
theorem Rel.unward {p : Addr} {o : HO} (R : Rel c (W.ward p o) F H σ ρ) (n1 : ∀ ps, o ≠ .tbl ps) (h0 : W.H0 p = none) (hf : W.F0 p = none) (b : W.B p) :
    Rel c W F H σ ρ ∧ H p = some o ∧ F p = none ∧ ∀ (j : Nat) (t : Slot), ρ[j]? = some t → t.own = true → σ[j]? ≠ some (some (.ref p)) := by
  have nB : ¬ (W.ward p o).B p := fun z => z.2 rfl
  refine ⟨⟨R.sub, R.nt, R.tab, R.len, fun j t q => ?_, R.dis, fun a q => ?_, R.pa, fun j t q hj f ot a => ?_, fun a q => ?_, fun a u h1 h2 h3 => ?_, R.f0, fun a h1 h2 => ?_⟩, R.kp p o nB upd_same n1, R.nf p hf (by show upd W.H0 p o p ≠ none; rw [upd_same]; intro z; cases z), fun j t q ot z => ?_⟩
  · have h := R.here j t q
    cases t with
    | u => exact trivial
    | d d => exact h
    | o _ => obtain ⟨r, e1, e2, e3⟩ := h; exact ⟨r, e1, e2, e3.1⟩
    | q _ => obtain ⟨r, e1, e2, e3⟩ := h; exact ⟨r, e1, e2, e3.1⟩
    | qt _ => obtain ⟨r, e1, e2, e3⟩ := h; exact ⟨r, e1, e2, e3.1⟩
  · by_cases z : a = p
    · rw [z]; exact b
    · exact (R.wb a (by show upd W.H0 p o a = none; rw [upd_ne z]; exact q)).1
  · have h : upd W.H0 p o q = none := R.lo j t q hj f ot a
    have z : q ≠ p := fun z => by rw [z, upd_same] at h; cases h
    rw [upd_ne z] at h
    exact h
  · have h : upd W.H0 p o a = none := R.st a q
    have z : a ≠ p := fun z => by rw [z, upd_same] at h; cases h
    rw [upd_ne z] at h
    exact h
  · have z : a ≠ p := fun z => by rw [z, h0] at h2; cases h2
    exact R.kp a u (fun b => h1 b.1) (by show upd W.H0 p o a = some u; rw [upd_ne z]; exact h2) h3
  · have z : a ≠ p := fun z => h2 (by rw [z]; exact h0)
    exact R.nf a h1 (by show upd W.H0 p o a ≠ none; rw [upd_ne z]; exact h2)
  · obtain ⟨r, e1, e2, e3⟩ := (R.here j t q).own ot
    rw [z] at e1
    cases e1
    exact e3.2 rfl
end Pl
namespace Pl
open PySem PySem.Spec PyProof.Rows L2
variable {α β γ : Type} {c : Cn} {E : WX} {np : Nat} {W : Fm} {F H : Hp} {σ : L2.St} {ρ : Env}
def lcL (gd : D → Env → Option Env) (tt : M Bool) (te : M D) (vs : List Nat) : List D → Env → Rs (List D)
  | [], ρ => .ok [] ρ
  | x :: xs, ρ => match gd x (wipeE ρ vs) with
    | none => .bad
    | some ρ1 => match tt ρ1 with
      | .ok false ρ2 => lcL gd tt te vs xs ρ2
      | .ok true ρ2 => match te ρ2 with
        | .ok d ρ3 => match lcL gd tt te vs xs ρ3 with
          | .ok ds ρ4 => .ok (d :: ds) ρ4
          | _ => .bad
        | _ => .bad
      | _ => .bad
def eLc (it : M (List D)) (gd : D → Env → Option Env) (tt : M Bool) (te : M D) (vs : List Nat) : M (List D) := it.bind fun xs ρ =>
  if calmE ρ vs = true then match lcL gd tt te vs xs ρ with
    | .ok ds ρ' => if ds.length ≤ 100000 then .ok ds (restE ρ ρ' vs) else .bad
    | _ => .bad
  else .bad
def E0w : WX := fun _ _ _ _ => False
theorem nobody_wiped {p : Addr} {vs : List Nat} (h : ∀ (j : Nat) (t : Slot), ρ[j]? = some t → t.own = true → σ[j]? ≠ some (some (.ref p))) : ∀ (j : Nat) (t : Slot), (wipeE ρ vs)[j]? = some t → t.own = true → (wipe σ vs)[j]? ≠ some (some (.ref p)) := fun j t e o => by
  by_cases k : j ∈ vs
  · rw [wipeE_in k e] at o
    cases o
  · rw [wipe_get k]
    exact h j t (by rw [← wipeE_get k]; exact e) o
theorem rest_own {ρ1 : Env} {vs : List Nat} (hc : calmE ρ vs = true) {j : Nat} {t : Slot} (e : (restE ρ ρ1 vs)[j]? = some t) (o : t.own = true) : (wipeE ρ1 vs)[j]? = some t ∧ (wipe σ vs)[j]? = σ[j]? := by
  rcases restE_get e with ⟨a, b⟩ | ⟨a, b⟩
  · have := List.all_eq_true.mp hc j a
    rw [b] at o
    rw [o] at this
    cases this
  · exact ⟨by rw [wipeE_get a]; exact b, wipe_get a⟩
theorem ef_lc {wi : TI} {fi : M (List D)} {g : TG} {is vs : List Nat} {gd : D → Env → Option Env} {tt : TT} {ft : M Bool} {te : TE} {fe : M D} (hi : Ix c E wi fi) (hg : Gx c g is gd) (hv : ∀ j ∈ is, j ∈ vs) (ht : Tx c E0w tt ft) (he : Ex c E0w te fe) :
    Ef c E (tLc wi g tt te vs) (eLc fi gd ft fe vs) := by
  intro W F H σ ρ Q R h
  refine hi W F H σ ρ _ R ((h.bind (fun F' ds J => WalkD c.K J F' ds)).mono fun J H1 ⟨ds, ρ1, F1, R1, s1, w, q⟩ => ?_)
  obtain ⟨hc, es, ρ', hl, hz, q⟩ : calmE ρ1 vs = true ∧ ∃ es ρ', lcL gd ft fe vs ds ρ1 = .ok es ρ' ∧ es.length ≤ 100000 ∧ PostF c W F1 σ E (.ok es (restE ρ1 ρ' vs)) Q := by
    split at q
    · rename_i hc
      revert q
      cases hl : lcL gd ft fe vs ds ρ1 with
      | ok es ρ' =>
        intro q
        have q : PostF c W F1 σ E (if es.length ≤ 100000 then .ok es (restE ρ1 ρ' vs) else .bad) Q := q
        split at q
        · exact ⟨hc, es, ρ', rfl, by assumption, q⟩
        · exact q.elim
      | ex e ρ' => exact fun q => q.elim
      | bad => exact fun q => q.elim
    · exact q.elim
  intro D hD
  have h0 : W.H0 D = none := R1.st D (bl_none hD)
  have hB : W.B D := R1.wb D h0
  have hF0 : W.F0 D = none := by
    cases e : W.F0 D with
    | none => rfl
    | some o =>
      have := R1.sub D o (R1.f0 D o e)
      rw [hD] at this
      cases this
  have nt : ∀ (vs : List V) ps, HO.lst vs ≠ .tbl ps := fun _ _ z => by cases z
  have nx : ∀ (vs : List V) φ, HO.lst vs ≠ .ext φ := fun _ _ z => by cases z
  let In : Nat → Hp → Prop := fun i H2 => ∃ F2 ρ2 acc us rest, Rel c W F2 H2 (wipe σ vs) (wipeE ρ2 vs) ∧ Same F1 F2 ∧ i ≤ ds.length ∧ H2 D = some (.lst us) ∧ RepL c.K F2 acc us ∧ F2 D = none ∧
    (∀ (j : Nat) (t : Slot), (wipeE ρ2 vs)[j]? = some t → t.own = true → (wipe σ vs)[j]? ≠ some (some (.ref D))) ∧ lcL gd ft fe vs (ds.drop i) ρ2 = .ok rest ρ' ∧ acc ++ rest = es
  refine ⟨fun i m H2 => m = ds.length - i ∧ In i H2, ⟨_, rfl, F1, ρ1, [], [], es, (R1.lay hD RepL.nil).1.wiped vs, Same.refl _, Nat.zero_le _, upd_same, rfl, R1.sub.free hD, nobody_wiped (R1.nobody hD), hl, rfl⟩, ?_⟩
  rintro i m H2 ⟨rfl, F2, ρ2, acc, us, rest, R2, s2, hle, eD, ra, fD, no, hr, hes⟩
  by_cases hlt : i < ds.length
  · refine .inr ⟨w.go i H2 (s2.trans R2.sub) hlt, In (i + 1), fun H' h' => ⟨_, by omega, rfl, h'⟩, fun x H3 y => ?_⟩
    have R2' := R2.ward eD (fun _ z => by cases z) fD h0 no
    obtain ⟨d, F3, e, gr, r⟩ := w.turn s2 R2' hlt y
    have ed : ds.drop i = d :: ds.drop (i + 1) := by
      rw [List.getElem?_eq_getElem hlt] at e
      rw [List.drop_eq_getElem_cons hlt, Option.some.inj e]
    rw [ed] at hr
    unfold lcL at hr
    have R3 := R2'.grow gr
    cases e4 : gd d (wipeE ρ2 vs) with
    | none => rw [e4] at hr; cases hr
    | some ρ3 =>
      rw [e4] at hr
      refine hg _ F3 H3 (wipe σ vs) (wipeE ρ2 vs) d x ρ3 _ R3 r e4 fun F4 H4 σ4 R4 s4 l4 k4 => ?_
      have ew : wipe σ4 vs = wipe σ vs := wipe_ext (by rw [l4, wipe_length]) fun j hj => by rw [k4 j fun z => hj (hv j z), wipe_get hj]
      refine ⟨ew, ht _ F4 H4 σ4 ρ3 _ R4 ?_⟩
      have hr : (match ft ρ3 with
        | .ok false ρ2 => lcL gd ft fe vs (ds.drop (i + 1)) ρ2
        | .ok true ρ2 => match fe ρ2 with
          | .ok d ρ3 => match lcL gd ft fe vs (ds.drop (i + 1)) ρ3 with
            | .ok ds ρ4 => .ok (d :: ds) ρ4
            | _ => .bad
          | _ => .bad
        | _ => .bad) = Rs.ok rest ρ' := hr
      revert hr
      cases ft ρ3 with
      | ex e ρ5 => exact fun hr => by cases hr
      | bad => exact fun hr => by cases hr
      | ok k ρ5 =>
        cases k with
        | false =>
          intro hr F5 H5 b R5 s5 eb
          subst eb
          rw [if_neg Bool.false_ne_true]
          obtain ⟨R6, e6, f6, n6⟩ := R5.unward (nt us) h0 hF0 hB
          have R7 := R6.wiped vs
          rw [ew] at R7
          have n7 := nobody_wiped (vs := vs) n6
          rw [ew] at n7
          exact ⟨F5, ρ5, acc, us, rest, R7, ((s2.trans gr.fs).trans s4).trans s5, hlt, e6, ((ra.mono gr.fs).mono s4).mono s5, f6, n7, hr, hes⟩
        | true =>
          intro hr F5 H5 b R5 s5 eb
          subst eb
          rw [if_pos rfl]
          refine he _ F5 H5 σ4 ρ5 _ R5 ?_
          have hr : (match fe ρ5 with
            | .ok d ρ3 => match lcL gd ft fe vs (ds.drop (i + 1)) ρ3 with
              | .ok ds ρ4 => .ok (d :: ds) ρ4
              | _ => .bad
            | _ => .bad) = Rs.ok rest ρ' := hr
          revert hr
          cases fe ρ5 with
          | ex e ρ6 => exact fun hr => by cases hr
          | bad => exact fun hr => by cases hr
          | ok z ρ6 =>
            intro hr F6 H6 v R6 s6 rv
            have hr : (match lcL gd ft fe vs (ds.drop (i + 1)) ρ6 with
              | .ok ds ρ4 => .ok (z :: ds) ρ4
              | _ => .bad) = Rs.ok rest ρ' := hr
            obtain ⟨rest', h1, h2⟩ : ∃ rest', lcL gd ft fe vs (ds.drop (i + 1)) ρ6 = .ok rest' ρ' ∧ rest = z :: rest' := by
              revert hr
              cases lcL gd ft fe vs (ds.drop (i + 1)) ρ6 with
              | ok r4 ρ4 =>
                intro hr
                cases hr
                exact ⟨r4, rfl, rfl⟩
              | ex e ρ4 => exact fun hr => by cases hr
              | bad => exact fun hr => by cases hr
            subst h2
            obtain ⟨R7, e7, f7, n7⟩ := R6.unward (nt us) h0 hF0 hB
            have R8 := R7.wiped vs
            rw [ew] at R8
            have n8 := nobody_wiped (vs := vs) n7
            rw [ew] at n8
            have ra' : RepL c.K F6 acc us := (((ra.mono gr.fs).mono s4).mono s5).mono s6
            refine ⟨us, e7, ?_, F6, ρ6, acc ++ [z], us ++ [v], rest', R8.write e7 (nt us) (nx us) (nt _) f7 hB (fun j t q ot a => absurd a (n8 j t q ot)), (((s2.trans gr.fs).trans s4).trans s5).trans s6, hlt, upd_same, ra'.app (.cons rv .nil), f7, n8, h1, ?_⟩
            · have h3 : acc.length + (rest'.length + 1) ≤ 100000 := by
                rw [← hes, List.length_append, List.length_cons] at hz
                exact hz
              rw [← ra'.len]
              exact Nat.lt_of_lt_of_le (by omega) h100
            · rw [← hes, List.append_assoc]
              rfl
  · have e : i = ds.length := by omega
    subst e
    rw [List.drop_length] at hr
    cases hr
    refine .inl ⟨w.stop _ H2 (s2.trans R2.sub) (Nat.le_refl _), ?_⟩
    rw [List.append_nil] at hes
    subst hes
    refine q F2 H2 D (R1.back hc s2 R2) s2 ⟨⟨us, eD, ra, fD⟩, h0, fun j t e o => ?_⟩
    obtain ⟨q1, w1⟩ := rest_own (σ := σ) hc e o
    rw [← w1]
    exact no j t q1 o
theorem tx_yes : Tx c E tYes (M.pure true) := fun W F H σ ρ Q R h => h F H true R (Same.refl _) rfl
end Pl
namespace Pl
open PySem PySem.Spec PyProof.Rows L2
variable {α β γ : Type} {c : Cn} {E : WX} {np : Nat} {W : Fm} {F H F' H' : Hp} {σ : L2.St} {ρ : Env}
/-! ## F. calls -/
inductive Arg where
  | d (x : D) | o (i : Nat)
def ArgsOk (K : PySem.W.Frag) (F : Hp) (σ : L2.St) : List Arg → List V → Prop
  | [], vs => vs = []
  | .d x :: r, vs => ∃ v ws, vs = v :: ws ∧ Rep K F x v ∧ ArgsOk K F σ r ws
  | .o i :: r, vs => ∃ v ws, vs = v :: ws ∧ σ[i]? = some (some v) ∧ ArgsOk K F σ r ws
theorem ArgsOk.mono (s : Same F F') {K : PySem.W.Frag} : ∀ {as : List Arg} {vs : List V}, ArgsOk K F σ as vs → ArgsOk K F' σ as vs
  | [], _, h => h
  | .d x :: r, _, ⟨v, ws, h1, h2, h3⟩ => ⟨v, ws, h1, h2.mono s, ArgsOk.mono s h3⟩
  | .o i :: r, _, ⟨v, ws, h1, h2, h3⟩ => ⟨v, ws, h1, h2, ArgsOk.mono s h3⟩
theorem ArgsOk.len {K : PySem.W.Frag} : ∀ {as : List Arg} {vs : List V}, ArgsOk K F σ as vs → as.length = vs.length
  | [], _, h => by
    have h : _ = [] := h
    rw [h]
    rfl
  | .d x :: r, _, ⟨v, ws, h1, h2, h3⟩ => by rw [h1, List.length_cons, List.length_cons, ArgsOk.len h3]
  | .o i :: r, _, ⟨v, ws, h1, h2, h3⟩ => by rw [h1, List.length_cons, List.length_cons, ArgsOk.len h3]
theorem ArgsOk.getD {K : PySem.W.Frag} : ∀ {as : List Arg} {vs : List V} {j : Nat} {x : D}, ArgsOk K F σ as vs → as[j]? = some (.d x) → ∃ v, vs[j]? = some v ∧ Rep K F x v
  | [], _, _, _, _, e => by simp at e
  | .d x :: r, _, 0, _, ⟨v, ws, h1, h2, h3⟩, e => by
    simp at e
    subst e
    rw [h1]
    exact ⟨v, rfl, h2⟩
  | .o i :: r, _, 0, _, ⟨v, ws, h1, h2, h3⟩, e => by simp at e
  | .d x :: r, _, j + 1, _, ⟨v, ws, h1, h2, h3⟩, e => by
    obtain ⟨w, e1, e2⟩ := ArgsOk.getD (j := j) h3 (by simpa using e)
    rw [h1]
    exact ⟨w, by simpa using e1, e2⟩
  | .o i :: r, _, j + 1, _, ⟨v, ws, h1, h2, h3⟩, e => by
    obtain ⟨w, e1, e2⟩ := ArgsOk.getD (j := j) h3 (by simpa using e)
    rw [h1]
    exact ⟨w, by simpa using e1, e2⟩
theorem ArgsOk.getO {K : PySem.W.Frag} : ∀ {as : List Arg} {vs : List V} {j i : Nat}, ArgsOk K F σ as vs → as[j]? = some (.o i) → ∃ v, vs[j]? = some v ∧ σ[i]? = some (some v)
  | [], _, _, _, _, e => by simp at e
  | .o i :: r, _, 0, _, ⟨v, ws, h1, h2, h3⟩, e => by
    simp at e
    subst e
    rw [h1]
    exact ⟨v, rfl, h2⟩
  | .d i :: r, _, 0, _, ⟨v, ws, h1, h2, h3⟩, e => by simp at e
  | .d x :: r, _, j + 1, _, ⟨v, ws, h1, h2, h3⟩, e => by
    obtain ⟨w, e1, e2⟩ := ArgsOk.getO (j := j) h3 (by simpa using e)
    rw [h1]
    exact ⟨w, by simpa using e1, e2⟩
  | .o i :: r, _, j + 1, _, ⟨v, ws, h1, h2, h3⟩, e => by
    obtain ⟨w, e1, e2⟩ := ArgsOk.getO (j := j) h3 (by simpa using e)
    rw [h1]
    exact ⟨w, by simpa using e1, e2⟩
def Aox (c : Cn) (E : WX) (t : TA) (f : M (List Arg)) : Prop := ∀ W F H σ ρ Q, Rel c W F H σ ρ → Post c W F σ E (fun F' as vs => ArgsOk c.K F' σ as vs) (f ρ) Q → t σ H Q
def aoNil : M (List Arg) := M.pure []
def aoCons (a : M D) (r : M (List Arg)) : M (List Arg) := a.bind fun x => r.bind fun xs => M.pure (.d x :: xs)
def isOwn (ρ : Env) (i : Nat) : Bool := match ρ[i]? with
  | some s => s.own
  | none => false
def aoOwn (i : Nat) (r : M (List Arg)) : M (List Arg) := fun ρ => if isOwn ρ i = true then (r.bind fun xs => M.pure (.o i :: xs)) ρ else .bad
section
variable {ta : TE} {fa : M D} {tA : TA} {fA : M (List Arg)}
theorem ao_nil : Aox c E tNil aoNil := fun W F H σ ρ Q R h => h F H [] R (Same.refl _) rfl
theorem ao_cons (ha : Ex c E ta fa) (hr : Aox c E tA fA) : Aox c E (tCons ta tA) (aoCons fa fA) := by
  intro W F H σ ρ Q R h
  refine ha W F H σ ρ _ R ((h.bind (Rep c.K)).mono fun x H1 ⟨d, ρ1, F1, R1, s1, r1, h1⟩ => ?_)
  refine hr W F1 H1 σ ρ1 _ R1 ((h1.bind (fun F' as vs => ArgsOk c.K F' σ as vs)).mono fun xs H2 ⟨ds, ρ2, F2, R2, s2, r2, h2⟩ => ?_)
  exact h2 F2 H2 _ R2 (Same.refl _) ⟨x, xs, rfl, r1.mono s2, r2⟩
theorem ao_own {i : Nat} (hr : Aox c E tA fA) : Aox c E (tCons (tVar i) tA) (aoOwn i fA) := by
  intro W F H σ ρ Q R h
  unfold aoOwn at h
  split at h
  · rename_i ho
    obtain ⟨s, e, so⟩ : ∃ s, ρ[i]? = some s ∧ s.own = true := by
      unfold isOwn at ho
      cases e : ρ[i]? with
      | none => rw [e] at ho; cases ho
      | some s => rw [e] at ho; exact ⟨s, rfl, ho⟩
    obtain ⟨p, e1, _⟩ := (R.here i s e).own so
    refine ⟨.ref p, e1, hr W F H σ ρ _ R ((h.bind (fun F' as vs => ArgsOk c.K F' σ as vs)).mono fun xs H2 ⟨ds, ρ2, F2, R2, s2, r2, h2⟩ => ?_)⟩
    exact h2 F2 H2 _ R2 (Same.refl _) ⟨.ref p, xs, rfl, e1, r2⟩
  · exact h.elim
end
/-- a def as callers see it: from the arguments to its answer and what has become of the lists that it got -/
inductive An where
  | v (d : D) | n (ds : List D)
abbrev FnM := List Slot → Rs An
def slotsOf (ρ : Env) : List Arg → Option (List Slot)
  | [] => some []
  | .d x :: r => (slotsOf ρ r).map (Slot.d x :: ·)
  | .o i :: r => match ρ[i]? with
    | some s => if s.own = true then (slotsOf ρ r).map (s :: ·) else none
    | none => none
def ownIx : List Arg → List Nat
  | [] => []
  | .d _ :: r => ownIx r
  | .o i :: r => i :: ownIx r
def free2 : List Nat → Bool
  | [] => true
  | x :: r => !r.contains x && free2 r
def putBack (ρ : Env) : List Arg → List Slot → Env
  | .o i :: r, s :: ss => (putBack ρ r ss).set i s
  | .d _ :: r, _ :: ss => putBack ρ r ss
  | _, _ => ρ
def callM (m : FnM) (args : M (List Arg)) : M D := args.bind fun as ρ => match slotsOf ρ as with
  | none => .bad
  | some ps => if free2 (ownIx as) = true then match m ps with
    | .ok (.v d) outs => .ok d (putBack ρ as outs)
    | .ok (.n ds) outs => .ok (.lst ds) (putBack ρ as outs)
    | .ex e outs => .ex e (putBack ρ as outs)
    | .bad => .bad
    else .bad
/-- the call of a def that hands back a new list -/
def callN (m : FnM) (args : M (List Arg)) : M (List D) := args.bind fun as ρ => match slotsOf ρ as with
  | none => .bad
  | some ps => if free2 (ownIx as) = true then match m ps with
    | .ok (.n ds) outs => .ok ds (putBack ρ as outs)
    | .ok (.v _) _ => .bad
    | .ex e outs => .ex e (putBack ρ as outs)
    | .bad => .bad
    else .bad
structure ParOk (c : Cn) (F H : Hp) (ps : List Slot) (vs : List V) : Prop where
  len : ps.length = vs.length
  dat : ∀ (j : Nat) (d : D), ps[j]? = some (.d d) → ∃ v, vs[j]? = some v ∧ Rep c.K F d v
  own : ∀ (j : Nat) (s : Slot), ps[j]? = some s → s.own = true → ∃ p, vs[j]? = some (.ref p) ∧ Own c F H p s
  dis : ∀ (j k : Nat) (s t : Slot) (p : Addr), ps[j]? = some s → ps[k]? = some t → s.own = true → t.own = true → vs[j]? = some (.ref p) → vs[k]? = some (.ref p) → j = k
structure After (c : Cn) (F H : Hp) (ps : List Slot) (vs : List V) (outs : List Slot) (F' H' : Hp) : Prop where
  fs : Same F F'
  sub : Same F' H'
  nt : ∀ a ps, F' a ≠ some (.tbl ps)
  tab : LamX.Tabs c.T H'
  nw : ∀ a, F a = none → bl H a ≠ none → F' a = none
  hs : ∀ a o, H a = some o → (∀ ps, o ≠ .tbl ps) → (∀ (j : Nat) (s : Slot), ps[j]? = some s → s.own = true → vs[j]? ≠ some (.ref a)) → H' a = some o
  ht : ∀ a, bl H' a = none → bl H a = none
  ow : ∀ (j : Nat) (s : Slot) (p : Addr), ps[j]? = some s → s.own = true → vs[j]? = some (.ref p) → ∃ s', outs[j]? = some s' ∧ Own c F' H' p s'
def Out (c : Cn) (F H : Hp) (ps : List Slot) (vs : List V) (Q : VK) (E : XK) : Rs An → Prop
  | .ok (.v d) outs => ∀ F' H' v, After c F H ps vs outs F' H' → Rep c.K F' d v → Q v H'
  | .ok (.n ds) outs => ∀ F' H' p, After c F H ps vs outs F' H' → OwnL c F' H' p ds → bl H p = none → Q (.ref p) H'
  | .ex e outs => ∀ F' H' cls od, After c F H ps vs outs F' H' → XRep c F' H' e cls od → E cls od H'
  | .bad => False
def spM (c : Cn) (m : FnM) : Sp := fun vs H Q E => ∃ F ps, Fz F H ∧ LamX.Tabs c.T H ∧ ParOk c F H ps vs ∧ Out c F H ps vs Q E (m ps)
theorem slotsOf_at {ρ : Env} : ∀ {as : List Arg} {ps : List Slot}, slotsOf ρ as = some ps → ps.length = as.length ∧ ∀ (j : Nat) (s : Slot), ps[j]? = some s → (∃ x, as[j]? = some (.d x) ∧ s = .d x) ∨ ∃ i, as[j]? = some (.o i) ∧ ρ[i]? = some s ∧ s.own = true
  | [], ps, e => by
    cases e
    exact ⟨rfl, fun j s h => by simp at h⟩
  | .d x :: r, ps, e => by
    have e : (slotsOf ρ r).map (Slot.d x :: ·) = some ps := e
    cases er : slotsOf ρ r with
    | none => rw [er] at e; cases e
    | some qs =>
      rw [er] at e
      cases e
      obtain ⟨h1, h2⟩ := slotsOf_at er
      refine ⟨by rw [List.length_cons, List.length_cons, h1], fun j s h => ?_⟩
      cases j with
      | zero =>
        simp at h
        exact .inl ⟨x, rfl, h.symm⟩
      | succ j =>
        rcases h2 j s (by simpa using h) with ⟨y, a, b⟩ | ⟨i, a, b⟩
        · exact .inl ⟨y, by simpa using a, b⟩
        · exact .inr ⟨i, by simpa using a, b⟩
  | .o i :: r, ps, e => by
    have e : (match ρ[i]? with | some s => if s.own = true then (slotsOf ρ r).map (s :: ·) else none | none => none) = some ps := e
    cases es : ρ[i]? with
    | none => rw [es] at e; cases e
    | some t =>
      rw [es] at e
      have e : (if t.own = true then (slotsOf ρ r).map (t :: ·) else none) = some ps := e
      split at e
      · rename_i to
        cases er : slotsOf ρ r with
        | none => rw [er] at e; cases e
        | some qs =>
          rw [er] at e
          cases e
          obtain ⟨h1, h2⟩ := slotsOf_at er
          refine ⟨by rw [List.length_cons, List.length_cons, h1], fun j s h => ?_⟩
          cases j with
          | zero =>
            simp at h
            subst h
            exact .inr ⟨i, rfl, es, to⟩
          | succ j =>
            rcases h2 j s (by simpa using h) with ⟨y, a, b⟩ | ⟨i, a, b⟩
            · exact .inl ⟨y, by simpa using a, b⟩
            · exact .inr ⟨i, by simpa using a, b⟩
      · cases e
theorem ownIx_mem {i : Nat} : ∀ {as : List Arg}, i ∈ ownIx as → ∃ j : Nat, as[j]? = some (.o i)
  | [], h => by cases h
  | .d x :: r, h => by
    obtain ⟨j, e⟩ := ownIx_mem (as := r) h
    exact ⟨j + 1, by simpa using e⟩
  | .o k :: r, h => by
    rcases List.mem_cons.mp h with h | h
    · exact ⟨0, by rw [h]; rfl⟩
    · obtain ⟨j, e⟩ := ownIx_mem (as := r) h
      exact ⟨j + 1, by simpa using e⟩
theorem mem_ownIx {i : Nat} : ∀ {as : List Arg} {j : Nat}, as[j]? = some (.o i) → i ∈ ownIx as
  | [], j, e => by simp at e
  | .d x :: r, 0, e => by simp at e
  | .d x :: r, j + 1, e => mem_ownIx (as := r) (j := j) (by simpa using e)
  | .o k :: r, 0, e => by
    simp at e
    subst e
    exact List.mem_cons_self ..
  | .o k :: r, j + 1, e => List.mem_cons_of_mem _ (mem_ownIx (as := r) (j := j) (by simpa using e))
theorem free2_at {i : Nat} : ∀ {as : List Arg} {j k : Nat}, free2 (ownIx as) = true → as[j]? = some (.o i) → as[k]? = some (.o i) → j = k
  | [], _, _, _, e, _ => by simp at e
  | .d x :: r, 0, _, _, e, _ => by simp at e
  | .d x :: r, _ + 1, 0, _, _, e => by simp at e
  | .d x :: r, j + 1, k + 1, h, e1, e2 => congrArg Nat.succ (free2_at (as := r) h (by simpa using e1) (by simpa using e2))
  | .o q :: r, 0, 0, _, _, _ => rfl
  | .o q :: r, 0, k + 1, h, e1, e2 => by
    simp at e1
    subst e1
    have h : (!(ownIx r).contains q && free2 (ownIx r)) = true := h
    have : q ∈ ownIx r := mem_ownIx (j := k) (by simpa using e2)
    simp [this] at h
  | .o q :: r, j + 1, 0, h, e1, e2 => by
    simp at e2
    subst e2
    have h : (!(ownIx r).contains q && free2 (ownIx r)) = true := h
    have : q ∈ ownIx r := mem_ownIx (j := j) (by simpa using e1)
    simp [this] at h
  | .o q :: r, j + 1, k + 1, h, e1, e2 => by
    have h : (!(ownIx r).contains q && free2 (ownIx r)) = true := h
    have h2 : free2 (ownIx r) = true := by
      rw [Bool.and_eq_true] at h
      exact h.2
    exact congrArg Nat.succ (free2_at (as := r) h2 (by simpa using e1) (by simpa using e2))
theorem putBack_length (ρ : Env) : ∀ (as : List Arg) (ss : List Slot), (putBack ρ as ss).length = ρ.length
  | [], ss => by cases ss <;> rfl
  | .d _ :: r, [] => rfl
  | .o _ :: r, [] => rfl
  | .d _ :: r, s :: ss => putBack_length ρ r ss
  | .o i :: r, s :: ss => by
    show ((putBack ρ r ss).set i s).length = _
    rw [List.length_set, putBack_length ρ r ss]
theorem putBack_get {ρ : Env} {k : Nat} {t : Slot} : ∀ {as : List Arg} {ss : List Slot}, (putBack ρ as ss)[k]? = some t → (∃ j : Nat, as[j]? = some (.o k) ∧ ss[j]? = some t) ∨ (ρ[k]? = some t ∧ ∀ j : Nat, as[j]? = some (.o k) → ss[j]? = none)
  | [], ss, e => .inr ⟨by cases ss <;> exact e, fun j h => by simp at h⟩
  | .d _ :: r, [], e => .inr ⟨e, fun j _ => by simp⟩
  | .o _ :: r, [], e => .inr ⟨e, fun j _ => by simp⟩
  | .d _ :: r, s :: ss, e => by
    rcases putBack_get (as := r) (ss := ss) e with ⟨j, a, b⟩ | ⟨a, b⟩
    · exact .inl ⟨j + 1, by simpa using a, by simpa using b⟩
    · refine .inr ⟨a, fun j h => ?_⟩
      cases j with
      | zero => simp at h
      | succ j => simpa using b j (by simpa using h)
  | .o i :: r, s :: ss, e => by
    have e : ((putBack ρ r ss).set i s)[k]? = some t := e
    rcases set_at e with ⟨n, _, z⟩ | ⟨n, e⟩
    · subst n z
      exact .inl ⟨0, rfl, rfl⟩
    · rcases putBack_get (as := r) (ss := ss) e with ⟨j, a, b⟩ | ⟨a, b⟩
      · exact .inl ⟨j + 1, by simpa using a, by simpa using b⟩
      · refine .inr ⟨a, fun j h => ?_⟩
        cases j with
        | zero =>
          simp at h
          exact absurd h n
        | succ j => simpa using b j (by simpa using h)
theorem par_of {as : List Arg} {vs : List V} {ps : List Slot} (R : Rel c W F H σ ρ) (ha : ArgsOk c.K F σ as vs) (hs : slotsOf ρ as = some ps) (hf : free2 (ownIx as) = true) : ParOk c F H ps vs := by
  obtain ⟨h1, h2⟩ := slotsOf_at hs
  have own : ∀ (j : Nat) (s : Slot), ps[j]? = some s → s.own = true → ∃ i p, as[j]? = some (.o i) ∧ ρ[i]? = some s ∧ σ[i]? = some (some (.ref p)) ∧ vs[j]? = some (.ref p) ∧ Own c F H p s := fun j s e o => by
    rcases h2 j s e with ⟨x, a, b⟩ | ⟨i, a, b, _⟩
    · rw [b] at o; cases o
    · obtain ⟨p, e1, e2, _⟩ := (R.here i s b).own o
      obtain ⟨v, e3, e4⟩ := ha.getO a
      rw [e1] at e4
      cases e4
      exact ⟨i, p, a, b, e1, e3, e2⟩
  refine ⟨h1.trans ha.len, fun j d e => ?_, fun j s e o => ?_, fun j k s t p e1 e2 o1 o2 a1 a2 => ?_⟩
  · rcases h2 j _ e with ⟨x, a, b⟩ | ⟨i, a, b, z⟩
    · cases b
      exact ha.getD a
    · cases z
  · obtain ⟨i, p, _, _, _, h, h'⟩ := own j s e o
    exact ⟨p, h, h'⟩
  · obtain ⟨i1, p1, b1, r1, s1, v1, _⟩ := own j s e1 o1
    obtain ⟨i2, p2, b2, r2, s2, v2, _⟩ := own k t e2 o2
    rw [a1] at v1
    rw [a2] at v2
    cases v1
    cases v2
    have : i1 = i2 := R.dis i1 i2 s t p r1 r2 o1 o2 s1 s2
    subst this
    exact free2_at hf b1 b2
theorem Rel.after {as : List Arg} {vs : List V} {ps outs : List Slot} (R : Rel c W F H σ ρ) (ha : ArgsOk c.K F σ as vs) (hs : slotsOf ρ as = some ps) (hf : free2 (ownIx as) = true) (A : After c F H ps vs outs F' H') : Rel c W F' H' σ (putBack ρ as outs) := by
  obtain ⟨h1, h2⟩ := slotsOf_at hs
  -- the arguments that are handed over, from their names
  have arg : ∀ (j k : Nat), as[j]? = some (.o k) → ∃ s p, ps[j]? = some s ∧ ρ[k]? = some s ∧ s.own = true ∧ σ[k]? = some (some (.ref p)) ∧ vs[j]? = some (.ref p) ∧ W.B p := fun j k e => by
    have hj : j < ps.length := by
      rw [h1]
      exact (List.getElem?_eq_some_iff.mp e).1
    obtain ⟨s, es⟩ : ∃ s, ps[j]? = some s := ⟨_, List.getElem?_eq_getElem hj⟩
    rcases h2 j s es with ⟨x, a, b⟩ | ⟨i, a, b, o⟩
    · rw [e] at a; cases a
    · rw [e] at a
      cases a
      obtain ⟨p, e1, e2, e3⟩ := (R.here k s b).own o
      obtain ⟨v, e4, e5⟩ := ha.getO e
      rw [e1] at e5
      cases e5
      exact ⟨s, p, es, b, o, e1, e4, e3⟩
  -- a name's slot behind the call
  have slot : ∀ (k : Nat) (t : Slot), (putBack ρ as outs)[k]? = some t → (∃ (j : Nat) (s : Slot) (p : Addr), as[j]? = some (.o k) ∧ ρ[k]? = some s ∧ s.own = true ∧ σ[k]? = some (some (.ref p)) ∧ Own c F' H' p t ∧ W.B p) ∨ (ρ[k]? = some t ∧ ∀ j : Nat, as[j]? ≠ some (.o k)) := fun k t e => by
    rcases putBack_get e with ⟨j, a, b⟩ | ⟨a, b⟩
    · obtain ⟨s, p, e1, e2, e3, e4, e5, e6⟩ := arg j k a
      obtain ⟨s', f1, f2⟩ := A.ow j s p e1 e3 e5
      rw [b] at f1
      cases f1
      exact .inl ⟨j, s, p, a, e2, e3, e4, f2, e6⟩
    · refine .inr ⟨a, fun j h => ?_⟩
      obtain ⟨s, p, e1, e2, e3, e4, e5, e6⟩ := arg j k h
      obtain ⟨s', f1, f2⟩ := A.ow j s p e1 e3 e5
      rw [b j h] at f1
      cases f1
  have was : ∀ (k : Nat) (t : Slot), (putBack ρ as outs)[k]? = some t → t.own = true → ∃ s, ρ[k]? = some s ∧ s.own = true := fun k t e o => by
    rcases slot k t e with ⟨j, s, p, _, a, b, _⟩ | ⟨a, _⟩
    · exact ⟨s, a, b⟩
    · exact ⟨t, a, o⟩
  have keep : ∀ (a : Addr), (∀ (k : Nat) (s : Slot) (j : Nat), as[j]? = some (.o k) → ρ[k]? = some s → s.own = true → σ[k]? ≠ some (some (.ref a))) → ∀ o, H a = some o → (∀ ps, o ≠ .tbl ps) → H' a = some o := fun a no o e n => by
    refine A.hs a o e n fun j s e1 o1 z => ?_
    rcases h2 j s e1 with ⟨x, _, b⟩ | ⟨i, a1, b, _⟩
    · rw [b] at o1; cases o1
    · obtain ⟨v, e4, e5⟩ := ha.getO a1
      rw [z] at e4
      cases e4
      exact no i s j a1 b o1 e5
  refine ⟨A.sub, A.nt, A.tab, by rw [putBack_length]; exact R.len, fun k t e => ?_, fun j k s t p e1 e2 o1 o2 a1 a2 => ?_, R.wb, fun j p m => ⟨(R.pa j p m).1, fun s e o => ?_⟩, fun j s p hj e o a => ?_, fun a e => R.st a (A.ht a e), fun a o g1 g2 g3 => ?_, fun a o e => A.fs a o (R.f0 a o e), fun a g1 g2 => A.nw a (R.nf a g1 g2) fun z => g2 (R.st a z)⟩
  · rcases slot k t e with ⟨j, s, p, _, _, _, a, b, d⟩ | ⟨a, no⟩
    · exact .of_own a b d
    · refine (R.here k t a).mono A.fs fun p hp ho => ?_
      refine ho.mono A.fs (A.nw p ho.at.1 ho.bl) fun o e n => keep p (fun i s j a1 b1 o1 z => ?_) o e n
      have : i = k := R.dis i k s t p b1 a o1 ho.at.2.2 z hp
      subst this
      exact no j a1
  · obtain ⟨s', f1, g1⟩ := was j s e1 o1
    obtain ⟨t', f2, g2⟩ := was k t e2 o2
    exact R.dis j k s' t' p f1 f2 g1 g2 a1 a2
  · obtain ⟨s', f1, g1⟩ := was j s e o
    exact (R.pa j p m).2 s' f1 g1
  · obtain ⟨s', f1, g1⟩ := was j s e o
    exact R.lo j s' p hj f1 g1 a
  · refine keep a (fun k s j a1 b1 o1 z => ?_) o (R.kp a o g1 g2 g3) g3
    obtain ⟨s', p, _, f1, f2, f3, _, f4⟩ := arg j k a1
    rw [z] at f3
    cases f3
    exact g1 f4
theorem Rel.nobody' {p : Addr} (R : Rel c W F H σ ρ) (hp : bl H p = none) : ∀ (j : Nat) (t : Slot), ρ[j]? = some t → t.own = true → σ[j]? ≠ some (some (.ref p)) := fun j t e ot z => by
  obtain ⟨q, e1, e2, _⟩ := (R.here j t e).own ot
  rw [z] at e1
  cases e1
  exact e2.bl hp
theorem fresh_after {as : List Arg} {vs : List V} {ps outs : List Slot} {p : Addr} {ds : List D} (R : Rel c W F H σ ρ) (ha : ArgsOk c.K F σ as vs) (hs : slotsOf ρ as = some ps) (hf : free2 (ownIx as) = true) (A : After c F H ps vs outs F' H') (ol : OwnL c F' H' p ds) (hp : bl H p = none) :
    Fresh c W F' H' σ (putBack ρ as outs) p ds := by
  refine ⟨ol, R.st p hp, fun k t e o z => ?_⟩
  obtain ⟨h1, h2⟩ := slotsOf_at hs
  rcases putBack_get e with ⟨j, a, b⟩ | ⟨a, b⟩
  · have hj : j < ps.length := by
      rw [h1]
      exact (List.getElem?_eq_some_iff.mp a).1
    obtain ⟨s, es⟩ : ∃ s, ps[j]? = some s := ⟨_, List.getElem?_eq_getElem hj⟩
    rcases h2 j s es with ⟨x, a1, b1⟩ | ⟨i, a1, b1, o1⟩
    · rw [a] at a1; cases a1
    · rw [a] at a1
      cases a1
      exact R.nobody' hp k s b1 o1 z
  · exact R.nobody' hp k t a o z
theorem ex_call {ta : TA} {m : FnM} {fa : M (List Arg)} (ha : Aox c E ta fa) : Ex c E (tCallS (spM c m) (WE E) ta) (callM m fa) := by
  intro W F H σ ρ Q R h
  refine ha W F H σ ρ _ R ((h.bind (fun F' as vs => ArgsOk c.K F' σ as vs)).mono fun vs H1 ⟨as, ρ1, F1, R1, s1, ao, q⟩ => ?_)
  revert q
  cases hs : slotsOf ρ1 as with
  | none => exact fun q => q.elim
  | some ps =>
    intro q
    have q : Post c W F1 σ E (Rep c.K) (if free2 (ownIx as) = true then match m ps with | .ok (.v d) outs => .ok d (putBack ρ1 as outs) | .ok (.n ds) outs => .ok (.lst ds) (putBack ρ1 as outs) | .ex e outs => .ex e (putBack ρ1 as outs) | .bad => .bad else .bad) Q := q
    split at q
    · rename_i hf
      refine ⟨F1, ps, R1.fz, R1.tab, par_of R1 ao hs hf, ?_⟩
      revert q
      cases m ps with
      | ok d outs =>
        cases d with
        | v d => exact fun q F' H' v A r => q F' H' v (R1.after ao hs hf A) A.fs r
        | n ds =>
          intro q F' H' p A ol hp
          have R2 := R1.after ao hs hf A
          obtain ⟨F2, s2, R3, r3⟩ := (fresh_after R1 ao hs hf A ol hp).chill R2
          exact q F2 H' _ R3 (A.fs.trans s2) r3
      | ex e outs => exact fun q F' H' cls od A x => q F' H' cls od (R1.after ao hs hf A) A.fs x
      | bad => exact fun q => q
    · exact q.elim
theorem ef_call {ta : TA} {m : FnM} {fa : M (List Arg)} (ha : Aox c E ta fa) : Ef c E (tCallS (spM c m) (WE E) ta) (callN m fa) := by
  intro W F H σ ρ Q R h
  refine ha W F H σ ρ _ R ((h.bind (fun F' as vs => ArgsOk c.K F' σ as vs)).mono fun vs H1 ⟨as, ρ1, F1, R1, s1, ao, q⟩ => ?_)
  revert q
  cases hs : slotsOf ρ1 as with
  | none => exact fun q => q.elim
  | some ps =>
    intro q
    have q : PostF c W F1 σ E (if free2 (ownIx as) = true then match m ps with | .ok (.n ds) outs => .ok ds (putBack ρ1 as outs) | .ok (.v _) _ => .bad | .ex e outs => .ex e (putBack ρ1 as outs) | .bad => .bad else .bad) Q := q
    split at q
    · rename_i hf
      refine ⟨F1, ps, R1.fz, R1.tab, par_of R1 ao hs hf, ?_⟩
      revert q
      cases m ps with
      | ok d outs =>
        cases d with
        | v d => exact fun q => q.elim
        | n ds => exact fun q F' H' p A ol hp => q F' H' p (R1.after ao hs hf A) A.fs (fresh_after R1 ao hs hf A ol hp)
      | ex e outs => exact fun q F' H' cls od A x => q F' H' cls od (R1.after ao hs hf A) A.fs x
      | bad => exact fun q => q
    · exact q.elim
/-! ### a def's body -/
def keepOk : List Slot → Env → Bool
  | [], _ => true
  | s :: ss, [] => false
  | s :: ss, r :: rs => (!s.own || r.own) && keepOk ss rs
def runBody (n k : Nat) (g : S) : FnM := fun ps => if ps.length = n then match g (ps ++ List.replicate k .u) with
    | .ok .nx ρ => if keepOk ps ρ = true then .ok (.v .non) (ρ.take n) else .bad
    | .ok (.rt d) ρ => if keepOk ps ρ = true then .ok (.v d) (ρ.take n) else .bad
    | .ok (.rn ds) ρ => if keepOk ps ρ = true then .ok (.n ds) (ρ.take n) else .bad
    | .ex e ρ => if keepOk ps ρ = true then .ex e (ρ.take n) else .bad
    | _ => .bad
  else .bad
theorem keepOk_at : ∀ {ps : List Slot} {ρ : Env} {j : Nat} {s : Slot}, keepOk ps ρ = true → ps[j]? = some s → s.own = true → ∃ r, ρ[j]? = some r ∧ r.own = true
  | [], _, _, _, _, e, _ => by simp at e
  | s :: ss, [], _, _, h, _, _ => by cases h
  | s :: ss, r :: rs, 0, t, h, e, o => by
    simp at e
    subst e
    have h : ((!s.own || r.own) && keepOk ss rs) = true := h
    rw [o] at h
    simp at h
    exact ⟨r, rfl, h.1⟩
  | s :: ss, r :: rs, j + 1, t, h, e, o => by
    have h : ((!s.own || r.own) && keepOk ss rs) = true := h
    rw [Bool.and_eq_true] at h
    obtain ⟨u, a, b⟩ := keepOk_at (j := j) h.2 (by simpa using e) o
    exact ⟨u, by simpa using a, b⟩
def fm0 (F H : Hp) (ps : List Slot) (vs : List V) : Fm where
  np := ps.length
  P := fun j p => ∃ s, ps[j]? = some s ∧ s.own = true ∧ vs[j]? = some (.ref p)
  B := fun a => bl H a = none ∨ ∃ (j : Nat) (s : Slot), ps[j]? = some s ∧ s.own = true ∧ vs[j]? = some (.ref a)
  F0 := F
  H0 := bl H
theorem rel0 {ps : List Slot} {vs : List V} {N : List Str} {k : Nat} (hk : N.length = ps.length + k) (fz : Fz F H) (tab : LamX.Tabs c.T H) (P : ParOk c F H ps vs) : Rel c (fm0 F H ps vs) F H (L2.start N vs) (ps ++ List.replicate k .u) := by
  have hl : vs.length = ps.length := P.len.symm
  have st : ∀ (j : Nat) (v : V), vs[j]? = some v → (L2.start N vs)[j]? = some (some v) := fun j v e => by
    have hj := (List.getElem?_eq_some_iff.mp e).1
    unfold L2.start
    rw [List.getElem?_append_left (by simpa using hj), List.getElem?_map, e]
    rfl
  have ap : ∀ (j : Nat) (s : Slot), (ps ++ List.replicate k Slot.u)[j]? = some s → ps[j]? = some s ∨ (s = .u ∧ ps.length ≤ j) := fun j s e => by
    by_cases hj : j < ps.length
    · rw [List.getElem?_append_left hj] at e
      exact .inl e
    · rw [List.getElem?_append_right (by omega), List.getElem?_replicate] at e
      split at e
      · cases e
        exact .inr ⟨rfl, by omega⟩
      · cases e
  have back : ∀ (j : Nat) (s : Slot) (p : Addr), ps[j]? = some s → (L2.start N vs)[j]? = some (some (.ref p)) → vs[j]? = some (.ref p) := fun j s p e a => by
    have hj : j < vs.length := by rw [hl]; exact (List.getElem?_eq_some_iff.mp e).1
    have e2 : vs[j]? = some (vs[j]) := List.getElem?_eq_getElem hj
    rw [st j _ e2] at a
    rw [e2, Option.some.inj (Option.some.inj a)]
  refine ⟨fz.1, fz.2, tab, ?_, fun j s e => ?_, fun j k s t p e1 e2 o1 o2 a1 a2 => ?_, fun a e => .inl e, fun j p ⟨s, e1, e2, e3⟩ => ⟨(List.getElem?_eq_some_iff.mp e1).1, fun t e o => st j _ e3⟩, fun j s p hj e o a => ?_, fun a e => e, fun a o h1 h2 h3 => (bl_at h2).1, Same.refl _, fun a h1 h2 => h1⟩
  · unfold L2.start
    rw [List.length_append, List.length_map, List.length_replicate, List.length_append, List.length_replicate]
    omega
  · rcases ap j s e with e | ⟨e, _⟩
    · cases s with
      | u => exact trivial
      | d d =>
        obtain ⟨v, e1, r⟩ := P.dat j d e
        exact ⟨v, st j v e1, r⟩
      | o _ => obtain ⟨p, e1, r⟩ := P.own j _ e rfl; exact ⟨p, st j _ e1, r, .inr ⟨j, _, e, rfl, e1⟩⟩
      | q _ => obtain ⟨p, e1, r⟩ := P.own j _ e rfl; exact ⟨p, st j _ e1, r, .inr ⟨j, _, e, rfl, e1⟩⟩
      | qt _ => obtain ⟨p, e1, r⟩ := P.own j _ e rfl; exact ⟨p, st j _ e1, r, .inr ⟨j, _, e, rfl, e1⟩⟩
    · rw [e]
      exact trivial
  · rcases ap j s e1 with e1 | ⟨z, _⟩
    · rcases ap k t e2 with e2 | ⟨z, _⟩
      · exact P.dis j k s t p e1 e2 o1 o2 (back j s p e1 a1) (back k t p e2 a2)
      · rw [z] at o2; cases o2
    · rw [z] at o1; cases o1
  · rcases ap j s e with e | ⟨z, _⟩
    · have := (List.getElem?_eq_some_iff.mp e).1
      have hj : ps.length ≤ j := hj
      omega
    · rw [z] at o; cases o
theorem after0 {ps : List Slot} {vs : List V} (R : Rel c (fm0 F H ps vs) F' H' σ ρ) (hk : keepOk ps ρ = true) : After c F H ps vs (ρ.take ps.length) F' H' where
  fs := R.f0
  sub := R.sub
  nt := R.nt
  tab := R.tab
  nw := R.nf
  hs := fun a o e n no => R.kp a o (fun b => by
    rcases b with b | ⟨j, s, e1, e2, e3⟩
    · rw [bl_of e n] at b; cases b
    · exact no j s e1 e2 e3) (bl_of e n) n
  ht := R.st
  ow := fun j s p e o a => by
    obtain ⟨r, e1, o1⟩ := keepOk_at hk e o
    have h := (R.pa j p ⟨s, e, o, a⟩).2 r e1 o1
    obtain ⟨q, e2, e3, _⟩ := (R.here j r e1).own o1
    rw [h] at e2
    cases e2
    exact ⟨r, by rw [List.getElem?_take_of_lt (List.getElem?_eq_some_iff.mp e).1]; exact e1, e3⟩
/-! ### a def that knows besides (b) that no repr is running -/
abbrev Gd (b : Bool) (A : Around) : Prop := b = true → A.guards = some []
variable {b : Bool}
structure FnG (b : Bool) (P : Program) (w : World) (K : PySem.W.Frag) (mg : Str → Option Value) (base : Heap) (k : Nat) (f : Addr) (fd : FuncData) (ps : List Str) (sp : Sp) : Prop where
  many : ∀ vs H Q E, sp vs H Q E → vs.length = ps.length
  goes : ∀ (A : Around) (outer : List PySem.Env) (s : Shared) (H : Hp) (args : Args) (us : List Value) (vs : List V) (Q : VK) (E : XK), Room k A → Gd b A → Env0 P w K mg base A outer s H → BindsTo s fd args (ps.zip us) → Vals vs us → sp vs H Q E →
    codeAny (model P w) A (.call (.ref f) args) (CR (L2.CX P w) outer P w H s Q E) s
theorem FnG.up {P : Program} {w : World} {K : PySem.W.Frag} {mg : Str → Option Value} {base : Heap} {j k : Nat} {f : Addr} {fd : FuncData} {ps : List Str} {sp : Sp} (F : FnG b P w K mg base j f fd ps sp) (h : j ≤ k) : FnG b P w K mg base k f fd ps sp :=
  ⟨F.many, fun A outer s H args us vs Q E hr => F.goes A outer s H args us vs Q E (hr.mono h)⟩
section
variable {X : Cx} {k : Nat} {f : Addr} {fd : FuncData} {ps : List Str} {sp : Sp} {W : WX} {x : Str} {p pos : Pos} {e : Expr} {es : List Expr} {t : TA}
theorem run_G {pins : List (Addr × Obj)} {σ : L2.St} {H : Hp} {s : Shared} {Q : VK} {us : List Value} {vs : List V} (G : FnG b X.prog X.w X.K X.mg X.base k f fd ps sp) (hr : Room k X.A) (hg : Gd b X.A) (bi : Binds X.K fd ps []) (tk : Takes X W)
    (J : Inv X pins σ H s) (r : Vals vs us) (h : sp vs H Q (WE W σ)) : wpAny (model X.prog X.w) X.A (call (.ref f) us) (EP X pins σ Q) X.xe s := by
  have hn : (us ++ []).length = ps.length := by rw [List.append_nil, ← r.length]; exact G.many _ _ _ _ h
  have bound := bi s us J.kIn hn
  rw [List.append_nil] at bound
  refine wpAny_call (codeAny_mono (G.goes X.A X.stack s H ⟨us, []⟩ us vs Q (WE W σ) hr hg J.env0 bound r h) ?_)
  rintro (x | x) s' hx
  · exact passAt tk σ pins H s x s' J hx
  · cases x with
    | ret u => exact J.after hx
    | next => exact hx.elim
    | brk => exact hx.elim
    | cont => exact hx.elim
theorem pe_callG (G : FnG b X.prog X.w X.K X.mg X.base k f fd ps sp) (hr : Room k X.A) (hgu : Gd b X.A) (hg : Gl X x) (hm : X.mg x = some (.ref f)) (hk : PySem.W.keepIn X.K (.ref f) = true) (bi : Binds X.K fd ps []) (tk : Takes X W) (ha : PA X (e :: es) t)
    (h1 : (x == ("__debug__" : Str)) = false := by decide) (h2 : starEach (e :: es) X.env = (false, eval e X.env) :: starEach es X.env := by rfl) (h3 : (backTo pos (starEach es X.env)).any (·.1) = false := by rfl) : PE X (.Call (.Name x p) (e :: es) [] pos) (tCallS sp (WE W) t) :=
  ⟨fun pins s σ H Q J h => wpAny_Call_Name_kw (ld_glob J hg hm (PySem.W.callWith_K (h₀ := X.base) J.ok.mod.kin hk (thn (ha.run pos pins s σ H _ J h) fun us s1 ⟨vs, H1, J1, r, q⟩ => ⟨J1.kIn, run_G G hr hgu bi tk J1 r q⟩) h2 h3) h1)⟩
theorem pe_callG0 (G : FnG b X.prog X.w X.K X.mg X.base k f fd ps sp) (hr : Room k X.A) (hgu : Gd b X.A) (hg : Gl X x) (hm : X.mg x = some (.ref f)) (hk : PySem.W.keepIn X.K (.ref f) = true) (bi : Binds X.K fd ps []) (tk : Takes X W)
    (h1 : (x == ("__debug__" : Str)) = false := by decide) : PE X (.Call (.Name x p) [] [] pos) (tCallS sp (WE W) tNil) :=
  ⟨fun pins s σ H Q J h => wpAny_Call_Name_kw (ld_glob J hg hm (PySem.W.callWith_K0 J.kIn hk (run_G (us := []) G hr hgu bi tk J .nil h)) h1)⟩
end
/-- the module's name x is such a def -/
structure HasG (b : Bool) (P : Program) (w : World) (K : PySem.W.Frag) (mg : Str → Option Value) (base : Heap) (x : Str) (k : Nat) (ps : List Str) (sp : Sp) : Prop where
  ex : ∃ (f : Addr) (fd : FuncData), FnG b P w K mg base k f fd ps sp ∧ mg x = some (.ref f) ∧ PySem.W.keepIn K (.ref f) = true ∧ Binds K fd ps []
section
variable {P : Program} {w : World} {K : PySem.W.Frag} {mg : Str → Option Value} {base : Heap} {T : List (Addr × Str)}
theorem okG {x qual : Str} {st : Stmt} {f : Addr} {fd : FuncData} {N ps : List Str} {k : Nat} {sp : Sp} (Fu : Fun K x qual st f fd) (Sc : FnScope N ps (defScope st)) (many : ∀ vs H Q E, sp vs H Q E → vs.length = ps.length)
    (body : ∀ (cdv : Value) (A : Around) (outer : List PySem.Env) (s : Shared) (H : Hp) (vs : List V) (Q : VK) (E : XK), Room k (A.deeper (envOfC qual (defScope st) s.heap.objs.size f cdv)) → Gd b A → sp vs H Q E →
      ∃ t, PSs (cxOf (L2.CX P w) P w K mg base N qual (defScope st) f cdv A outer s H E) (defBody st) t ∧ t { nx := fun _ H' => Q .non H', rt := Q } (L2.start N vs) H) : FnG b P w K mg base (k + 1) f fd ps sp := by
  obtain ⟨oc, od, kV, doc, pm, an, cdv, ct, osl, efd, look, rec⟩ := Fu.ex
  subst efd
  refine ⟨many, fun A outer s H args us vs Q E hr hgu e0 hb r hsp => ?_⟩
  have stays : ∀ b o, base.get? b = some o → s.heap.get? b = some o := fun b o z => (e0.bs b o z).1
  have inK : K.In s.heap := e0.mod.kin.keeps stays
  have roomy : s.heap.NoLimit := e0.mod.nolimit.keeps stays
  refine codeAny_call_function hr.depth (inK _ _ look) rfl Sc.co Sc.gen rfl (PySem.W.codeRec_of inK rec) (hb _ _ _ _ (wpAny_newFunctionEnv_cells Sc.kind (fun y hy => ?_) fun env he s1 x => ?_))
  · rcases Sc.par y.1 (List.of_mem_zip hy).1 with l | l
    · exact .inl l
    · exact .inr ⟨l, PySem.W.cellsFrom_some _ _ _ (.inl l)⟩
  · subst he
    refine ⟨roomy.keeps x.toInCall.keep, codeAny_func ?_⟩
    obtain ⟨t, ht, hq⟩ := body cdv A outer s H vs Q E (hr.deeper _) hgu hsp
    have J := inv_start (CX := L2.CX P w) (E := E) Sc hr.hd e0 (many _ _ _ _ hsp) r x
    refine wpAny_mono (ht.run [] s1 _ H _ J hq) (fun fl s' hs => ?_) fun _ _ hs => hs
    cases fl with
    | ret u =>
      obtain ⟨v, σ', H', J', rv, q⟩ := hs
      exact ⟨v, H', J'.os, J'.bare, J'.base, J'.hok, rv, q⟩
    | next =>
      obtain ⟨σ', H', J', q⟩ := hs
      exact ⟨V.non, H', J'.os, J'.bare, J'.base, J'.hok, rfl, q⟩
    | brk => exact (show False from hs.choose_spec.choose_spec.2).elim
    | cont => exact (show False from hs.choose_spec.choose_spec.2).elim
/-- THE RULE for a def: its body as a term, and what that term does to data -/
theorem fn_body {x qual : Str} {st : Stmt} {f : Addr} {fd : FuncData} {N ps : List Str} {k n : Nat} {g : S} (Fu : Fun K x qual st f fd) (Sc : FnScope N ps (defScope st)) (hn : N.length = ps.length + n)
    (hbody : ∀ (cdv : Value) (A : Around) (outer : List PySem.Env) (s : Shared) (H : Hp) (E : XK), Room k (A.deeper (envOfC qual (defScope st) s.heap.objs.size f cdv)) → Gd b A →
      ∃ t, PSs (cxOf (L2.CX P w) P w K mg base N qual (defScope st) f cdv A outer s H E) (defBody st) t ∧ Sx ⟨K, mg, T⟩ (fun cls od _ H => E cls od H) ps.length t g) : FnG b P w K mg base (k + 1) f fd ps (spM ⟨K, mg, T⟩ (runBody ps.length n g)) := by
  have len : ∀ vs H Q E, spM ⟨K, mg, T⟩ (runBody ps.length n g) vs H Q E → vs.length = ps.length := fun vs H Q E h => by
    obtain ⟨F, qs, _, _, par, hm⟩ := h
    unfold runBody at hm
    by_cases hl : qs.length = ps.length
    · rw [← par.len, hl]
    · rw [if_neg hl] at hm
      exact hm.elim
  refine okG Fu Sc len (fun cdv A outer s H vs Q E hr hgu h => ?_)
  have hv := len vs H Q E h
  obtain ⟨F, qs, fz, tab, par, hm⟩ := h
  obtain ⟨t, ht, hx⟩ := hbody cdv A outer s H E hr hgu
  refine ⟨t, ht, hx (fm0 F H qs vs) F H (L2.start N vs) _ _ (by show qs.length = _; rw [par.len, hv]) (rel0 (k := n) (by rw [par.len, hv]; exact hn) fz tab par) ?_⟩
  have hq : qs.length = ps.length := by rw [par.len, hv]
  unfold runBody at hm
  rw [if_pos hq] at hm
  rw [← hq] at hm
  revert hm
  have sel : ∀ {r : Rs An} {b : Bool}, Out ⟨K, mg, T⟩ F H qs vs Q E (if b = true then r else .bad) → b = true ∧ Out ⟨K, mg, T⟩ F H qs vs Q E r := fun {r b} h => by
    cases b with
    | true => exact ⟨rfl, h⟩
    | false => exact h.elim
  cases g (qs ++ List.replicate n .u) with
  | ok k ρ =>
    cases k with
    | nx =>
      intro hm
      obtain ⟨hk, hm⟩ := sel hm
      exact fun F' H' σ' R' s' => hm F' H' .non (after0 R' hk) rfl
    | rt d =>
      intro hm
      obtain ⟨hk, hm⟩ := sel hm
      exact fun F' H' σ' v R' s' r => hm F' H' v (after0 R' hk) r
    | rn ds =>
      intro hm
      obtain ⟨hk, hm⟩ := sel hm
      exact fun F' H' σ' p R' s' fr => hm F' H' p (after0 R' hk) fr.own fr.h0
    | bk => exact fun hm => hm.elim
    | ct => exact fun hm => hm.elim
  | ex e ρ =>
    intro hm
    obtain ⟨hk, hm⟩ := sel hm
    exact fun F' H' σ' cls od R' s' x => hm F' H' cls od (after0 R' hk) x
  | bad => exact fun hm => hm.elim
end
end Pl
namespace Pl
open PySem PySem.Spec PyProof.Rows L2
/-! ## G. operations on data: equality -/
mutual
def eqB : D → D → Bool
  | .non, .non => true
  | .bl a, .bl b => a == b
  | .bl a, .int b => (if a then 1 else 0) == b
  | .int a, .bl b => a == (if b then 1 else 0)
  | .int a, .int b => a == b
  | .str a, .str b => a == b
  | .tup xs, .tup ys => eqBL xs ys
  | .lst xs, .lst ys => eqBL xs ys
  | _, _ => false
def eqBL : List D → List D → Bool
  | [], [] => true
  | x :: xs, y :: ys => eqB x y && eqBL xs ys
  | _, _ => false
end
mutual
/-- no dict, nothing opaque, at most n deep -/
def shape : Nat → D → Bool
  | _, .non => true
  | _, .bl _ => true
  | _, .int _ => true
  | _, .str _ => true
  | 0, _ => false
  | n + 1, .tup xs => shapeL n xs
  | n + 1, .lst xs => shapeL n xs
  | _ + 1, .dct _ _ => false
  | _ + 1, .rf _ => false
  | _ + 1, .scr _ => false
def shapeL : Nat → List D → Bool
  | _, [] => true
  | n, x :: xs => shape n x && shapeL n xs
end

theorem shapeL_get {n : Nat} : ∀ {ds : List D} {j : Nat} {d : D}, shapeL n ds = true → ds[j]? = some d → shape n d = true
  | [], _, _, _, e => by simp at e
  | x :: xs, 0, d, h, e => by
    simp at e
    subst e
    have h : (shape n x && shapeL n xs) = true := by
      rw [shapeL] at h
      exact h
    rw [Bool.and_eq_true] at h
    exact h.1
  | x :: xs, j + 1, d, h, e => by
    have h : (shape n x && shapeL n xs) = true := by
      rw [shapeL] at h
      exact h
    rw [Bool.and_eq_true] at h
    exact shapeL_get (j := j) h.2 (by simpa using e)
theorem eqBL_iff : ∀ {ds es : List D}, eqBL ds es = (((List.range (min ds.length es.length)).all fun j => eqB (ds.getD j .non) (es.getD j .non)) && ds.length == es.length)
  | [], [] => by simp [eqBL]
  | [], e :: es => by simp [eqBL]
  | d :: ds, [] => by simp [eqBL]
  | d :: ds, e :: es => by
    have ih := eqBL_iff (ds := ds) (es := es)
    rw [eqBL, ih]
    have hm : min (d :: ds).length (e :: es).length = min ds.length es.length + 1 := by
      simp only [List.length_cons]
      omega
    rw [hm, List.range_succ_eq_map, List.all_cons, List.all_map]
    simp only [List.length_cons]
    have : (ds.length + 1 == es.length + 1) = (ds.length == es.length) := by
      by_cases h : ds.length = es.length
      · rw [h]; simp
      · have h2 : ds.length + 1 ≠ es.length + 1 := by omega
        simp [h, h2]
    rw [this, Bool.and_assoc]
    rfl
section
variable {X : Cx} {pins : List (Addr × Obj)} {σ : L2.St} {H : Hp} {s : Shared}
theorem tup_is (I : Inv X pins σ H s) {a : Addr} {xs : List V} (h : TupAt X.K H a xs) : ∃ its : List Value, Vals xs its ∧ s.heap.IsTuple a its.toArray := by
  obtain ⟨its, r, p, _⟩ := I.tuple h.sq
  exact ⟨its, r, p⟩
theorem lst_is (I : Inv X pins σ H s) {a : Addr} {xs : List V} (h : H a = some (.lst xs)) : ∃ its : List Value, Vals xs its ∧ s.heap.IsList a its.toArray := by
  obtain ⟨its, r, p, _⟩ := I.list (.of h)
  exact ⟨its, r, p.isList⟩
theorem tup_lst (I : Inv X pins σ H s) {a b : Addr} {xs ys : List V} (h : TupAt X.K H a xs) (h' : H b = some (.lst ys)) : a ≠ b := fun z => by
  subst z
  obtain ⟨its, _, hl⟩ := lst_is I h'
  obtain ⟨its', _, ht⟩ := tup_is I h
  exact SeqAt.ne_of_list_tuple hl ht rfl
mutual
theorem eqB_same (I : Inv X pins σ H s) : ∀ (n : Nat) (d e : D) (x : V), Rep X.K H d x → Rep X.K H e x → shape n d = true → shape n e = true → eqB d e = true
  | n, .non, e, x, r, q, _, h => by
    have r : x = .non := r
    subst r
    cases e with
    | non => simp [eqB]
    | bl b => cases q
    | int b => cases q
    | str b => cases q
    | tup _ => obtain ⟨_, _, z, _⟩ := q; cases z
    | lst _ => obtain ⟨_, _, z, _⟩ := q; cases z
    | dct _ _ => cases n <;> simp [shape] at h
    | rf _ => cases n <;> simp [shape] at h
    | scr _ => cases n <;> simp [shape] at h
  | n, .bl a, e, x, r, q, _, h => by
    have r : x = .bl a := r
    subst r
    cases e with
    | non => cases q
    | bl b => cases q; simp [eqB]
    | int b => cases q
    | str b => cases q
    | tup _ => obtain ⟨_, _, z, _⟩ := q; cases z
    | lst _ => obtain ⟨_, _, z, _⟩ := q; cases z
    | dct _ _ => cases n <;> simp [shape] at h
    | rf _ => cases n <;> simp [shape] at h
    | scr _ => cases n <;> simp [shape] at h
  | n, .int a, e, x, r, q, _, h => by
    have r : x = .int a := r
    subst r
    cases e with
    | non => cases q
    | bl b => cases q
    | int b => cases q; simp [eqB]
    | str b => cases q
    | tup _ => obtain ⟨_, _, z, _⟩ := q; cases z
    | lst _ => obtain ⟨_, _, z, _⟩ := q; cases z
    | dct _ _ => cases n <;> simp [shape] at h
    | rf _ => cases n <;> simp [shape] at h
    | scr _ => cases n <;> simp [shape] at h
  | n, .str a, e, x, r, q, _, h => by
    have r : x = .str a := r
    subst r
    cases e with
    | non => cases q
    | bl b => cases q
    | int b => cases q
    | str b => cases q; simp [eqB]
    | tup _ => obtain ⟨_, _, z, _⟩ := q; cases z
    | lst _ => obtain ⟨_, _, z, _⟩ := q; cases z
    | dct _ _ => cases n <;> simp [shape] at h
    | rf _ => cases n <;> simp [shape] at h
    | scr _ => cases n <;> simp [shape] at h
  | n + 1, .tup ds, e, x, ⟨a, xs, r1, r2, r3⟩, q, h, h' => by
    subst r1
    cases e with
    | non => cases q
    | bl b => cases q
    | int b => cases q
    | str b => cases q
    | tup es =>
      obtain ⟨b, ys, q1, q2, q3⟩ := q
      cases q1
      have := I.tuple_inj r2.sq q2.sq
      subst this
      have g : shapeL n ds = true := by rw [shape] at h; exact h
      have g' : shapeL n es = true := by rw [shape] at h'; exact h'
      show eqBL ds es = true
      exact eqBL_same I n ds es xs r3 q3 g g'
    | lst es =>
      obtain ⟨b, ys, q1, q2, q3⟩ := q
      cases q1
      exact absurd rfl (tup_lst I r2 q2)
    | dct _ _ => simp [shape] at h'
    | rf _ => simp [shape] at h'
    | scr _ => simp [shape] at h'
  | n + 1, .lst ds, e, x, ⟨a, xs, r1, r2, r3⟩, q, h, h' => by
    subst r1
    cases e with
    | non => cases q
    | bl b => cases q
    | int b => cases q
    | str b => cases q
    | lst es =>
      obtain ⟨b, ys, q1, q2, q3⟩ := q
      cases q1
      rw [r2] at q2
      cases q2
      have g : shapeL n ds = true := by rw [shape] at h; exact h
      have g' : shapeL n es = true := by rw [shape] at h'; exact h'
      show eqBL ds es = true
      exact eqBL_same I n ds es xs r3 q3 g g'
    | tup es =>
      obtain ⟨b, ys, q1, q2, q3⟩ := q
      cases q1
      exact absurd rfl (tup_lst I q2 r2)
    | dct _ _ => simp [shape] at h'
    | rf _ => simp [shape] at h'
    | scr _ => simp [shape] at h'
  | 0, .tup ds, _, _, _, _, h, _ => by simp [shape] at h
  | 0, .lst ds, _, _, _, _, h, _ => by simp [shape] at h
  | n, .dct _ _, _, _, _, _, h, _ => by cases n <;> simp [shape] at h
  | n, .rf _, _, _, _, _, h, _ => by cases n <;> simp [shape] at h
  | n, .scr _, _, _, _, _, h, _ => by cases n <;> simp [shape] at h
theorem eqBL_same (I : Inv X pins σ H s) : ∀ (n : Nat) (ds es : List D) (xs : List V), RepL X.K H ds xs → RepL X.K H es xs → shapeL n ds = true → shapeL n es = true → eqBL ds es = true
  | n, [], es, xs, r, q, _, _ => by
    have r : xs = [] := r
    subst r
    cases es with
    | nil => simp [eqBL]
    | cons e es => obtain ⟨_, _, z, _⟩ := q; cases z
  | n, d :: ds, es, xs, ⟨v, vs, r1, r2, r3⟩, q, h, h' => by
    subst r1
    cases es with
    | nil => have q : v :: vs = [] := q; cases q
    | cons e es =>
      obtain ⟨_, _, z, q2, q3⟩ := q
      cases z
      rw [shapeL, Bool.and_eq_true] at h h'
      rw [eqBL, eqB_same I n d e v r2 q2 h.1 h'.1, eqBL_same I n ds es vs r3 q3 h.2 h'.2]
      rfl
end
mutual
theorem rep_inj (I : Inv X pins σ H s) : ∀ (n : Nat) (d e : D) (x : V), Rep X.K H d x → Rep X.K H e x → shape n d = true → shape n e = true → d = e
  | n, .non, e, x, r, q, _, h => by
    have r : x = .non := r
    subst r
    cases e with
    | non => rfl
    | bl b => cases q
    | int b => cases q
    | str b => cases q
    | tup _ => obtain ⟨_, _, z, _⟩ := q; cases z
    | lst _ => obtain ⟨_, _, z, _⟩ := q; cases z
    | dct _ _ => cases n <;> simp [shape] at h
    | rf _ => cases n <;> simp [shape] at h
    | scr _ => cases n <;> simp [shape] at h
  | n, .bl a, e, x, r, q, _, h => by
    have r : x = .bl a := r
    subst r
    cases e with
    | non => cases q
    | bl b => cases q; rfl
    | int b => cases q
    | str b => cases q
    | tup _ => obtain ⟨_, _, z, _⟩ := q; cases z
    | lst _ => obtain ⟨_, _, z, _⟩ := q; cases z
    | dct _ _ => cases n <;> simp [shape] at h
    | rf _ => cases n <;> simp [shape] at h
    | scr _ => cases n <;> simp [shape] at h
  | n, .int a, e, x, r, q, _, h => by
    have r : x = .int a := r
    subst r
    cases e with
    | non => cases q
    | bl b => cases q
    | int b => cases q; rfl
    | str b => cases q
    | tup _ => obtain ⟨_, _, z, _⟩ := q; cases z
    | lst _ => obtain ⟨_, _, z, _⟩ := q; cases z
    | dct _ _ => cases n <;> simp [shape] at h
    | rf _ => cases n <;> simp [shape] at h
    | scr _ => cases n <;> simp [shape] at h
  | n, .str a, e, x, r, q, _, h => by
    have r : x = .str a := r
    subst r
    cases e with
    | non => cases q
    | bl b => cases q
    | int b => cases q
    | str b => cases q; rfl
    | tup _ => obtain ⟨_, _, z, _⟩ := q; cases z
    | lst _ => obtain ⟨_, _, z, _⟩ := q; cases z
    | dct _ _ => cases n <;> simp [shape] at h
    | rf _ => cases n <;> simp [shape] at h
    | scr _ => cases n <;> simp [shape] at h
  | n + 1, .tup ds, e, x, ⟨a, xs, r1, r2, r3⟩, q, h, h' => by
    subst r1
    cases e with
    | non => cases q
    | bl b => cases q
    | int b => cases q
    | str b => cases q
    | tup es =>
      obtain ⟨b, ys, q1, q2, q3⟩ := q
      cases q1
      have := I.tuple_inj r2.sq q2.sq
      subst this
      have g : shapeL n ds = true := by rw [shape] at h; exact h
      have g' : shapeL n es = true := by rw [shape] at h'; exact h'
      rw [repL_inj I n ds es xs r3 q3 g g']
    | lst es =>
      obtain ⟨b, ys, q1, q2, q3⟩ := q
      cases q1
      exact absurd rfl (tup_lst I r2 q2)
    | dct _ _ => simp [shape] at h'
    | rf _ => simp [shape] at h'
    | scr _ => simp [shape] at h'
  | n + 1, .lst ds, e, x, ⟨a, xs, r1, r2, r3⟩, q, h, h' => by
    subst r1
    cases e with
    | non => cases q
    | bl b => cases q
    | int b => cases q
    | str b => cases q
    | lst es =>
      obtain ⟨b, ys, q1, q2, q3⟩ := q
      cases q1
      rw [r2] at q2
      cases q2
      have g : shapeL n ds = true := by rw [shape] at h; exact h
      have g' : shapeL n es = true := by rw [shape] at h'; exact h'
      rw [repL_inj I n ds es xs r3 q3 g g']
    | tup es =>
      obtain ⟨b, ys, q1, q2, q3⟩ := q
      cases q1
      exact absurd rfl (tup_lst I q2 r2)
    | dct _ _ => simp [shape] at h'
    | rf _ => simp [shape] at h'
    | scr _ => simp [shape] at h'
  | 0, .tup ds, _, _, _, _, h, _ => by simp [shape] at h
  | 0, .lst ds, _, _, _, _, h, _ => by simp [shape] at h
  | n, .dct _ _, _, _, _, _, h, _ => by cases n <;> simp [shape] at h
  | n, .rf _, _, _, _, _, h, _ => by cases n <;> simp [shape] at h
  | n, .scr _, _, _, _, _, h, _ => by cases n <;> simp [shape] at h
theorem repL_inj (I : Inv X pins σ H s) : ∀ (n : Nat) (ds es : List D) (xs : List V), RepL X.K H ds xs → RepL X.K H es xs → shapeL n ds = true → shapeL n es = true → ds = es
  | n, [], es, xs, r, q, _, _ => by
    have r : xs = [] := r
    subst r
    cases es with
    | nil => rfl
    | cons e es => obtain ⟨_, _, z, _⟩ := q; cases z
  | n, d :: ds, es, xs, ⟨v, vs, r1, r2, r3⟩, q, h, h' => by
    subst r1
    cases es with
    | nil => have q : v :: vs = [] := q; cases q
    | cons e es =>
      obtain ⟨_, _, z, q2, q3⟩ := q
      cases z
      rw [shapeL, Bool.and_eq_true] at h h'
      rw [rep_inj I n d e v r2 q2 h.1 h'.1, repL_inj I n ds es vs r3 q3 h.2 h'.2]
end
open SeqAt in
theorem eqAt_D (I : Inv X pins σ H s) : ∀ (n : Nat) (d e : D) (x y : V) (u v : Value) (A : Around), Rep X.K H d x → Rep X.K H e y → RelV x u → RelV y v → shape n d = true → shape n e = true → A.units + n < cLine → EqAt A s u v (eqB d e) := by
  intro n
  induction n with
  | zero =>
    intro d e x y u v A r q ru rv h h' hu
    have hu : A.units < cLine := hu
    cases d with
    | non =>
      cases r; cases ru
      cases e with
      | non => cases q; cases rv; exact .same _
      | bl b => cases q; cases rv; exact .none_bool b
      | int b => cases q; obtain ⟨t, rfl⟩ := rv; exact .none_int b t
      | str b => cases q; obtain ⟨t, rfl⟩ := rv; exact .none_str b t
      | _ => simp [shape] at h'
    | bl a =>
      cases r; cases ru
      cases e with
      | non => cases q; cases rv; exact .bool_none a
      | bl b => cases q; cases rv; exact .bool_bool a b
      | int b => cases q; obtain ⟨t, rfl⟩ := rv; exact .bool_int a b t
      | str b => cases q; obtain ⟨t, rfl⟩ := rv; exact .bool_str a b t
      | _ => simp [shape] at h'
    | int a =>
      cases r; obtain ⟨t', rfl⟩ := ru
      cases e with
      | non => cases q; cases rv; exact .int_none a t'
      | bl b => cases q; cases rv; exact .int_bool a t' b
      | int b => cases q; obtain ⟨t, rfl⟩ := rv; exact .int_int a t' b t
      | str b => cases q; obtain ⟨t, rfl⟩ := rv; exact .int_str a t' b t
      | _ => simp [shape] at h'
    | str a =>
      cases r; obtain ⟨t', rfl⟩ := ru
      cases e with
      | non => cases q; cases rv; exact .str_none a t'
      | bl b => cases q; cases rv; exact .str_bool a t' b
      | int b => cases q; obtain ⟨t, rfl⟩ := rv; exact .str_int a t' b t
      | str b => cases q; obtain ⟨t, rfl⟩ := rv; exact .str_str a t' b t
      | _ => simp [shape] at h'
    | _ => simp [shape] at h
  | succ n ih =>
    intro d e x y u v A r q ru rv h h' hu
    have hu0 : A.units < cLine := by omega
    have hu1 : A.in1.units + n < cLine := by
      show A.units + 1 + n < cLine
      omega
    -- two rows of items
    have items : ∀ {ds es : List D} {xs ys : List V} {its its2 : List Value}, RepL X.K H ds xs → RepL X.K H es ys → Vals xs its → Vals ys its2 → shapeL n ds = true → shapeL n es = true →
        ∀ j (h1 : j < its.toArray.size) (h2 : j < its2.toArray.size), EqAt A.in1 s its.toArray[j] its2.toArray[j] (eqB (ds.getD j .non) (es.getD j .non)) := fun {ds es xs ys its its2} r3 q3 ru rv g g' j h1 h2 => by
      have e1 : ds[j]? = some (ds.getD j .non) := by
        rw [List.getD_eq_getElem?_getD, List.getElem?_eq_getElem (by rw [r3.len, ru.length]; simpa using h1)]
        rfl
      have e2 : es[j]? = some (es.getD j .non) := by
        rw [List.getD_eq_getElem?_getD, List.getElem?_eq_getElem (by rw [q3.len, rv.length]; simpa using h2)]
        rfl
      obtain ⟨x, ex, rx⟩ := r3.get e1
      obtain ⟨y, ey, ry⟩ := q3.get e2
      obtain ⟨a, ea, ra⟩ := ru.get ex
      obtain ⟨b, eb, rb⟩ := rv.get ey
      have i1 : its.toArray[j] = a := by
        have := List.getElem?_eq_some_iff.mp ea
        obtain ⟨_, w⟩ := this
        simpa using w
      have i2 : its2.toArray[j] = b := by
        have := List.getElem?_eq_some_iff.mp eb
        obtain ⟨_, w⟩ := this
        simpa using w
      rw [i1, i2]
      exact ih _ _ x y a b A.in1 rx ry ra rb (shapeL_get g e1) (shapeL_get g' e2) hu1
    cases d with
    | non =>
      cases r; cases ru
      cases e with
      | non => cases q; cases rv; exact .same _
      | bl b => cases q; cases rv; exact .none_bool b
      | int b => cases q; obtain ⟨t, rfl⟩ := rv; exact .none_int b t
      | str b => cases q; obtain ⟨t, rfl⟩ := rv; exact .none_str b t
      | tup es => obtain ⟨b, ys, q1, q2, q3⟩ := q; subst q1; cases rv; obtain ⟨its, _, p⟩ := tup_is I q2; exact .none_tuple p hu0
      | lst es => obtain ⟨b, ys, q1, q2, q3⟩ := q; subst q1; cases rv; obtain ⟨its, _, p⟩ := lst_is I q2; exact .none_list p hu0
      | _ => simp [shape] at h'
    | bl a =>
      cases r; cases ru
      cases e with
      | non => cases q; cases rv; exact .bool_none a
      | bl b => cases q; cases rv; exact .bool_bool a b
      | int b => cases q; obtain ⟨t, rfl⟩ := rv; exact .bool_int a b t
      | str b => cases q; obtain ⟨t, rfl⟩ := rv; exact .bool_str a b t
      | tup es => obtain ⟨b, ys, q1, q2, q3⟩ := q; subst q1; cases rv; obtain ⟨its, _, p⟩ := tup_is I q2; exact .bool_tuple a p hu0
      | lst es => obtain ⟨b, ys, q1, q2, q3⟩ := q; subst q1; cases rv; obtain ⟨its, _, p⟩ := lst_is I q2; exact .bool_list a p hu0
      | _ => simp [shape] at h'
    | int a =>
      cases r; obtain ⟨t', rfl⟩ := ru
      cases e with
      | non => cases q; cases rv; exact .int_none a t'
      | bl b => cases q; cases rv; exact .int_bool a t' b
      | int b => cases q; obtain ⟨t, rfl⟩ := rv; exact .int_int a t' b t
      | str b => cases q; obtain ⟨t, rfl⟩ := rv; exact .int_str a t' b t
      | tup es => obtain ⟨b, ys, q1, q2, q3⟩ := q; subst q1; cases rv; obtain ⟨its, _, p⟩ := tup_is I q2; exact .int_tuple a t' p hu0
      | lst es => obtain ⟨b, ys, q1, q2, q3⟩ := q; subst q1; cases rv; obtain ⟨its, _, p⟩ := lst_is I q2; exact .int_list a t' p hu0
      | _ => simp [shape] at h'
    | str a =>
      cases r; obtain ⟨t', rfl⟩ := ru
      cases e with
      | non => cases q; cases rv; exact .str_none a t'
      | bl b => cases q; cases rv; exact .str_bool a t' b
      | int b => cases q; obtain ⟨t, rfl⟩ := rv; exact .str_int a t' b t
      | str b => cases q; obtain ⟨t, rfl⟩ := rv; exact .str_str a t' b t
      | tup es => obtain ⟨b, ys, q1, q2, q3⟩ := q; subst q1; cases rv; obtain ⟨its, _, p⟩ := tup_is I q2; exact .str_tuple a t' p hu0
      | lst es => obtain ⟨b, ys, q1, q2, q3⟩ := q; subst q1; cases rv; obtain ⟨its, _, p⟩ := lst_is I q2; exact .str_list a t' p hu0
      | _ => simp [shape] at h'
    | tup ds =>
      obtain ⟨a, xs, r1, r2, r3⟩ := r
      subst r1
      cases ru
      obtain ⟨its, ri, p⟩ := tup_is I r2
      have g : shapeL n ds = true := by rw [shape] at h; exact h
      cases e with
      | non => cases q; cases rv; exact .tuple_none p hu0
      | bl b => cases q; cases rv; exact .tuple_bool b p hu0
      | int b => cases q; obtain ⟨t, rfl⟩ := rv; exact .tuple_int b t p hu0
      | str b => cases q; obtain ⟨t, rfl⟩ := rv; exact .tuple_str b t p hu0
      | tup es =>
        obtain ⟨b, ys, q1, q2, q3⟩ := q
        subst q1
        cases rv
        obtain ⟨its2, ri2, p2⟩ := tup_is I q2
        have g' : shapeL n es = true := by rw [shape] at h'; exact h'
        by_cases z : a = b
        · subst z
          have := I.tuple_inj r2.sq q2.sq
          subst this
          have e1 : eqB (.tup ds) (.tup es) = true := eqBL_same I n ds es xs r3 q3 g g'
          rw [e1]
          exact .same _
        · have hq := RcAt.tuples (e := fun j => eqB (ds.getD j .non) (es.getD j .non)) p p2 hu0 (items r3 q3 ri ri2 g g')
          have e1 : eqB (.tup ds) (.tup es) = eqBL ds es := rfl
          rw [e1, eqBL_iff, r3.len, q3.len, ri.length, ri2.length]
          simp only [List.size_toArray] at hq
          exact .of_refs z hq
      | lst es =>
        obtain ⟨b, ys, q1, q2, q3⟩ := q
        subst q1
        cases rv
        obtain ⟨its2, ri2, p2⟩ := lst_is I q2
        exact .tuple_list p p2 hu0
      | _ => simp [shape] at h'
    | lst ds =>
      obtain ⟨a, xs, r1, r2, r3⟩ := r
      subst r1
      cases ru
      obtain ⟨its, ri, p⟩ := lst_is I r2
      have g : shapeL n ds = true := by rw [shape] at h; exact h
      cases e with
      | non => cases q; cases rv; exact .list_none p hu0
      | bl b => cases q; cases rv; exact .list_bool b p hu0
      | int b => cases q; obtain ⟨t, rfl⟩ := rv; exact .list_int b t p hu0
      | str b => cases q; obtain ⟨t, rfl⟩ := rv; exact .list_str b t p hu0
      | lst es =>
        obtain ⟨b, ys, q1, q2, q3⟩ := q
        subst q1
        cases rv
        obtain ⟨its2, ri2, p2⟩ := lst_is I q2
        have g' : shapeL n es = true := by rw [shape] at h'; exact h'
        have e1 : eqB (.lst ds) (.lst es) = eqBL ds es := rfl
        rw [e1]
        by_cases z : a = b
        · subst z
          rw [r2] at q2
          cases q2
          rw [eqBL_same I n ds es xs r3 q3 g g']
          exact .same _
        · by_cases hz : its.toArray.size = its2.toArray.size
          · have hq := RcAt.lists (e := fun j => eqB (ds.getD j .non) (es.getD j .non)) p p2 hz hu0 (items r3 q3 ri ri2 g g')
            rw [eqBL_iff, r3.len, q3.len, ri.length, ri2.length]
            simp only [List.size_toArray] at hq hz
            rw [hz, Nat.min_self, beq_self_eq_true, Bool.and_true]
            rw [hz] at hq
            exact .of_refs z hq
          · have hq := RcAt.lists_lengths p p2 (by simpa using hz) hu0
            have : eqBL ds es = false := by
              rw [eqBL_iff, r3.len, q3.len, ri.length, ri2.length]
              simp only [List.size_toArray] at hz
              simp [hz]
            rw [this]
            exact .of_refs z hq
      | tup es =>
        obtain ⟨b, ys, q1, q2, q3⟩ := q
        subst q1
        cases rv
        obtain ⟨its2, ri2, p2⟩ := tup_is I q2
        exact .list_tuple p p2 hu0
      | _ => simp [shape] at h'
    | _ => simp [shape] at h

open SeqAt in
theorem items_D (I : Inv X pins σ H s) {n : Nat} {A : Around} (hu : A.units + n < cLine) {ds es : List D} {xs ys : List V} {its its2 : List Value} (r3 : RepL X.K H ds xs) (q3 : RepL X.K H es ys) (ru : Vals xs its) (rv : Vals ys its2) (g : shapeL n ds = true) (g' : shapeL n es = true) :
    ∀ j (h1 : j < its.toArray.size) (h2 : j < its2.toArray.size), EqAt A s its.toArray[j] its2.toArray[j] (eqB (ds.getD j .non) (es.getD j .non)) := fun j h1 h2 => by
  have e1 : ds[j]? = some (ds.getD j .non) := by
    rw [List.getD_eq_getElem?_getD, List.getElem?_eq_getElem (by rw [r3.len, ru.length]; simpa using h1)]
    rfl
  have e2 : es[j]? = some (es.getD j .non) := by
    rw [List.getD_eq_getElem?_getD, List.getElem?_eq_getElem (by rw [q3.len, rv.length]; simpa using h2)]
    rfl
  obtain ⟨x, ex, rx⟩ := r3.get e1
  obtain ⟨y, ey, ry⟩ := q3.get e2
  obtain ⟨a, ea, ra⟩ := ru.get ex
  obtain ⟨b, eb, rb⟩ := rv.get ey
  have i1 : its.toArray[j] = a := by
    obtain ⟨_, w⟩ := List.getElem?_eq_some_iff.mp ea
    simpa using w
  have i2 : its2.toArray[j] = b := by
    obtain ⟨_, w⟩ := List.getElem?_eq_some_iff.mp eb
    simpa using w
  rw [i1, i2]
  exact eqAt_D I n _ _ x y a b A rx ry ra rb (shapeL_get g e1) (shapeL_get g' e2) hu
open SeqAt in
theorem rcAt_D (I : Inv X pins σ H s) (n : Nat) (d e : D) (x y : V) (u v : Value) (A : Around) (r : Rep X.K H d x) (q : Rep X.K H e y) (ru : RelV x u) (rv : RelV y v) (h : shape n d = true) (h' : shape n e = true) (hu : A.units + n < cLine) : RcAt A s u v (eqB d e) := by
  have hu0 : A.units < cLine := by omega
  have down : ∀ {ds : List D}, (shape n (.tup ds) = true → ∃ m, n = m + 1 ∧ shapeL m ds = true) ∧ (shape n (.lst ds) = true → ∃ m, n = m + 1 ∧ shapeL m ds = true) := fun {ds} => by
    cases n with
    | zero => exact ⟨fun z => by simp [shape] at z, fun z => by simp [shape] at z⟩
    | succ m => exact ⟨fun z => ⟨m, rfl, by rw [shape] at z; exact z⟩, fun z => ⟨m, rfl, by rw [shape] at z; exact z⟩⟩
  have no : ∀ {f : D}, shape n f = true → (∀ ks vs, f ≠ .dct ks vs) ∧ (∀ w, f ≠ .rf w) ∧ ∀ w, f ≠ .scr w := fun {f} z => by
    refine ⟨fun ks vs w => ?_, fun a w => ?_, fun a w => ?_⟩ <;> (subst w; cases n <;> simp [shape] at z)
  cases d with
  | non =>
    cases r; cases ru
    cases e with
    | non => cases q; cases rv; exact .none_none
    | bl b => cases q; cases rv; exact .none_bool b
    | int b => cases q; obtain ⟨t, rfl⟩ := rv; exact .none_int b t
    | str b => cases q; obtain ⟨t, rfl⟩ := rv; exact .none_str b t
    | tup es => obtain ⟨b, ys, q1, q2, q3⟩ := q; subst q1; cases rv; obtain ⟨its, _, p⟩ := tup_is I q2; exact .none_tuple p hu0
    | lst es => obtain ⟨b, ys, q1, q2, q3⟩ := q; subst q1; cases rv; obtain ⟨its, _, p⟩ := lst_is I q2; exact .none_list p hu0
    | dct ks vs => exact absurd rfl ((no h').1 ks vs)
    | rf w => exact absurd rfl ((no h').2.1 w)
    | scr w => exact absurd rfl ((no h').2.2 w)
  | bl a =>
    cases r; cases ru
    cases e with
    | non => cases q; cases rv; exact .bool_none a
    | bl b => cases q; cases rv; exact .bool_bool a b
    | int b => cases q; obtain ⟨t, rfl⟩ := rv; exact .bool_int a b t
    | str b => cases q; obtain ⟨t, rfl⟩ := rv; exact .bool_str a b t
    | tup es => obtain ⟨b, ys, q1, q2, q3⟩ := q; subst q1; cases rv; obtain ⟨its, _, p⟩ := tup_is I q2; exact .bool_tuple a p hu0
    | lst es => obtain ⟨b, ys, q1, q2, q3⟩ := q; subst q1; cases rv; obtain ⟨its, _, p⟩ := lst_is I q2; exact .bool_list a p hu0
    | dct ks vs => exact absurd rfl ((no h').1 ks vs)
    | rf w => exact absurd rfl ((no h').2.1 w)
    | scr w => exact absurd rfl ((no h').2.2 w)
  | int a =>
    cases r; obtain ⟨t', rfl⟩ := ru
    cases e with
    | non => cases q; cases rv; exact .int_none a t'
    | bl b => cases q; cases rv; exact .int_bool a t' b
    | int b => cases q; obtain ⟨t, rfl⟩ := rv; exact .int_int a t' b t
    | str b => cases q; obtain ⟨t, rfl⟩ := rv; exact .int_str a t' b t
    | tup es => obtain ⟨b, ys, q1, q2, q3⟩ := q; subst q1; cases rv; obtain ⟨its, _, p⟩ := tup_is I q2; exact .int_tuple a t' p hu0
    | lst es => obtain ⟨b, ys, q1, q2, q3⟩ := q; subst q1; cases rv; obtain ⟨its, _, p⟩ := lst_is I q2; exact .int_list a t' p hu0
    | dct ks vs => exact absurd rfl ((no h').1 ks vs)
    | rf w => exact absurd rfl ((no h').2.1 w)
    | scr w => exact absurd rfl ((no h').2.2 w)
  | str a =>
    cases r; obtain ⟨t', rfl⟩ := ru
    cases e with
    | non => cases q; cases rv; exact .str_none a t'
    | bl b => cases q; cases rv; exact .str_bool a t' b
    | int b => cases q; obtain ⟨t, rfl⟩ := rv; exact .str_int a t' b t
    | str b => cases q; obtain ⟨t, rfl⟩ := rv; exact .str_str a t' b t
    | tup es => obtain ⟨b, ys, q1, q2, q3⟩ := q; subst q1; cases rv; obtain ⟨its, _, p⟩ := tup_is I q2; exact .str_tuple a t' p hu0
    | lst es => obtain ⟨b, ys, q1, q2, q3⟩ := q; subst q1; cases rv; obtain ⟨its, _, p⟩ := lst_is I q2; exact .str_list a t' p hu0
    | dct ks vs => exact absurd rfl ((no h').1 ks vs)
    | rf w => exact absurd rfl ((no h').2.1 w)
    | scr w => exact absurd rfl ((no h').2.2 w)
  | tup ds =>
    obtain ⟨a, xs, r1, r2, r3⟩ := r
    subst r1
    cases ru
    obtain ⟨its, ri, p⟩ := tup_is I r2
    obtain ⟨m, en, g⟩ := down.1 h
    subst en
    cases e with
    | non => cases q; cases rv; exact .tuple_none p hu0
    | bl b => cases q; cases rv; exact .tuple_bool b p hu0
    | int b => cases q; obtain ⟨t, rfl⟩ := rv; exact .tuple_int b t p hu0
    | str b => cases q; obtain ⟨t, rfl⟩ := rv; exact .tuple_str b t p hu0
    | lst es =>
      obtain ⟨b, ys, q1, q2, q3⟩ := q
      subst q1
      cases rv
      obtain ⟨its2, ri2, p2⟩ := lst_is I q2
      exact .tuple_list p p2 hu0
    | tup es =>
      obtain ⟨b, ys, q1, q2, q3⟩ := q
      subst q1
      cases rv
      obtain ⟨its2, ri2, p2⟩ := tup_is I q2
      have g' : shapeL m es = true := by rw [shape] at h'; exact h'
      have e1 : eqB (.tup ds) (.tup es) = eqBL ds es := rfl
      have hi := items_D I (A := A.in1) (n := m) (by show A.units + 1 + m < cLine; omega) r3 q3 ri ri2 g g'
      have hq := RcAt.tuples (e := fun j => eqB (ds.getD j .non) (es.getD j .non)) p p2 hu0 hi
      rw [e1, eqBL_iff, r3.len, q3.len, ri.length, ri2.length]
      simp only [List.size_toArray] at hq
      exact hq
    | dct ks vs => exact absurd rfl ((no h').1 ks vs)
    | rf w => exact absurd rfl ((no h').2.1 w)
    | scr w => exact absurd rfl ((no h').2.2 w)
  | lst ds =>
    obtain ⟨a, xs, r1, r2, r3⟩ := r
    subst r1
    cases ru
    obtain ⟨its, ri, p⟩ := lst_is I r2
    obtain ⟨m, en, g⟩ := down.2 h
    subst en
    cases e with
    | non => cases q; cases rv; exact .list_none p hu0
    | bl b => cases q; cases rv; exact .list_bool b p hu0
    | int b => cases q; obtain ⟨t, rfl⟩ := rv; exact .list_int b t p hu0
    | str b => cases q; obtain ⟨t, rfl⟩ := rv; exact .list_str b t p hu0
    | tup es =>
      obtain ⟨b, ys, q1, q2, q3⟩ := q
      subst q1
      cases rv
      obtain ⟨its2, ri2, p2⟩ := tup_is I q2
      exact .list_tuple p p2 hu0
    | lst es =>
      obtain ⟨b, ys, q1, q2, q3⟩ := q
      subst q1
      cases rv
      obtain ⟨its2, ri2, p2⟩ := lst_is I q2
      have g' : shapeL m es = true := by rw [shape] at h'; exact h'
      have e1 : eqB (.lst ds) (.lst es) = eqBL ds es := rfl
      have hi := items_D I (A := A.in1) (n := m) (by show A.units + 1 + m < cLine; omega) r3 q3 ri ri2 g g'
      by_cases hz : its.toArray.size = its2.toArray.size
      · have hq := RcAt.lists (e := fun j => eqB (ds.getD j .non) (es.getD j .non)) p p2 hz hu0 hi
        rw [e1, eqBL_iff, r3.len, q3.len, ri.length, ri2.length]
        simp only [List.size_toArray] at hq hz
        rw [hz, Nat.min_self, beq_self_eq_true, Bool.and_true]
        rw [hz] at hq
        exact hq
      · have hq := RcAt.lists_lengths p p2 (by simpa using hz) hu0
        have : eqBL ds es = false := by
          rw [eqBL_iff, r3.len, q3.len, ri.length, ri2.length]
          simp only [List.size_toArray] at hz
          simp [hz]
        rw [e1, this]
        exact hq
    | dct ks vs => exact absurd rfl ((no h').1 ks vs)
    | rf w => exact absurd rfl ((no h').2.1 w)
    | scr w => exact absurd rfl ((no h').2.2 w)
  | dct ks vs => exact absurd rfl ((no h).1 ks vs)
  | rf w => exact absurd rfl ((no h).2.1 w)
  | scr w => exact absurd rfl ((no h).2.2 w)
open SeqAt in
theorem rcNe_D (I : Inv X pins σ H s) (n : Nat) (d e : D) (x y : V) (u v : Value) (A : Around) (r : Rep X.K H d x) (q : Rep X.K H e y) (ru : RelV x u) (rv : RelV y v) (h : shape n d = true) (h' : shape n e = true) (hu : A.units + n < cLine) : RcNeAt A s u v (!eqB d e) := by
  have hu0 : A.units < cLine := by omega
  have down : ∀ {ds : List D}, (shape n (.tup ds) = true → ∃ m, n = m + 1 ∧ shapeL m ds = true) ∧ (shape n (.lst ds) = true → ∃ m, n = m + 1 ∧ shapeL m ds = true) := fun {ds} => by
    cases n with
    | zero => exact ⟨fun z => by simp [shape] at z, fun z => by simp [shape] at z⟩
    | succ m => exact ⟨fun z => ⟨m, rfl, by rw [shape] at z; exact z⟩, fun z => ⟨m, rfl, by rw [shape] at z; exact z⟩⟩
  have no : ∀ {f : D}, shape n f = true → (∀ ks vs, f ≠ .dct ks vs) ∧ (∀ w, f ≠ .rf w) ∧ ∀ w, f ≠ .scr w := fun {f} z => by
    refine ⟨fun ks vs w => ?_, fun a w => ?_, fun a w => ?_⟩ <;> (subst w; cases n <;> simp [shape] at z)
  cases d with
  | non =>
    cases r; cases ru
    cases e with
    | non => cases q; cases rv; exact .none_none
    | bl b => cases q; cases rv; exact .none_bool b
    | int b => cases q; obtain ⟨t, rfl⟩ := rv; exact .none_int b t
    | str b => cases q; obtain ⟨t, rfl⟩ := rv; exact .none_str b t
    | tup es => obtain ⟨b, ys, q1, q2, q3⟩ := q; subst q1; cases rv; obtain ⟨its, _, p⟩ := tup_is I q2; exact .none_tuple p hu0
    | lst es => obtain ⟨b, ys, q1, q2, q3⟩ := q; subst q1; cases rv; obtain ⟨its, _, p⟩ := lst_is I q2; exact .none_list p hu0
    | dct ks vs => exact absurd rfl ((no h').1 ks vs)
    | rf w => exact absurd rfl ((no h').2.1 w)
    | scr w => exact absurd rfl ((no h').2.2 w)
  | bl a =>
    cases r; cases ru
    cases e with
    | non => cases q; cases rv; exact .bool_none a
    | bl b => cases q; cases rv; exact .bool_bool a b
    | int b => cases q; obtain ⟨t, rfl⟩ := rv; exact .bool_int a b t
    | str b => cases q; obtain ⟨t, rfl⟩ := rv; exact .bool_str a b t
    | tup es => obtain ⟨b, ys, q1, q2, q3⟩ := q; subst q1; cases rv; obtain ⟨its, _, p⟩ := tup_is I q2; exact .bool_tuple a p hu0
    | lst es => obtain ⟨b, ys, q1, q2, q3⟩ := q; subst q1; cases rv; obtain ⟨its, _, p⟩ := lst_is I q2; exact .bool_list a p hu0
    | dct ks vs => exact absurd rfl ((no h').1 ks vs)
    | rf w => exact absurd rfl ((no h').2.1 w)
    | scr w => exact absurd rfl ((no h').2.2 w)
  | int a =>
    cases r; obtain ⟨t', rfl⟩ := ru
    cases e with
    | non => cases q; cases rv; exact .int_none a t'
    | bl b => cases q; cases rv; exact .int_bool a t' b
    | int b => cases q; obtain ⟨t, rfl⟩ := rv; exact .int_int a t' b t
    | str b => cases q; obtain ⟨t, rfl⟩ := rv; exact .int_str a t' b t
    | tup es => obtain ⟨b, ys, q1, q2, q3⟩ := q; subst q1; cases rv; obtain ⟨its, _, p⟩ := tup_is I q2; exact .int_tuple a t' p hu0
    | lst es => obtain ⟨b, ys, q1, q2, q3⟩ := q; subst q1; cases rv; obtain ⟨its, _, p⟩ := lst_is I q2; exact .int_list a t' p hu0
    | dct ks vs => exact absurd rfl ((no h').1 ks vs)
    | rf w => exact absurd rfl ((no h').2.1 w)
    | scr w => exact absurd rfl ((no h').2.2 w)
  | str a =>
    cases r; obtain ⟨t', rfl⟩ := ru
    cases e with
    | non => cases q; cases rv; exact .str_none a t'
    | bl b => cases q; cases rv; exact .str_bool a t' b
    | int b => cases q; obtain ⟨t, rfl⟩ := rv; exact .str_int a t' b t
    | str b => cases q; obtain ⟨t, rfl⟩ := rv; exact .str_str a t' b t
    | tup es => obtain ⟨b, ys, q1, q2, q3⟩ := q; subst q1; cases rv; obtain ⟨its, _, p⟩ := tup_is I q2; exact .str_tuple a t' p hu0
    | lst es => obtain ⟨b, ys, q1, q2, q3⟩ := q; subst q1; cases rv; obtain ⟨its, _, p⟩ := lst_is I q2; exact .str_list a t' p hu0
    | dct ks vs => exact absurd rfl ((no h').1 ks vs)
    | rf w => exact absurd rfl ((no h').2.1 w)
    | scr w => exact absurd rfl ((no h').2.2 w)
  | tup ds =>
    obtain ⟨a, xs, r1, r2, r3⟩ := r
    subst r1
    cases ru
    obtain ⟨its, ri, p⟩ := tup_is I r2
    obtain ⟨m, en, g⟩ := down.1 h
    subst en
    cases e with
    | non => cases q; cases rv; exact .tuple_none p hu0
    | bl b => cases q; cases rv; exact .tuple_bool b p hu0
    | int b => cases q; obtain ⟨t, rfl⟩ := rv; exact .tuple_int b t p hu0
    | str b => cases q; obtain ⟨t, rfl⟩ := rv; exact .tuple_str b t p hu0
    | lst es =>
      obtain ⟨b, ys, q1, q2, q3⟩ := q
      subst q1
      cases rv
      obtain ⟨its2, ri2, p2⟩ := lst_is I q2
      exact .tuple_list p p2 hu0
    | tup es =>
      obtain ⟨b, ys, q1, q2, q3⟩ := q
      subst q1
      cases rv
      obtain ⟨its2, ri2, p2⟩ := tup_is I q2
      have g' : shapeL m es = true := by rw [shape] at h'; exact h'
      have e1 : eqB (.tup ds) (.tup es) = eqBL ds es := rfl
      have hi := items_D I (A := A.in1) (n := m) (by show A.units + 1 + m < cLine; omega) r3 q3 ri ri2 g g'
      have hq := RcNeAt.tuples (e := fun j => eqB (ds.getD j .non) (es.getD j .non)) p p2 hu0 hi
      rw [e1, eqBL_iff, r3.len, q3.len, ri.length, ri2.length]
      simp only [List.size_toArray] at hq
      exact hq
    | dct ks vs => exact absurd rfl ((no h').1 ks vs)
    | rf w => exact absurd rfl ((no h').2.1 w)
    | scr w => exact absurd rfl ((no h').2.2 w)
  | lst ds =>
    obtain ⟨a, xs, r1, r2, r3⟩ := r
    subst r1
    cases ru
    obtain ⟨its, ri, p⟩ := lst_is I r2
    obtain ⟨m, en, g⟩ := down.2 h
    subst en
    cases e with
    | non => cases q; cases rv; exact .list_none p hu0
    | bl b => cases q; cases rv; exact .list_bool b p hu0
    | int b => cases q; obtain ⟨t, rfl⟩ := rv; exact .list_int b t p hu0
    | str b => cases q; obtain ⟨t, rfl⟩ := rv; exact .list_str b t p hu0
    | tup es =>
      obtain ⟨b, ys, q1, q2, q3⟩ := q
      subst q1
      cases rv
      obtain ⟨its2, ri2, p2⟩ := tup_is I q2
      exact .list_tuple p p2 hu0
    | lst es =>
      obtain ⟨b, ys, q1, q2, q3⟩ := q
      subst q1
      cases rv
      obtain ⟨its2, ri2, p2⟩ := lst_is I q2
      have g' : shapeL m es = true := by rw [shape] at h'; exact h'
      have e1 : eqB (.lst ds) (.lst es) = eqBL ds es := rfl
      have hi := items_D I (A := A.in1) (n := m) (by show A.units + 1 + m < cLine; omega) r3 q3 ri ri2 g g'
      by_cases hz : its.toArray.size = its2.toArray.size
      · have hq := RcNeAt.lists (e := fun j => eqB (ds.getD j .non) (es.getD j .non)) p p2 hz hu0 hi
        rw [e1, eqBL_iff, r3.len, q3.len, ri.length, ri2.length]
        simp only [List.size_toArray] at hq hz
        rw [hz, Nat.min_self, beq_self_eq_true, Bool.and_true]
        rw [hz] at hq
        exact hq
      · have hq := RcNeAt.lists_lengths p p2 (by simpa using hz) hu0
        have : eqBL ds es = false := by
          rw [eqBL_iff, r3.len, q3.len, ri.length, ri2.length]
          simp only [List.size_toArray] at hz
          simp [hz]
        rw [e1, this]
        exact hq
    | dct ks vs => exact absurd rfl ((no h').1 ks vs)
    | rf w => exact absurd rfl ((no h').2.1 w)
    | scr w => exact absurd rfl ((no h').2.2 w)
  | dct ks vs => exact absurd rfl ((no h).1 ks vs)
  | rf w => exact absurd rfl ((no h).2.1 w)
  | scr w => exact absurd rfl ((no h).2.2 w)
end
section
variable {X : Cx}
def eqD (d e : D) : Option D := if (shape 60 d && shape 60 e) = true then some (.bl (eqB d e)) else none
def neD (d e : D) : Option D := if (shape 60 d && shape 60 e) = true then some (.bl (!eqB d e)) else none
theorem Fz.up {F H : Hp} (z : Fz F H) : Same F H := z.1
theorem op_eqX (hu : X.A.units + 64 < cLine) : OpR X (compareOp .Eq) (rD X.K eqD) := by
  intro pins s σ H x y v u Q I rx ry h
  obtain ⟨F, d, e, z, fz, r, q, ez, k⟩ := h
  unfold eqD at ez
  split at ez
  · rename_i hs
    cases ez
    rw [Bool.and_eq_true] at hs
    refine rcAt_D I 60 d e x y v u X.A (r.mono fz.up) (q.mono fz.up) rx ry hs.1 hs.2 (by omega) X.prog X.w _ _ ⟨.bl (eqB d e), H, I, rfl, k F H _ fz.refl rfl⟩
  · cases ez
theorem op_neX (hu : X.A.units + 64 < cLine) : OpR X (compareOp .NotEq) (rD X.K neD) := by
  intro pins s σ H x y v u Q I rx ry h
  obtain ⟨F, d, e, z, fz, r, q, ez, k⟩ := h
  unfold neD at ez
  split at ez
  · rename_i hs
    cases ez
    rw [Bool.and_eq_true] at hs
    exact rcNe_D I 60 d e x y v u X.A (r.mono fz.up) (q.mono fz.up) rx ry hs.1 hs.2 (by omega) X.prog X.w _ _ ⟨.bl (!eqB d e), H, I, rfl, k F H _ fz.refl rfl⟩
  · cases ez
end
end Pl
namespace Pl
open PySem PySem.Spec PyProof.Rows L2
/-! ## H. operations on data: numbers, order, items, slices -/
def iop (C : Int → Int → Bool) (g : Int → Int → D) : D → D → Option D
  | .int i, .int j => if C i j = true then some (g i j) else none
  | _, _ => none
section
variable {X : Cx}
theorem opd_int {f : Value → Value → Sem Value} {C : Int → Int → Prop} {Cb : Int → Int → Bool} {g : Int → Int → V} {gd : Int → Int → D} (ho : OpR X f (rI C g)) (hc : ∀ i j, Cb i j = true → C i j) (hg : ∀ F i j, Rep X.K F (gd i j) (g i j)) : OpR X f (rD X.K (iop Cb gd)) := by
  intro pins s σ H x y v u Q I rx ry h
  obtain ⟨F, d, e, z, fz, r, q, ez, k⟩ := h
  cases d with
  | int i =>
    cases e with
    | int j =>
      have ez : (if Cb i j = true then some (gd i j) else none) = some z := ez
      split at ez
      · cases ez
        cases r
        cases q
        exact ho pins s σ H _ _ v u Q I rx ry ⟨i, j, rfl, rfl, hc i j (by assumption), k F H _ fz.refl (hg F i j)⟩
      · cases ez
    | _ => cases ez
  | _ => cases ez
theorem opd_int0 {f : Value → Value → Sem Value} {g : Int → Int → V} {gd : Int → Int → D} (ho : OpR X f (rI0 g)) (hg : ∀ F i j, Rep X.K F (gd i j) (g i j)) : OpR X f (rD X.K (iop (fun _ _ => true) gd)) :=
  opd_int (C := fun _ _ => True) (fun pins s σ H x y v u Q I rx ry ⟨i, j, h1, h2, _, q⟩ => ho pins s σ H x y v u Q I rx ry ⟨i, j, h1, h2, q⟩) (fun _ _ _ => trivial) hg
def subD := iop (fun _ _ => true) fun i j => .int (i - j)
def modD := iop (fun _ j => decide (0 < j)) fun i j => .int (i % j)
def fdivD := iop (fun _ j => decide (0 < j ∧ j < 1073741824)) fun i j => .int (i / j)
def powD := iop (fun i j => decide (0 ≤ j ∧ (Builtin.Int.intBits i : Int) * j ≤ 2 ^ 27)) fun i j => .int (i ^ j.toNat)
def andD := iop (fun _ _ => true) fun i j => .int (Builtin.bitAnd i j)
def orD := iop (fun _ _ => true) fun i j => .int (Builtin.bitOr i j)
def xorD := iop (fun _ _ => true) fun i j => .int (Builtin.bitXor i j)
def shlD := iop (fun i j => decide (0 ≤ j ∧ j ≤ 1000000 ∧ i.natAbs < 2 ^ 64)) fun i j => .int (i * 2 ^ j.toNat)
def shrD := iop (fun _ j => decide (0 ≤ j)) fun i j => .int (i / 2 ^ j.toNat)
theorem op_subX : OpR X (binaryOp .Sub) (rD X.K subD) := opd_int0 op_sub fun _ _ _ => rfl
theorem op_modX : OpR X (binaryOp .Mod) (rD X.K modD) := opd_int op_mod (fun _ _ h => of_decide_eq_true h) fun _ _ _ => rfl
theorem op_fdivX : OpR X (binaryOp .FloorDiv) (rD X.K fdivD) := opd_int op_fdiv (fun i j h => (of_decide_eq_true h : 0 < j ∧ j < 1073741824)) fun _ _ _ => rfl
theorem op_powX : OpR X (binaryOp .Pow) (rD X.K powD) := opd_int (C := fun i j => 0 ≤ j ∧ (Builtin.Int.intBits i : Int) * j ≤ 2 ^ 27) (g := fun i j => .int (i ^ j.toNat)) (opI fun _ _ _ _ _ _ _ hc q => pow_int hc.1 hc.2 q) (fun _ _ h => of_decide_eq_true h) fun _ _ _ => rfl
theorem op_andX : OpR X (binaryOp .BitAnd) (rD X.K andD) := opd_int0 op_and fun _ _ _ => rfl
theorem op_orX : OpR X (binaryOp .BitOr) (rD X.K orD) := opd_int0 op_or fun _ _ _ => rfl
theorem op_xorX : OpR X (binaryOp .BitXor) (rD X.K xorD) := opd_int0 op_xor fun _ _ _ => rfl
theorem op_shlX : OpR X (binaryOp .LShift) (rD X.K shlD) := opd_int op_shl (fun i j h => (of_decide_eq_true h : 0 ≤ j ∧ j ≤ 1000000 ∧ i.natAbs < 2 ^ 64)) fun _ _ _ => rfl
theorem op_shrX : OpR X (binaryOp .RShift) (rD X.K shrD) := opd_int op_shr (fun _ _ h => of_decide_eq_true h) fun _ _ _ => rfl
/-- + of numbers, texts, tuples, lists -/
def addD : D → D → Option D
  | .int i, .int j => some (.int (i + j))
  | .str i, .str j => if i.length + j.length ≤ 100000 then some (.str (i ++ j)) else none
  | .tup xs, .tup ys => if xs.length + ys.length ≤ 100000 then some (.tup (xs ++ ys)) else none
  | .lst xs, .lst ys => if xs.length + ys.length ≤ 100000 then some (.lst (xs ++ ys)) else none
  | _, _ => none
theorem op_addX : OpR X (binaryOp .Add) (rD X.K addD) := by
  intro pins s σ H x y v u Q I rx ry h
  obtain ⟨F, d, e, z, fz, r, q, ez, k⟩ := h
  cases d with
  | int i =>
    cases e with
    | int j =>
      cases ez
      cases r
      cases q
      exact op_add pins s σ H _ _ v u Q I rx ry ⟨i, j, rfl, rfl, k F H _ fz.refl rfl⟩
    | _ => cases ez
  | str i =>
    cases e with
    | str j =>
      have ez : (if i.length + j.length ≤ 100000 then some (D.str (i ++ j)) else none) = some z := ez
      split at ez
      · cases ez
        cases r
        cases q
        exact op_add_str pins s σ H _ _ v u Q I rx ry ⟨i, j, rfl, rfl, Nat.le_trans (by assumption) h100, k F H _ fz.refl rfl⟩
      · cases ez
    | _ => cases ez
  | tup ds =>
    cases e with
    | tup es =>
      have ez : (if ds.length + es.length ≤ 100000 then some (D.tup (ds ++ es)) else none) = some z := ez
      split at ez
      · cases ez
        obtain ⟨a, xs, r1, r2, r3⟩ := r
        obtain ⟨b, ys, q1, q2, q3⟩ := q
        subst r1 q1
        refine op_catA pins s σ H _ _ v u Q I rx ry ⟨a, b, xs, ys, rfl, rfl, sqT_mono fz.up r2.sq, sqT_mono fz.up q2.sq, by rw [← r3.len, ← q3.len]; exact Nat.le_trans (by assumption) h100, fun hx => ?_, fun _ hy => ?_, fun _ _ p hp => ?_⟩
        · subst hx
          have hd : ds = [] := List.eq_nil_of_length_eq_zero r3.len
          subst hd
          exact k F H _ fz.refl ⟨b, ys, rfl, q2, q3⟩
        · subst hy
          have he : es = [] := List.eq_nil_of_length_eq_zero q3.len
          subst he
          rw [List.append_nil] at k
          exact k F H _ fz.refl ⟨a, xs, rfl, r2, r3⟩
        · have g := fz.new (o := .tup (xs ++ ys)) hp fun _ z => by cases z
          exact k _ _ _ g ⟨p, _, rfl, .inl upd_same, (r3.app q3).mono g.fs⟩
      · cases ez
    | _ => cases ez
  | lst ds =>
    cases e with
    | lst es =>
      have ez : (if ds.length + es.length ≤ 100000 then some (D.lst (ds ++ es)) else none) = some z := ez
      split at ez
      · cases ez
        obtain ⟨a, xs, r1, r2, r3⟩ := r
        obtain ⟨b, ys, q1, q2, q3⟩ := q
        subst r1 q1
        refine op_cat pins s σ H _ _ v u Q I rx ry ⟨a, b, xs, ys, rfl, rfl, fz.up _ _ r2, fz.up _ _ q2, by rw [← r3.len, ← q3.len]; exact Nat.le_trans (by assumption) h100, fun p hp => ?_⟩
        have g := fz.new (o := .lst (xs ++ ys)) hp fun _ z => by cases z
        exact k _ _ _ g ⟨p, _, rfl, upd_same, (r3.app q3).mono g.fs⟩
      · cases ez
    | _ => cases ez
  | _ => cases ez
theorem RepL.rep {K : PySem.W.Frag} {F : Hp} {ds : List D} {xs : List V} (r : RepL K F ds xs) : ∀ n : Nat, RepL K F (List.replicate n ds).flatten (List.replicate n xs).flatten
  | 0 => rfl
  | n + 1 => by
    rw [List.replicate_succ, List.replicate_succ, List.flatten_cons, List.flatten_cons]
    exact r.app (RepL.rep r n)
/-- * of numbers, of a list or a tuple and a number, of a text and a number -/
def mulD : D → D → Option D
  | .int i, .int j => if i.natAbs.log2 + j.natAbs.log2 < 1000000 then some (.int (i * j)) else none
  | .lst xs, .int k => if 0 ≤ k ∧ k ≤ 100000 ∧ xs.length * k.toNat ≤ 100000 then some (.lst (List.replicate k.toNat xs).flatten) else none
  | .tup xs, .int k => if 0 < xs.length ∧ 2 ≤ k ∧ k ≤ 1000 ∧ xs.length ≤ 1000 then some (.tup (List.replicate k.toNat xs).flatten) else none
  | _, _ => none
theorem op_mulX : OpR X (binaryOp .Mult) (rD X.K mulD) := by
  intro pins s σ H x y v u Q I rx ry h
  obtain ⟨F, d, e, z, fz, r, q, ez, k⟩ := h
  cases d with
  | int i =>
    cases e with
    | int j =>
      have ez : (if i.natAbs.log2 + j.natAbs.log2 < 1000000 then some (D.int (i * j)) else none) = some z := ez
      split at ez
      · cases ez
        cases r
        cases q
        exact op_mulW pins s σ H _ _ v u Q I rx ry ⟨i, j, rfl, rfl, by assumption, k F H _ fz.refl rfl⟩
      · cases ez
    | _ => cases ez
  | lst ds =>
    cases e with
    | int j =>
      have ez : (if 0 ≤ j ∧ j ≤ 100000 ∧ ds.length * j.toNat ≤ 100000 then some (D.lst (List.replicate j.toNat ds).flatten) else none) = some z := ez
      split at ez
      · rename_i hc
        cases ez
        cases q
        obtain ⟨a, xs, r1, r2, r3⟩ := r
        subst r1
        refine op_rep pins s σ H _ _ v u Q I rx ry ⟨a, j, xs, rfl, rfl, fz.up _ _ r2, by omega, by omega, by rw [← r3.len]; exact Nat.le_trans hc.2.2 h100, fun p hp => ?_⟩
        have g := fz.new (o := .lst (List.replicate j.toNat xs).flatten) hp fun _ z => by cases z
        exact k _ _ _ g ⟨p, _, rfl, upd_same, (r3.rep _).mono g.fs⟩
      · cases ez
    | _ => cases ez
  | tup ds =>
    cases e with
    | int j =>
      have ez : (if 0 < ds.length ∧ 2 ≤ j ∧ j ≤ 1000 ∧ ds.length ≤ 1000 then some (D.tup (List.replicate j.toNat ds).flatten) else none) = some z := ez
      split at ez
      · rename_i hc
        cases ez
        cases q
        obtain ⟨a, xs, r1, r2, r3⟩ := r
        subst r1
        refine op_repT pins s σ H _ _ v u Q I rx ry ⟨a, j, xs, rfl, rfl, sqT_mono fz.up r2.sq, (fun z => absurd hc.1 (by rw [r3.len, z]; exact Nat.lt_irrefl 0)), hc.2.1, hc.2.2.1, by rw [← r3.len]; exact hc.2.2.2, fun p hp => ?_⟩
        have g := fz.new (o := .tup (List.replicate j.toNat xs).flatten) hp fun _ z => by cases z
        exact k _ _ _ g ⟨p, _, rfl, .inl upd_same, (r3.rep _).mono g.fs⟩
      · cases ez
    | _ => cases ez
  | _ => cases ez
def negD : D → Option D
  | .int i => some (.int (-i))
  | _ => none
theorem un_negX : UnR X (unaryOp .USub) (uD X.K negD) := by
  intro pins s σ H x v Q I rx h
  obtain ⟨F, d, z, fz, r, ez, k⟩ := h
  cases d with
  | int i =>
    cases ez
    cases r
    exact un_neg pins s σ H _ v Q I rx ⟨i, rfl, k F H _ fz.refl rfl⟩
  | _ => cases ez
/-! ### order -/
def strLt (a b : Str) : Bool := decide (a.cps.toList < b.cps.toList)
end
/-! ### is None, == of classes -/
section
variable {X : Cx}
def isD (d e : D) : Option D := match e with
  | .non => match d with
    | .rf _ => none
    | .non => some (.bl true)
    | _ => some (.bl false)
  | _ => none
def isntD (d e : D) : Option D := match e with
  | .non => match d with
    | .rf _ => none
    | .non => some (.bl false)
    | _ => some (.bl true)
  | _ => none
theorem rep_non {K : PySem.W.Frag} {F : Hp} {d : D} {x : V} (r : Rep K F d x) : (d = .non ∧ x = .non) ∨ (∃ w, d = .rf w) ∨ (d ≠ .non ∧ x ≠ .non) := by
  cases d with
  | non => exact .inl ⟨rfl, r⟩
  | rf w => exact .inr (.inl ⟨w, rfl⟩)
  | bl _ => cases r; exact .inr (.inr ⟨(fun z => by cases z), (fun z => by cases z)⟩)
  | int _ => cases r; exact .inr (.inr ⟨(fun z => by cases z), (fun z => by cases z)⟩)
  | str _ => cases r; exact .inr (.inr ⟨(fun z => by cases z), (fun z => by cases z)⟩)
  | tup _ => obtain ⟨a, _, r, _⟩ := r; subst r; exact .inr (.inr ⟨(fun z => by cases z), (fun z => by cases z)⟩)
  | lst _ => obtain ⟨a, _, r, _⟩ := r; subst r; exact .inr (.inr ⟨(fun z => by cases z), (fun z => by cases z)⟩)
  | dct _ _ => obtain ⟨a, _, r, _⟩ := r; subst r; exact .inr (.inr ⟨(fun z => by cases z), (fun z => by cases z)⟩)
  | scr _ => obtain ⟨a, r, _⟩ := r; subst r; exact .inr (.inr ⟨(fun z => by cases z), (fun z => by cases z)⟩)
theorem op_isX : OpR X (compareOp .Is) (rD X.K isD) := by
  intro pins s σ H x y v u Q I rx ry h
  obtain ⟨F, d, e, z, fz, r, q, ez, k⟩ := h
  cases e with
  | non =>
    cases q
    refine op_isN pins s σ H _ _ v u Q I rx ry ⟨rfl, ?_⟩
    rcases rep_non r with ⟨h1, h2⟩ | ⟨w, h1⟩ | ⟨h1, h2⟩
    · subst h1 h2
      cases ez
      exact k F H _ fz.refl rfl
    · subst h1
      cases ez
    · rw [decide_eq_false h2]
      have : isD d .non = some (.bl false) := by cases d <;> first | rfl | exact absurd rfl h1 | cases ez
      rw [this] at ez
      cases ez
      exact k F H _ fz.refl rfl
  | _ => cases ez
theorem op_isntX : OpR X (compareOp .IsNot) (rD X.K isntD) := by
  intro pins s σ H x y v u Q I rx ry h
  obtain ⟨F, d, e, z, fz, r, q, ez, k⟩ := h
  cases e with
  | non =>
    cases q
    refine op_notN pins s σ H _ _ v u Q I rx ry ⟨rfl, ?_⟩
    rcases rep_non r with ⟨h1, h2⟩ | ⟨w, h1⟩ | ⟨h1, h2⟩
    · subst h1 h2
      cases ez
      exact k F H _ fz.refl rfl
    · subst h1
      cases ez
    · rw [decide_eq_false h2]
      have : isntD d .non = some (.bl true) := by cases d <;> first | rfl | exact absurd rfl h1 | cases ez
      rw [this] at ez
      cases ez
      exact k F H _ fz.refl rfl
  | _ => cases ez
def eqTy : D → D → Option D
  | .rf (.ty a), .rf (.ty b) => some (.bl (a == b))
  | _, _ => none
def neTy : D → D → Option D
  | .rf (.ty a), .rf (.ty b) => some (.bl (!(a == b)))
  | _, _ => none
end
end Pl
namespace Pl
open PySem PySem.Spec PyProof.Rows L2
/-! ## I. order, membership, items, slices -/
mutual
def toP : D → PyData
  | .non => .none
  | .bl b => .bool b
  | .int i => .int i
  | .str x => .str x
  | .tup xs => .tuple (toPL xs)
  | .lst xs => .list (toPL xs)
  | .dct _ _ => .none
  | .rf _ => .none
  | .scr _ => .none
def toPL : List D → List PyData
  | [] => []
  | x :: xs => toP x :: toPL xs
end
section
variable {X : Cx} {pins : List (Addr × Obj)} {σ : L2.St} {H : Hp} {s : Shared}
mutual
theorem reads_D (I : Inv X pins σ H s) : ∀ (n : Nat) (d : D) (x : V) (u : Value), Rep X.K H d x → RelV x u → shape n d = true → ∃ as, Reads s.heap u (toP d) as
  | _, .non, _, _, r, ru, _ => by cases r; cases ru; exact ⟨_, .none⟩
  | _, .bl b, _, _, r, ru, _ => by cases r; cases ru; exact ⟨_, .bool b⟩
  | _, .int i, _, _, r, ru, _ => by cases r; obtain ⟨t, rfl⟩ := ru; exact ⟨_, .int i t⟩
  | _, .str z, _, _, r, ru, _ => by cases r; obtain ⟨t, rfl⟩ := ru; exact ⟨_, .str z t⟩
  | n + 1, .tup ds, _, u, ⟨a, xs, r1, r2, r3⟩, ru, h => by
    subst r1
    cases ru
    obtain ⟨its, rv, ⟨o, ho, hc, k, hd⟩, _⟩ := I.tuple r2.sq
    obtain ⟨as, q⟩ := readsL_D I n ds xs its r3 rv (by rw [shape] at h; exact h)
    exact ⟨_, .tuple ho hc hd (by simpa using q)⟩
  | n + 1, .lst ds, _, u, ⟨a, xs, r1, r2, r3⟩, ru, h => by
    subst r1
    cases ru
    obtain ⟨its, rv, ⟨o, k, ho, hc, _, hd⟩, _⟩ := I.list (.of r2)
    obtain ⟨as, q⟩ := readsL_D I n ds xs its r3 rv (by rw [shape] at h; exact h)
    exact ⟨_, .list ho hc hd (by simpa using q)⟩
  | 0, .tup _, _, _, _, _, h => by simp [shape] at h
  | 0, .lst _, _, _, _, _, h => by simp [shape] at h
  | n, .dct _ _, _, _, _, _, h => by cases n <;> simp [shape] at h
  | n, .rf _, _, _, _, _, h => by cases n <;> simp [shape] at h
  | n, .scr _, _, _, _, _, h => by cases n <;> simp [shape] at h
theorem readsL_D (I : Inv X pins σ H s) : ∀ (n : Nat) (ds : List D) (xs : List V) (us : List Value), RepL X.K H ds xs → Vals xs us → shapeL n ds = true → ∃ as, ReadsAll s.heap us (toPL ds) as
  | _, [], _, us, r, rv, _ => by
    have r : _ = [] := r
    subst r
    cases rv
    exact ⟨_, .nil⟩
  | n, d :: ds, _, us, ⟨v, vs, r1, r2, r3⟩, rv, h => by
    subst r1
    rw [shapeL, Bool.and_eq_true] at h
    cases rv with
    | cons p q =>
      obtain ⟨as, h1⟩ := reads_D I n d v _ r2 p h.1
      obtain ⟨bs, h2⟩ := readsL_D I n ds vs _ r3 q h.2
      exact ⟨_, .cons h1 h2⟩
end
mutual
theorem depth_D : ∀ (n : Nat) (d : D), shape n d = true → (toP d).depth ≤ n
  | _, .non, _ => by simp [toP, PyData.depth]
  | _, .bl b, _ => by simp [toP, PyData.depth]
  | _, .int i, _ => by simp [toP, PyData.depth]
  | _, .str z, _ => by simp [toP, PyData.depth]
  | n + 1, .tup ds, h => by
    rw [shape] at h
    have := depthL_D n ds h
    rw [toP, PyData.depth]
    omega
  | n + 1, .lst ds, h => by
    rw [shape] at h
    have := depthL_D n ds h
    rw [toP, PyData.depth]
    omega
  | 0, .tup _, h => by simp [shape] at h
  | 0, .lst _, h => by simp [shape] at h
  | n, .dct _ _, h => by cases n <;> simp [shape] at h
  | n, .rf _, h => by cases n <;> simp [shape] at h
  | n, .scr _, h => by cases n <;> simp [shape] at h
theorem depthL_D : ∀ (n : Nat) (ds : List D), shapeL n ds = true → PyData.depthAll (toPL ds) ≤ n
  | _, [], _ => by simp [toPL, PyData.depthAll]
  | n, d :: ds, h => by
    rw [shapeL, Bool.and_eq_true] at h
    have h1 := depth_D n d h.1
    have h2 := depthL_D n ds h.2
    rw [toPL, PyData.depthAll]
    omega
end
end
section
variable {X : Cx}
def ltD (d e : D) : Option D := match d, e with
  | .int i, .int j => some (.bl (decide (i < j)))
  | .str i, .str j => some (.bl (decide (i.cps.toList < j.cps.toList)))
  | .tup xs, .tup ys => if (shape 60 (.tup xs) && shape 60 (.tup ys) && PySem.W.alike (toP (.tup xs)) (toP (.tup ys))) = true then some (.bl (PySem.W.dataLt (toP (.tup xs)) (toP (.tup ys)))) else none
  | _, _ => none
theorem op_ltX (hu : X.A.units + 64 < cLine) : OpR X (compareOp .Lt) (rD X.K ltD) := by
  intro pins s σ H x y v u Q I rx ry h
  obtain ⟨F, d, e, z, fz, r, q, ez, k⟩ := h
  cases d with
  | int i =>
    cases e with
    | int j => cases ez; cases r; cases q; exact op_lt pins s σ H _ _ v u Q I rx ry ⟨i, j, rfl, rfl, k F H _ fz.refl rfl⟩
    | _ => cases ez
  | str i =>
    cases e with
    | str j => cases ez; cases r; cases q; exact op_lt_str pins s σ H _ _ v u Q I rx ry ⟨i, j, rfl, rfl, k F H _ fz.refl rfl⟩
    | _ => cases ez
  | tup ds =>
    cases e with
    | tup es =>
      have ez : (if (shape 60 (.tup ds) && shape 60 (.tup es) && PySem.W.alike (toP (.tup ds)) (toP (.tup es))) = true then some (D.bl (PySem.W.dataLt (toP (.tup ds)) (toP (.tup es)))) else none) = some z := ez
      split at ez
      · rename_i hc
        cases ez
        rw [Bool.and_eq_true, Bool.and_eq_true] at hc
        obtain ⟨as, ra⟩ := reads_D I 60 _ x v (r.mono fz.up) rx hc.1.1
        obtain ⟨bs, rb⟩ := reads_D I 60 _ y u (q.mono fz.up) ry hc.1.2
        have d1 := depth_D 60 _ hc.1.1
        exact PySem.W.rcLt_alike _ _ X.A s v u as bs ra rb hc.2 (by rw [toP]; intro z; cases z) (by omega) X.prog X.w _ _ ⟨.bl _, H, I, rfl, k F H _ fz.refl rfl⟩
      · cases ez
    | _ => cases ez
  | _ => cases ez
def leD (d e : D) : Option D := match d, e with
  | .int i, .int j => some (.bl (decide (i ≤ j)))
  | .str i, .str j => some (.bl (!decide (j.cps.toList < i.cps.toList)))
  | _, _ => none
theorem op_leX : OpR X (compareOp .LtE) (rD X.K leD) := by
  intro pins s σ H x y v u Q I rx ry h
  obtain ⟨F, d, e, z, fz, r, q, ez, k⟩ := h
  cases d with
  | int i =>
    cases e with
    | int j => cases ez; cases r; cases q; exact op_le pins s σ H _ _ v u Q I rx ry ⟨i, j, rfl, rfl, k F H _ fz.refl rfl⟩
    | _ => cases ez
  | str i =>
    cases e with
    | str j =>
      cases ez; cases r; cases q
      obtain ⟨t, rfl⟩ := rx
      obtain ⟨t', rfl⟩ := ry
      exact PySem.P.le_str ⟨.bl _, H, I, rfl, k F H _ fz.refl rfl⟩
    | _ => cases ez
  | _ => cases ez
def gtD (d e : D) : Option D := match d, e with
  | .int i, .int j => some (.bl (decide (j < i)))
  | _, _ => none
def geD (d e : D) : Option D := match d, e with
  | .int i, .int j => some (.bl (decide (j ≤ i)))
  | _, _ => none
theorem op_gtX : OpR X (compareOp .Gt) (rD X.K gtD) := by
  intro pins s σ H x y v u Q I rx ry h
  obtain ⟨F, d, e, z, fz, r, q, ez, k⟩ := h
  cases d with
  | int i =>
    cases e with
    | int j => cases ez; cases r; cases q; exact op_gt pins s σ H _ _ v u Q I rx ry ⟨i, j, rfl, rfl, k F H _ fz.refl rfl⟩
    | _ => cases ez
  | _ => cases ez
theorem op_geX : OpR X (compareOp .GtE) (rD X.K geD) := by
  intro pins s σ H x y v u Q I rx ry h
  obtain ⟨F, d, e, z, fz, r, q, ez, k⟩ := h
  cases d with
  | int i =>
    cases e with
    | int j => cases ez; cases r; cases q; exact op_ge pins s σ H _ _ v u Q I rx ry ⟨i, j, rfl, rfl, k F H _ fz.refl rfl⟩
    | _ => cases ez
  | _ => cases ez
def knTy (a : String) : Bool := a == "int" || a == "str" || a == "tuple" || a == "list" || a == "dict" || a == "bool" || a == "NoneType"
theorem tyOk {a : String} (h : knTy a = true) (s : Shared) : s.TypeIs (.type a) "type" := by
  unfold knTy at h
  simp only [Bool.or_eq_true, beq_iff_eq] at h
  rcases h with (((((h | h) | h) | h) | h) | h) | h
  · subst h; exact TypeEq.meta_int s
  · subst h; exact TypeEq.meta_str s
  · subst h; exact TypeEq.meta_tuple s
  · subst h; exact TypeEq.meta_list s
  · subst h; exact TypeEq.meta_dict s
  · subst h; exact TypeEq.meta_bool s
  · subst h; exact TypeEq.meta_NoneType s
theorem sl_ne : PySem.Slot "type" (cmpInfo .NotEq).2.1 "object.__ne__" := by
  refine PySem.Slot.of (owner := "object") (n := "__ne__") ?_ (by decide +kernel) (by decide +kernel) (by decide +kernel) (by first | exact .inl (by decide +kernel) | exact .inr (by decide +kernel)) ?_
  · rw [typeLookup_type, builtinLookup_eq_fast]
    kernel_rfl
  · rw [isSubtype_type]
    kernel_rfl
theorem sl_ne' : PySem.Slot "type" (cmpInfo .NotEq).2.2 "object.__ne__" := sl_ne
section
variable {prog : Program} {w : World} {A : Around} {E : Value → Shared → Prop} {s : Shared} {Q : Value → Shared → Prop} {a b : String}
theorem ty_beq' (a b : String) : (Value.type a == Value.type b) = (a == b) := by
  by_cases h : a = b
  · subst h
    rw [beq_self_eq_true, beq_self_eq_true]
  · rw [beq_eq_false_iff_ne.mpr h, beq_eq_false_iff_ne.mpr fun z => h (Value.type.inj z)]
/-- object.__ne__ of two classes: the other of ==, or nothing -/
theorem ne_call (ha : ∀ s : Shared, s.TypeIs (.type a) "type") (h : if (a == b) = true then Q (.bool false) s else Q .notImplemented s) : wpAny (model prog w) A (call (.builtin "object.__ne__") [.type a, .type b]) Q E s := by
  refine wpAny_call_entry sl_ne (ha s) F.entry_object_ne ?_ (F.args_object_ne_2 _ _)
  unfold Builtin.«object.__ne__»
  simp only [slotArgs]
  refine wpAny_bind (wpAny_pure (wpAny_bind (wpAny_cRoomFor_byValue (by rfl) (wpAny_bind (wpAny_callSpecialIfBound?_slot (id := "object.__eq__") (ha s) TypeEq.slot_type_eq ?_)))))
  by_cases e : a = b
  · subst e
    rw [if_pos (beq_self_eq_true _)] at h
    refine call_gives TypeEq.slot_type_eq (ha s) F.entry_object_eq (F.args_object_eq_2 _ _) (TypeEq.object_eq_same rfl (by simp)) ?_
    exact wpAny_bind (wpAny_truthy_bool (wpAny_pure ⟨_, rfl, h⟩))
  · rw [if_neg (by simpa using e)] at h
    refine call_gives TypeEq.slot_type_eq (ha s) F.entry_object_eq (F.args_object_eq_2 _ _) (TypeEq.object_eq_other rfl (by rw [ty_beq']; simpa using e)) ?_
    exact wpAny_pure ⟨_, rfl, h⟩
theorem rc_eq (ha : ∀ s : Shared, s.TypeIs (.type a) "type") (hb : ∀ s : Shared, s.TypeIs (.type b) "type") (h : Q (.bool (a == b)) s) : wpAny (model prog w) A (compareOp .Eq (.type a) (.type b)) Q E s := by
  by_cases e : a = b
  · subst e
    exact TypeEq.eq_type_same ha (by rw [beq_self_eq_true] at h; exact h)
  · have e2 : (a == b) = false := by simpa using e
    exact TypeEq.eq_type_other ha hb (by rw [ty_beq', e2]) (by rw [e2] at h; exact h)
theorem rc_ne (ha : ∀ s : Shared, s.TypeIs (.type a) "type") (hb : ∀ s : Shared, s.TypeIs (.type b) "type") (h : Q (.bool (!(a == b))) s) : wpAny (model prog w) A (compareOp .NotEq (.type a) (.type b)) Q E s := by
  show wpAny _ A (richCompare .NotEq _ _) Q E s
  by_cases e : a = b
  · subst e
    refine wpAny_richCompare_same (T := "type") (ha s) (ha s) sl_ne (ne_call ha ?_)
    rw [if_pos (beq_self_eq_true _)]
    rw [beq_self_eq_true] at h
    exact ⟨(fun z => by cases z), h⟩
  · have e2 : (a == b) = false := by simpa using e
    have e3 : (b == a) = false := by simpa using fun z : b = a => e z.symm
    have n1 := sl_ne
    have n2 := sl_ne'
    obtain ⟨sym, f, r⟩ : String × Str × Str := cmpInfo CmpOp.NotEq
    rcases hi : cmpInfo CmpOp.NotEq with ⟨sym, f, r⟩
    rw [hi] at n1 n2
    simp only [richCompare, hi, (ha s).oneThing_none]
    try with_reducible refine wpAny_holding ?_
    refine wpAny_bind (wpAny_cRoomFor_byValue (by rfl) (wpAny_bind (wpAny_typeOf (ha s) (wpAny_bind (wpAny_typeOf (hb s) ?_)))))
    simp only [bne_self_eq_false, Bool.false_eq_true, if_false, pure_bind, Bool.not_false, if_true]
    have c1 : ∀ (s : Shared) (R : Value → Shared → Prop), R .notImplemented s → wpAny (model prog w) A (call (.builtin "object.__ne__") [.type a, .type b]) R E s := fun s R q => ne_call ha (by rw [e2]; exact q)
    have c2 : ∀ (s : Shared) (R : Value → Shared → Prop), R .notImplemented s → wpAny (model prog w) A (call (.builtin "object.__ne__") [.type b, .type a]) R E s := fun s R q => ne_call hb (by rw [e3]; exact q)
    refine wpAny_bind (m := tryCompare _ _ _) (wpAny_tryCompare_declines (ha s) n1 (c1 s _ ⟨rfl, ?_⟩))
    refine wpAny_bind (m := tryCompare _ _ _) (wpAny_tryCompare_declines (hb s) n2 (c2 s _ ⟨rfl, ?_⟩))
    refine wpAny_bind (wpAny_rule (wpAny_bind (wpAny_of_eq (isSame_plain rfl) (wpAny_pure ?_))))
    rw [ty_beq', e2]
    rw [e2] at h
    exact h
end
def eqTyD : D → D → Option D
  | .rf (.ty a), .rf (.ty b) => if (knTy a && knTy b) = true then some (.bl (a == b)) else none
  | _, _ => none
def neTyD : D → D → Option D
  | .rf (.ty a), .rf (.ty b) => if (knTy a && knTy b) = true then some (.bl (!(a == b))) else none
  | _, _ => none
theorem ty_of {K : PySem.W.Frag} {F : Hp} {d : D} {x : V} {a : String} (r : Rep K F (.rf (.ty a)) x) : x = .ty a := r
theorem op_eqTyX : OpR X (compareOp .Eq) (rD X.K eqTyD) := by
  intro pins s σ H x y v u Q I rx ry h
  obtain ⟨F, d, e, z, fz, r, q, ez, k⟩ := h
  unfold eqTyD at ez
  split at ez
  · split at ez
    · rename_i a b hc
      cases ez
      have r := ty_of (d := .non) r
      have q := ty_of (d := .non) q
      subst r q
      cases rx
      cases ry
      rw [Bool.and_eq_true] at hc
      exact rc_eq (tyOk hc.1) (tyOk hc.2) ⟨.bl _, H, I, rfl, k F H _ fz.refl rfl⟩
    · cases ez
  · cases ez
theorem op_neTyX : OpR X (compareOp .NotEq) (rD X.K neTyD) := by
  intro pins s σ H x y v u Q I rx ry h
  obtain ⟨F, d, e, z, fz, r, q, ez, k⟩ := h
  unfold neTyD at ez
  split at ez
  · split at ez
    · rename_i a b hc
      cases ez
      have r := ty_of (d := .non) r
      have q := ty_of (d := .non) q
      subst r q
      cases rx
      cases ry
      rw [Bool.and_eq_true] at hc
      exact rc_ne (tyOk hc.1) (tyOk hc.2) ⟨.bl _, H, I, rfl, k F H _ fz.refl rfl⟩
    · cases ez
  · cases ez
/-! ### in, items, slices -/
def strIn (i j : Str) : Bool := !(Builtin.Str.occurrences j i 0 j.length 1).isEmpty
def inD (d e : D) : Option D := match e with
  | .str j => match d with
    | .str i => some (.bl (strIn i j))
    | _ => none
  | .lst es => if (shape 60 d && shapeL 60 es) = true then some (.bl (es.any fun y => eqB y d)) else none
  | .tup es => if (shape 60 d && shapeL 60 es) = true then some (.bl (es.any fun y => eqB y d)) else none
  | _ => none
def ninD (d e : D) : Option D := match e with
  | .str j => match d with
    | .str i => some (.bl (!strIn i j))
    | _ => none
  | .lst es => if (shape 60 d && shapeL 60 es) = true then some (.bl (!es.any fun y => eqB y d)) else none
  | .tup es => if (shape 60 d && shapeL 60 es) = true then some (.bl (!es.any fun y => eqB y d)) else none
  | _ => none
open Classical in
/-- the items' answers as a function of the values -/
theorem any_D {pins : List (Addr × Obj)} {σ : L2.St} {H : Hp} {s : Shared} (I : Inv X pins σ H s) (hu : X.A.units + 64 < cLine) {d : D} {x : V} {v : Value} {es : List D} {ys : List V} {its : List Value} (r : Rep X.K H d x) (rx : RelV x v) (q : RepL X.K H es ys) (rv : Vals ys its) (h : (shape 60 d && shapeL 60 es) = true) :
    ∃ f : Value → Bool, (∀ y, y ∈ its → SeqAt.EqAt X.A.in1 s y v (f y)) ∧ its.any f = es.any fun y => eqB y d := by
  rw [Bool.and_eq_true] at h
  let P : Value → D → Prop := fun u e => ∃ y, RelV y u ∧ Rep X.K H e y ∧ shape 60 e = true
  have uniq : ∀ u e e', P u e → P u e' → e = e' := fun u e e' ⟨y, a1, a2, a3⟩ ⟨y', b1, b2, b3⟩ => by
    have : y = y' := a1.inj b1
    subst this
    exact rep_inj I 60 e e' y a2 b2 a3 b3
  let f : Value → Bool := fun u => if z : ∃ e, P u e then eqB z.choose d else false
  have fe : ∀ u e, P u e → f u = eqB e d := fun u e p => by
    have z : ∃ e, P u e := ⟨e, p⟩
    show (if z : ∃ e, P u e then eqB z.choose d else false) = _
    rw [dif_pos z, uniq u _ _ z.choose_spec p]
  refine ⟨f, fun u hu' => ?_, ?_⟩
  · obtain ⟨i, hi, ei⟩ := List.mem_iff_getElem.mp hu'
    have hl := rv.length
    obtain ⟨y, ey⟩ : ∃ y, ys[i]? = some y := ⟨_, List.getElem?_eq_getElem (by omega)⟩
    obtain ⟨e', ee, re⟩ := q.of_get ey
    obtain ⟨u', eu, ru⟩ := rv.get ey
    rw [List.getElem?_eq_getElem hi, ei] at eu
    cases eu
    have se := shapeL_get h.2 ee
    rw [fe u e' ⟨y, ru, re, se⟩]
    exact eqAt_D I 60 e' d y x u v X.A.in1 re r ru rx se h.1 (by show X.A.units + 1 + 60 < cLine; omega)
  · have sh := h.2
    clear h
    induction rv generalizing es with
    | nil =>
      cases es with
      | nil => rfl
      | cons e es => obtain ⟨_, _, z, _⟩ := q; cases z
    | cons ru rr ih =>
      cases es with
      | nil => have q : _ :: _ = [] := q; cases q
      | cons e es =>
        obtain ⟨_, _, z, q2, q3⟩ := q
        cases z
        rw [shapeL, Bool.and_eq_true] at sh
        rw [List.any_cons, List.any_cons, fe _ e ⟨_, ru, q2, sh.1⟩, ih q3 sh.2]
theorem op_inX (hu : X.A.units + 64 < cLine) : OpR X (compareOp .In) (rD X.K inD) := by
  intro pins s σ H x y v u Q I rx ry h
  obtain ⟨F, d, e, z, fz, r, q, ez, k⟩ := h
  cases e with
  | str j =>
    cases d with
    | str i => cases ez; cases r; cases q; exact op_in_str pins s σ H _ _ v u Q I rx ry ⟨i, j, rfl, rfl, k F H _ fz.refl rfl⟩
    | _ => cases ez
  | lst es =>
    have ez : (if (shape 60 d && shapeL 60 es) = true then some (D.bl (es.any fun y => eqB y d)) else none) = some z := ez
    split at ez
    · rename_i hc
      cases ez
      obtain ⟨b, ys, q1, q2, q3⟩ := q
      subst q1
      cases ry
      obtain ⟨its, rv, p⟩ := lst_is I (fz.up _ _ q2)
      obtain ⟨f, f1, f2⟩ := any_D I hu (r.mono fz.up) rx (q3.mono fz.up) rv hc
      refine SeqAt.in_listAt f p (fun w hw => f1 w (by simpa using hw)) ⟨.bl _, H, I, rfl, ?_⟩
      rw [show its.toArray.any f = its.any f by simp, f2]
      exact k F H _ fz.refl rfl
    · cases ez
  | tup es =>
    have ez : (if (shape 60 d && shapeL 60 es) = true then some (D.bl (es.any fun y => eqB y d)) else none) = some z := ez
    split at ez
    · rename_i hc
      cases ez
      obtain ⟨b, ys, q1, q2, q3⟩ := q
      subst q1
      cases ry
      obtain ⟨its, rv, p⟩ := tup_is I (tup_mono fz.up q2)
      obtain ⟨f, f1, f2⟩ := any_D I hu (r.mono fz.up) rx (q3.mono fz.up) rv hc
      refine SeqAt.in_tupleAt f p (fun w hw => f1 w (by simpa using hw)) ⟨.bl _, H, I, rfl, ?_⟩
      rw [show its.toArray.any f = its.any f by simp, f2]
      exact k F H _ fz.refl rfl
    · cases ez
  | _ => cases ez
theorem op_ninX (hu : X.A.units + 64 < cLine) : OpR X (compareOp .NotIn) (rD X.K ninD) := by
  intro pins s σ H x y v u Q I rx ry h
  obtain ⟨F, d, e, z, fz, r, q, ez, k⟩ := h
  cases e with
  | str j =>
    cases d with
    | str i => cases ez; cases r; cases q; exact op_notin_str pins s σ H _ _ v u Q I rx ry ⟨i, j, rfl, rfl, k F H _ fz.refl rfl⟩
    | _ => cases ez
  | lst es =>
    have ez : (if (shape 60 d && shapeL 60 es) = true then some (D.bl (!es.any fun y => eqB y d)) else none) = some z := ez
    split at ez
    · rename_i hc
      cases ez
      obtain ⟨b, ys, q1, q2, q3⟩ := q
      subst q1
      cases ry
      obtain ⟨its, rv, p⟩ := lst_is I (fz.up _ _ q2)
      obtain ⟨f, f1, f2⟩ := any_D I hu (r.mono fz.up) rx (q3.mono fz.up) rv hc
      refine SeqAt.notIn_listAt f p (fun w hw => f1 w (by simpa using hw)) ⟨.bl _, H, I, rfl, ?_⟩
      rw [show its.toArray.any f = its.any f by simp, f2]
      exact k F H _ fz.refl rfl
    · cases ez
  | tup es =>
    have ez : (if (shape 60 d && shapeL 60 es) = true then some (D.bl (!es.any fun y => eqB y d)) else none) = some z := ez
    split at ez
    · rename_i hc
      cases ez
      obtain ⟨b, ys, q1, q2, q3⟩ := q
      subst q1
      cases ry
      obtain ⟨its, rv, p⟩ := tup_is I (tup_mono fz.up q2)
      obtain ⟨f, f1, f2⟩ := any_D I hu (r.mono fz.up) rx (q3.mono fz.up) rv hc
      refine SeqAt.notIn_tupleAt f p (fun w hw => f1 w (by simpa using hw)) ⟨.bl _, H, I, rfl, ?_⟩
      rw [show its.toArray.any f = its.any f by simp, f2]
      exact k F H _ fz.refl rfl
    · cases ez
  | _ => cases ez
def ixD : D → D → Option D
  | .tup xs, .int i => atI xs i
  | .lst xs, .int i => atI xs i
  | .scr ns, .int i => (atI ns i).map .int
  | .str z, .int i => if z.length ≤ 100000 then (atI z.cps.toList i).map fun c => .str ⟨#[c]⟩ else none
  | _, _ => none
theorem atI_rep {K : PySem.W.Frag} {F : Hp} {ds : List D} {xs : List V} {i : Int} {z : D} (r : RepL K F ds xs) (e : atI ds i = some z) : ∃ v, atI xs i = some v ∧ Rep K F z v := by
  unfold atI at e ⊢
  rw [← r.len]
  cases h : ixN ds.length i with
  | none => rw [h] at e; cases e
  | some j =>
    rw [h] at e
    exact r.get e
theorem ix_X : IxR X (rD X.K ixD) := by
  intro value slice pins s σ H x y v u Q I rx ry h hs
  obtain ⟨F, d, e, z, fz, r, q, ez, k⟩ := h
  cases e with
  | int i =>
    cases q
    cases d with
    | tup ds =>
      obtain ⟨a, xs, r1, r2, r3⟩ := r
      subst r1
      obtain ⟨w, e1, e2⟩ := atI_rep r3 (show atI ds i = some z from ez)
      exact ix_seq value slice pins s σ H _ _ v u Q I rx ry (.inr (.inl ⟨a, xs, i, w, rfl, rfl, sqT_mono fz.up r2.sq, e1, k F H w fz.refl e2⟩)) hs
    | lst ds =>
      obtain ⟨a, xs, r1, r2, r3⟩ := r
      subst r1
      obtain ⟨w, e1, e2⟩ := atI_rep r3 (show atI ds i = some z from ez)
      exact ix_seq value slice pins s σ H _ _ v u Q I rx ry (.inl ⟨a, xs, i, w, rfl, rfl, .of (fz.up _ _ r2), e1, k F H w fz.refl e2⟩) hs
    | scr ns =>
      obtain ⟨a, r1, r2⟩ := r
      subst r1
      have ez : (atI ns i).map D.int = some z := ez
      cases e1 : atI ns i with
      | none => rw [e1] at ez; cases ez
      | some n =>
        rw [e1] at ez
        cases ez
        refine ix_seq value slice pins s σ H _ _ v u Q I rx ry (.inl ⟨a, _, i, .int n, rfl, rfl, fz.up.seq r2, ?_, k F H _ fz.refl rfl⟩) hs
        unfold atI at e1 ⊢
        rw [List.length_map]
        cases h : ixN ns.length i with
        | none => rw [h] at e1; cases e1
        | some j =>
          rw [h] at e1
          show (ns.map V.int)[j]? = _
          rw [List.getElem?_map, show ns[j]? = some n from e1]
          rfl
    | str t =>
      cases r
      have ez : (if t.length ≤ 100000 then (atI t.cps.toList i).map fun c => D.str ⟨#[c]⟩ else none) = some z := ez
      split at ez
      · cases e1 : atI t.cps.toList i with
        | none => rw [e1] at ez; cases ez
        | some n =>
          rw [e1] at ez
          cases ez
          exact ix_seq value slice pins s σ H _ _ v u Q I rx ry (.inr (.inr ⟨t, i, n, rfl, rfl, Nat.le_trans (by assumption) h100, e1, k F H _ fz.refl rfl⟩)) hs
      · cases ez
    | _ => cases ez
  | _ => cases d <;> cases ez
def cutD (xs : List D) (lo hi : Option Int) : List D := (xs.drop (HT.sIx xs.length 0 lo)).take (HT.sIx xs.length xs.length hi - HT.sIx xs.length 0 lo)
theorem cut_rep {K : PySem.W.Frag} {F : Hp} {ds : List D} {xs : List V} {lo hi : Option Int} (r : RepL K F ds xs) : RepL K F (cutD ds lo hi) (cutV xs lo hi) := by
  unfold cutD cutV
  rw [r.len]
  exact (r.drop _).take _
def slD (d : D) (lo hi : Option Int) : Option D := match d with
  | .tup xs => some (.tup (cutD xs lo hi))
  | .lst xs => some (.lst (cutD xs lo hi))
  | .str z => if z.length ≤ 100000 then some (.str (cutS z lo hi)) else none
  | _ => none
def rSlD (K : PySem.W.Frag) : V → Option Int → Option Int → Hp → VK → Prop := fun x lo hi H Q => ∃ F d z, Fz F H ∧ Rep K F d x ∧ slD d lo hi = some z ∧ ∀ F' H' v, Grow F H F' H' → Rep K F' z v → Q v H'
theorem sl_X : SlR X (rSlD X.K) := by
  intro pins s σ H x v vl vu lo hi sl Q I rx hs pl pu h
  obtain ⟨F, d, z, fz, r, ez, k⟩ := h
  cases d with
  | tup ds =>
    cases ez
    obtain ⟨a, xs, r1, r2, r3⟩ := r
    subst r1
    refine sl_tupA pins s σ H _ v vl vu lo hi sl Q I rx hs pl pu ⟨a, xs, rfl, sqT_mono fz.up r2.sq, fun hw => ?_, fun _ p hp => ?_⟩
    · have e : cutD ds lo hi = ds := by
        unfold cutD
        rw [r3.len, hw.1, hw.2, List.drop_zero, Nat.sub_zero, List.take_of_length_le (by rw [r3.len]; exact Nat.le_refl _)]
      rw [e] at k
      exact k F H _ fz.refl ⟨a, xs, rfl, r2, r3⟩
    · have g := fz.new (o := .tup (cutV xs lo hi)) hp fun _ z => by cases z
      exact k _ _ _ g ⟨p, _, rfl, .inl upd_same, (cut_rep r3).mono g.fs⟩
  | lst ds =>
    cases ez
    obtain ⟨a, xs, r1, r2, r3⟩ := r
    subst r1
    refine sl_list pins s σ H _ v vl vu lo hi sl Q I rx hs pl pu ⟨a, xs, rfl, .of (fz.up _ _ r2), fun p hp => ?_⟩
    have g := fz.new (o := .lst (cutV xs lo hi)) hp fun _ z => by cases z
    exact k _ _ _ g ⟨p, _, rfl, upd_same, (cut_rep r3).mono g.fs⟩
  | str t =>
    have ez : (if t.length ≤ 100000 then some (D.str (cutS t lo hi)) else none) = some z := ez
    split at ez
    · cases ez
      cases r
      exact sl_str pins s σ H _ v vl vu lo hi sl Q I rx hs pl pu ⟨t, rfl, Nat.le_trans (by assumption) h100, k F H _ fz.refl rfl⟩
    · cases ez
  | _ => cases ez
end
/-! the parts of a slice -/
section
variable {c : Cn} {E : WX} {te : TE} {tl th : TO} {f : M D} {fl fh : M (Option Int)}
def Ox (c : Cn) (E : WX) (t : TO) (f : M (Option Int)) : Prop := ∀ W F H σ ρ Q, Rel c W F H σ ρ → Post c W F σ E (fun _ a b => b = a) (f ρ) Q → t σ H Q
def oNo : M (Option Int) := M.pure none
def oInt : D → Option (Option Int)
  | .int i => some (some i)
  | _ => none
def oPart (e : M D) : M (Option Int) := e.bind fun d => M.lift (oInt d)
theorem ox_no : Ox c E tNoPart oNo := fun W F H σ ρ Q R h => h F H none R (Same.refl _) rfl
theorem ox_part (he : Ex c E te f) : Ox c E (tPart te) (oPart f) := by
  intro W F H σ ρ Q R h
  refine he W F H σ ρ _ R ((h.bind (Rep c.K)).mono fun x H1 ⟨d, ρ1, F1, R1, s1, r1, h1⟩ => ?_)
  obtain ⟨k, e1, q⟩ := h1.lift
  cases d with
  | int i =>
    cases e1
    exact ⟨i, r1, q F1 H1 _ R1 (Same.refl _) rfl⟩
  | _ => cases e1
def eSl (a : M D) (lo hi : M (Option Int)) : M D := a.bind fun d => lo.bind fun l => hi.bind fun h => M.lift (slD d l h)
theorem ex_sl (ha : Ex c E te f) (hl : Ox c E tl fl) (hh : Ox c E th fh) : Ex c E (tSl (rSlD c.K) te tl th) (eSl f fl fh) := by
  intro W F H σ ρ Q R h
  refine ha W F H σ ρ _ R ((h.bind (Rep c.K)).mono fun x H1 ⟨d, ρ1, F1, R1, s1, r1, h1⟩ => ?_)
  refine hl W F1 H1 σ ρ1 _ R1 ((h1.bind (fun _ a b => b = a)).mono fun l H2 ⟨l', ρ2, F2, R2, s2, r2, h2⟩ => ?_)
  refine hh W F2 H2 σ ρ2 _ R2 ((h2.bind (fun _ a b => b = a)).mono fun u H3 ⟨u', ρ3, F3, R3, s3, r3, h3⟩ => ?_)
  subst r2 r3
  obtain ⟨z, e1, k⟩ := h3.lift
  exact ⟨F3, d, z, R3.fz, (r1.mono s2).mono s3, e1, fun F' H' v gr rv => k F' H' v (R3.grow gr) gr.fs rv⟩
end
end Pl
namespace Pl
open PySem PySem.Spec PyProof.Rows L2
/-! ## J. built-ins by data -/
section
variable {X : Cx}
def lenD : List D → Option D
  | [.str z] => if z.length ≤ 100000 then some (.int z.length) else none
  | [.tup xs] => some (.int xs.length)
  | [.lst xs] => some (.int xs.length)
  | [.scr ns] => some (.int ns.length)
  | _ => none
theorem repL1 {K : PySem.W.Frag} {F : Hp} {d : D} {vs : List V} (r : RepL K F [d] vs) : ∃ v, vs = [v] ∧ Rep K F d v := by
  obtain ⟨v, ws, e, h, t⟩ := r
  have t : ws = [] := t
  subst t
  exact ⟨v, e, h⟩
theorem repL2 {K : PySem.W.Frag} {F : Hp} {d e : D} {vs : List V} (r : RepL K F [d, e] vs) : ∃ v w, vs = [v, w] ∧ Rep K F d v ∧ Rep K F e w := by
  obtain ⟨v, ws, e1, h, t⟩ := r
  obtain ⟨w, e2, h2⟩ := repL1 t
  subst e2
  exact ⟨v, w, e1, h, h2⟩
theorem call_lenX : CallR X (.builtin "len") (cD X.K lenD) := by
  intro pins s σ H xs us Q I rx h
  obtain ⟨F, ds, z, fz, r, ez, k⟩ := h
  unfold lenD at ez
  split at ez
  · split at ez
    · cases ez
      obtain ⟨v, e, r1⟩ := repL1 r
      subst e
      cases r1
      exact call_len pins s σ H _ us Q I rx ⟨_, _, rfl, ⟨Nat.le_trans (by assumption) h100, rfl⟩, k F H _ fz.refl rfl⟩
    · cases ez
  · cases ez
    obtain ⟨v, e, a, ys, r1, r2, r3⟩ := repL1 r
    subst e r1
    exact call_len pins s σ H _ us Q I rx ⟨_, ys.length, rfl, .inr ⟨ys, sqT_mono fz.up r2.sq, rfl⟩, k F H _ fz.refl (by rw [r3.len]; rfl)⟩
  · cases ez
    obtain ⟨v, e, a, ys, r1, r2, r3⟩ := repL1 r
    subst e r1
    exact call_len pins s σ H _ us Q I rx ⟨_, ys.length, rfl, .inl ⟨ys, .of (fz.up _ _ r2), rfl⟩, k F H _ fz.refl (by rw [r3.len]; rfl)⟩
  · rename_i ns
    cases ez
    obtain ⟨v, e, a, r1, r2⟩ := repL1 r
    subst e r1
    exact call_len pins s σ H _ us Q I rx ⟨_, ns.length, rfl, .inl ⟨_, fz.up.seq r2, by rw [List.length_map]⟩, k F H _ fz.refl rfl⟩
  · cases ez
def absD : List D → Option D
  | [.int i] => some (.int (if i < 0 then -i else i))
  | _ => none
theorem call_absX : CallR X (.builtin "abs") (cD X.K absD) := by
  intro pins s σ H xs us Q I rx h
  obtain ⟨F, ds, z, fz, r, ez, k⟩ := h
  unfold absD at ez
  split at ez
  · rename_i i
    cases ez
    obtain ⟨v, e, r1⟩ := repL1 r
    subst e
    cases r1
    exact call_abs pins s σ H _ us Q I rx ⟨i, rfl, k F H _ fz.refl rfl⟩
  · cases ez
def max2D : List D → Option D
  | [.int i, .int j] => some (.int (if j > i then j else i))
  | _ => none
def min2D : List D → Option D
  | [.int i, .int j] => some (.int (if j < i then j else i))
  | _ => none
theorem call_max2X (hc : X.calm = true) : CallR X (.builtin "max") (cD X.K max2D) := by
  intro pins s σ H xs us Q I rx h
  obtain ⟨F, ds, z, fz, r, ez, k⟩ := h
  unfold max2D at ez
  split at ez
  · rename_i i j
    cases ez
    obtain ⟨v, w, e, r1, r2⟩ := repL2 r
    subst e
    cases r1
    cases r2
    exact call_max2 hc pins s σ H _ us Q I rx ⟨i, j, rfl, k F H _ fz.refl rfl⟩
  · cases ez
theorem call_min2X (hc : X.calm = true) : CallR X (.builtin "min") (cD X.K min2D) := by
  intro pins s σ H xs us Q I rx h
  obtain ⟨F, ds, z, fz, r, ez, k⟩ := h
  unfold min2D at ez
  split at ez
  · rename_i i j
    cases ez
    obtain ⟨v, w, e, r1, r2⟩ := repL2 r
    subst e
    cases r1
    cases r2
    exact call_min2 hc pins s σ H _ us Q I rx ⟨i, j, rfl, k F H _ fz.refl rfl⟩
  · cases ez
def intD : List D → Option D
  | [.int i] => some (.int i)
  | [.bl b] => some (.int (if b then 1 else 0))
  | _ => none
theorem call_intX : CallR X (.type "int") (cD X.K intD) := by
  intro pins s σ H xs us Q I rx h
  obtain ⟨F, ds, z, fz, r, ez, k⟩ := h
  unfold intD at ez
  split at ez
  · rename_i i
    cases ez
    obtain ⟨v, e, r1⟩ := repL1 r
    subst e
    cases r1
    exact call_int1 pins s σ H _ us Q I rx (.inl ⟨i, rfl, k F H _ fz.refl rfl⟩)
  · rename_i b
    cases ez
    obtain ⟨v, e, r1⟩ := repL1 r
    subst e
    cases r1
    exact call_int1 pins s σ H _ us Q I rx (.inr ⟨b, rfl, k F H _ fz.refl rfl⟩)
  · cases ez
def boolD : List D → Option D
  | [.int i] => some (.bl (i != 0))
  | [.bl b] => some (.bl b)
  | _ => none
theorem call_boolX : CallR X (.type "bool") (cD X.K boolD) := by
  intro pins s σ H xs us Q I rx h
  obtain ⟨F, ds, z, fz, r, ez, k⟩ := h
  unfold boolD at ez
  split at ez
  · rename_i i
    cases ez
    obtain ⟨v, e, r1⟩ := repL1 r
    subst e
    cases r1
    exact call_bool1 pins s σ H _ us Q I rx (.inl ⟨i, rfl, k F H _ fz.refl rfl⟩)
  · rename_i b
    cases ez
    obtain ⟨v, e, r1⟩ := repL1 r
    subst e
    cases r1
    exact call_bool1 pins s σ H _ us Q I rx (.inr ⟨b, rfl, k F H _ fz.refl rfl⟩)
  · cases ez
/-- the signs of a text -/
def chars (z : Str) : List D := z.cps.toList.map fun c => .str ⟨#[c]⟩
/-- a call that makes a new list -/
def nD (K : PySem.W.Frag) (g : List D → Option (List D)) : List V → Hp → VK → Prop := fun xs H Q => ∃ F ds zs, Fz F H ∧ RepL K F ds xs ∧ g ds = some zs ∧ ∀ p vs, H p = none → RepL K F zs vs → Q (.ref p) (upd H p (.lst vs))
def listD : List D → Option (List D)
  | [.tup xs] => some xs
  | [.lst xs] => some xs
  | [.str z] => if z.length ≤ 100000 then some (chars z) else none
  | _ => none
theorem chars_rep {K : PySem.W.Frag} {F : Hp} (z : Str) : RepL K F (chars z) (z.cps.toList.map fun c => V.str ⟨#[c]⟩) := by
  unfold chars
  induction z.cps.toList with
  | nil => rfl
  | cons c r ih => exact ⟨_, _, rfl, rfl, ih⟩
theorem vals_at : ∀ {xs : List V} {us : List Value}, xs.length = us.length → (∀ (j : Nat) (x : V) (u : Value), xs[j]? = some x → us[j]? = some u → RelV x u) → Vals xs us
  | [], [], _, _ => .nil
  | x :: xs, u :: us, hl, h => .cons (h 0 x u rfl rfl) (vals_at (by simpa using hl) fun j x u a b => h (j + 1) x u (by simpa using a) (by simpa using b))
  | [], _ :: _, hl, _ => by cases hl
  | _ :: _, [], hl, _ => by cases hl
theorem call_listX (hc : X.calm = true) : CallR X (.type "list") (nD X.K listD) := by
  intro pins s σ H xs us Q I rx h
  obtain ⟨F, ds, zs, fz, r, ez, k⟩ := h
  unfold listD at ez
  split at ez
  · cases ez
    obtain ⟨v, e, a, ys, r1, r2, r3⟩ := repL1 r
    subst e r1
    exact call_list_of pins s σ H _ us Q I rx ⟨a, ys, rfl, .inr (sqT_mono fz.up r2.sq), fun p hp => k p ys hp r3⟩
  · cases ez
    obtain ⟨v, e, a, ys, r1, r2, r3⟩ := repL1 r
    subst e r1
    exact call_list_of pins s σ H _ us Q I rx ⟨a, ys, rfl, .inl (.of (fz.up _ _ r2)), fun p hp => k p ys hp r3⟩
  · rename_i z
    split at ez
    · rename_i hz
      cases ez
      obtain ⟨v, e, r1⟩ := repL1 r
      subst e
      cases r1
      obtain ⟨u, eu, ru⟩ := vals1 rx
      subst eu
      obtain ⟨t, eu⟩ := ru
      subst eu
      have hl : z.cps.size ≤ sizeLine := Nat.le_trans hz h100
      refine call_list_str (I.ok.hd hc) z t (fun h' tk acc' c' keep new items => ?_) hl
      have rv : Vals (z.cps.toList.map fun c => V.str ⟨#[c]⟩) acc'.toList := by
        refine vals_at ?_ fun j x u hx hu => ?_
        · rw [List.length_map, Array.length_toList, Array.length_toList, items.1]
        · obtain ⟨c, t, ec, eu⟩ := items.2 j u (by rw [← Array.getElem?_toList]; exact hu)
          rw [List.getElem?_map, Array.getElem?_toList, ec] at hx
          cases hx
          exact ⟨t, eu⟩
      refine ⟨.ref s.heap.objs.size, _, I.laid (t' := tk) (o := .lst (z.cps.toList.map fun c => V.str ⟨#[c]⟩)) keep (Nat.le_refl _) ⟨by rw [List.length_map, Array.length_toList]; exact hl, acc'.toList, c', rv, by simpa using new⟩, rfl, k _ _ (I.hok.fresh (Nat.le_refl _)) (chars_rep z)⟩
    · cases ez
  · cases ez
/-- isinstance(x, T) -/
def tyN : D → Option String
  | .non => some "NoneType"
  | .bl _ => some "bool"
  | .int _ => some "int"
  | .str _ => some "str"
  | .tup _ => some "tuple"
  | .lst _ => some "list"
  | .dct _ _ => some "dict"
  | _ => none
def isiT (a b : String) : Bool := a == b || (a == "bool" && b == "int")
def isiD : List D → Option D
  | [d, .rf (.ty b)] => match tyN d with
    | some a => if knTy b = true then some (.bl (isiT a b)) else none
    | none => none
  | _ => none
theorem kit_tab : (["NoneType", "bool", "int", "str", "tuple", "list", "dict"].all fun a => ["NoneType", "bool", "int", "str", "tuple", "list", "dict"].all fun b => kitB a b == some (isiT a b)) = true := by decide +kernel
theorem tyN_mem {d : D} {a : String} (h : tyN d = some a) : a ∈ ["NoneType", "bool", "int", "str", "tuple", "list", "dict"] := by
  cases d <;> first | (cases h; simp; done) | cases h
theorem knTy_mem {b : String} (h : knTy b = true) : b ∈ ["NoneType", "bool", "int", "str", "tuple", "list", "dict"] := by
  unfold knTy at h
  simp only [Bool.or_eq_true, beq_iff_eq] at h
  simp only [List.mem_cons, List.mem_nil_iff, or_false]
  rcases h with (((((h | h) | h) | h) | h) | h) | h <;> simp [h]
theorem kit_is {a b : String} (ha : a ∈ ["NoneType", "bool", "int", "str", "tuple", "list", "dict"]) (hb : b ∈ ["NoneType", "bool", "int", "str", "tuple", "list", "dict"]) : kitB a b = some (isiT a b) := by
  have h := List.all_eq_true.mp kit_tab a ha
  have h2 := List.all_eq_true.mp h b hb
  exact eq_of_beq h2
theorem tyX_of {H : Hp} {d : D} {x : V} {a : String} (h : tyN d = some a) (r : Rep X.K H d x) : TyX X.K H x (.type a) := by
  cases d with
  | non => cases h; cases r; exact .base .non
  | bl b => cases h; cases r; exact .base (.bl b)
  | int i => cases h; cases r; exact .base (.int i)
  | str z => cases h; cases r; exact .base (.str z)
  | tup ds =>
    cases h
    obtain ⟨p, ys, r1, r2, _⟩ := r
    subst r1
    rcases r2 with r2 | ⟨o, its, n, r2, r3, _⟩
    · exact .base (.tup r2)
    · exact .kTuple r2 r3
  | lst ds =>
    cases h
    obtain ⟨p, ys, r1, r2, _⟩ := r
    subst r1
    exact .base (.lst r2)
  | dct ks ds =>
    cases h
    obtain ⟨p, us, r1, r2, _⟩ := r
    subst r1
    exact .base (.dK r2)
  | rf w => cases h
  | scr w => cases h
theorem call_isiX : CallR X (.builtin "isinstance") (cD X.K isiD) := by
  intro pins s σ H xs us Q I rx h
  obtain ⟨F, ds, z, fz, r, ez, k⟩ := h
  unfold isiD at ez
  split at ez
  · rename_i d b
    cases ea : tyN d with
    | none => rw [ea] at ez; cases ez
    | some a =>
      rw [ea] at ez
      have ez : (if knTy b = true then some (D.bl (isiT a b)) else none) = some z := ez
      split at ez
      · rename_i hk
        cases ez
        obtain ⟨v, w, e, r1, r2⟩ := repL2 r
        subst e
        have r2 : w = .ty b := r2
        subst r2
        exact call_isi pins s σ H _ us Q I rx ⟨v, .ty b, _, _, _, rfl, .ty b, tyX_of ea (r1.mono fz.up), kit_ty (kit_is (tyN_mem ea) (knTy_mem hk)), k F H _ fz.refl rfl⟩
      · cases ez
  · cases ez
def typeD : List D → Option D
  | [d] => (tyN d).map fun a => .rf (.ty a)
  | _ => none
theorem call_typeX : CallR X (.type "type") (cD X.K typeD) := by
  intro pins s σ H xs us Q I rx h
  obtain ⟨F, ds, z, fz, r, ez, k⟩ := h
  unfold typeD at ez
  split at ez
  · rename_i d
    cases ea : tyN d with
    | none => rw [ea] at ez; cases ez
    | some a =>
      rw [ea] at ez
      cases ez
      obtain ⟨v, e, r1⟩ := repL1 r
      subst e
      obtain ⟨u, eu, ru⟩ := vals1 rx
      subst eu
      have hT : s.TypeIs u a ∧ (Value.type a == Value.type "builtin_function_or_method") = false := by
        have r1 := r1.mono fz.up
        cases d with
        | non => cases ea; cases r1; cases ru; exact ⟨rfl, by decide +kernel⟩
        | bl b => cases ea; cases r1; cases ru; exact ⟨rfl, by decide +kernel⟩
        | int i => cases ea; cases r1; obtain ⟨t, rfl⟩ := ru; exact ⟨rfl, by decide +kernel⟩
        | str i => cases ea; cases r1; obtain ⟨t, rfl⟩ := ru; exact ⟨rfl, by decide +kernel⟩
        | tup es => cases ea; obtain ⟨p, ys, q1, q2, _⟩ := r1; subst q1; cases ru; obtain ⟨its, _, o, h1, h2, _⟩ := tup_is I q2; exact ⟨⟨o, h1, h2⟩, by decide +kernel⟩
        | lst es => cases ea; obtain ⟨p, ys, q1, q2, _⟩ := r1; subst q1; cases ru; obtain ⟨its, _, h⟩ := lst_is I q2; exact ⟨h.typeIs, by decide +kernel⟩
        | dct ks es => cases ea; obtain ⟨p, us, q1, q2, _⟩ := r1; subst q1; cases ru; obtain ⟨_, _, vs, _, q⟩ := (show ObjOk X.prog X.w H s.heap p (.dK us) from I.hok p _ q2); exact ⟨q.typeIs, by decide +kernel⟩
        | rf w => cases ea
        | scr w => cases ea
      exact call_type_of hT.1 hT.2 ⟨.ty a, H, I, rfl, k F H _ fz.refl rfl⟩
  · cases ez
end
end Pl
namespace Pl
open PySem PySem.Spec PyProof.Rows L2
variable {α β γ : Type} {c : Cn} {E : WX} {np : Nat}
/-! ## lists of the frame's own, read and written; what a for goes over -/
theorem isOwn_at {ρ : Env} {i : Nat} (h : isOwn ρ i = true) : ∃ s, ρ[i]? = some s ∧ s.own = true := by
  unfold isOwn at h
  cases e : ρ[i]? with
  | none => rw [e] at h; cases h
  | some s => rw [e] at h; exact ⟨s, rfl, h⟩
def atD (ds : List D) : D → Option D
  | .int k => atI ds k
  | .bl b => atI ds (if b = true then 1 else 0)
  | _ => none
def atO (ds : List D) : D → Option D
  | .int k => atI ds k
  | _ => none
/-- x[e], x a list of the frame's own -/
def eIxO (i : Nat) (b : M D) : M D := fun ρ => if isOwn ρ i = true then (b.bind fun e ρ => match ρ[i]? with
  | some (.o ds) => M.lift (atO ds e) ρ
  | _ => .bad) ρ else .bad
theorem ex_ixO {i : Nat} {tb : TE} {fb : M D} (hb : Ex c E tb fb) : Ex c E (tOp (rIx c.K) (tVar i) tb) (eIxO i fb) := by
  intro W F H σ ρ Q R h
  unfold eIxO at h
  split at h
  · rename_i ho
    obtain ⟨s, e, so⟩ := isOwn_at ho
    obtain ⟨p, a, _, _⟩ := (R.here i s e).own so
    refine ⟨.ref p, a, hb W F H σ ρ _ R ((h.bind (Rep c.K)).mono fun y H2 ⟨d, ρ2, F2, R2, s2, r2, h2⟩ => ?_)⟩
    revert h2
    cases e2 : ρ2[i]? with
    | none => exact fun h2 => h2.elim
    | some s' =>
      cases s' with
      | o ds =>
        intro h2
        obtain ⟨z, ez, k⟩ := Post.lift h2
        obtain ⟨p', a', ⟨vs, hp, rv, _⟩, _⟩ := R2.here i _ e2
        rw [a] at a'
        cases a'
        cases d with
        | int j =>
          obtain ⟨v, ev, rz⟩ := atI_rep rv ez
          obtain rfl : y = .int j := r2
          exact .inl ⟨p, vs, j, v, rfl, rfl, .of hp, ev, k F2 H2 v R2 (Same.refl _) rz⟩
        | _ => cases ez
      | _ => exact fun h2 => h2.elim
  · exact h.elim
/-- x.append(e) -/
def sApp (i : Nat) (f : M D) : S := fun ρ => if isOwn ρ i = true then (f.bind fun d ρ => match ρ[i]? with
  | some (.o ds) => if ds.length < 100000 then .ok .nx (ρ.set i (.o (ds ++ [d]))) else .bad
  | _ => .bad) ρ else .bad
/-- x is a list of the frame's own here -/
def isLs (ρ : Env) (i : Nat) : Bool := match ρ[i]? with
  | some (.o _) => true
  | _ => false
theorem isLs_at {ρ : Env} {i : Nat} (h : isLs ρ i = true) : ∃ ds, ρ[i]? = some (.o ds) := by
  unfold isLs at h
  cases e : ρ[i]? with
  | none => rw [e] at h; cases h
  | some s =>
    cases s with
    | o ds => exact ⟨ds, rfl⟩
    | _ => rw [e] at h; cases h
def sAppL (i : Nat) (f : M D) : S := fun ρ => if isLs ρ i = true then (f.bind fun d ρ => match ρ[i]? with
  | some (.o ds) => if ds.length < 100000 then .ok .nx (ρ.set i (.o (ds ++ [d]))) else .bad
  | _ => .bad) ρ else .bad
theorem h100' {n : Nat} (h : n < 100000) : n < sizeLine := Nat.lt_of_lt_of_le h h100
theorem sx_app {i : Nat} {te : TE} {f : M D} (he : Ex c E te f) : Sx c E np (tDrop (tBM c.K "list" rAppend (tVar i) (tCons te tNil))) (sAppL i f) := by
  intro W F H σ ρ D hn R h
  unfold sAppL at h
  split at h
  · rename_i ho
    obtain ⟨ds0, e⟩ := isLs_at ho
    obtain ⟨p, a, ⟨vs0, hp0, _, _⟩, _⟩ := R.here i _ e
    refine ⟨.ref p, a, .inl ⟨rfl, vs0, .of hp0⟩, he W F H σ ρ _ R ((h.bind (Rep c.K)).mono fun y H2 ⟨d, ρ2, F2, R2, s2, r2, h2⟩ => ?_)⟩
    revert h2
    cases e2 : ρ2[i]? with
    | none => exact fun h2 => h2.elim
    | some s' =>
      cases s' with
      | o ds =>
        intro h2
        have h2 : SPost c W F2 E D (if ds.length < 100000 then .ok .nx (ρ2.set i (.o (ds ++ [d]))) else .bad) := h2
        split at h2
        · rename_i hl
          obtain ⟨p', a', ⟨vs, hp, rv, fp⟩, _⟩ := R2.here i _ e2
          rw [a] at a'
          cases a'
          refine ⟨p, vs, y, rfl, rfl, hp, by rw [← rv.len]; exact h100' hl, ?_⟩
          exact h2 F2 _ σ (R2.put e2 rfl a ⟨vs ++ [y], upd_same, rv.app (.cons r2 .nil), fp⟩) (Same.refl _)
        · exact h2.elim
      | _ => exact fun h2 => h2.elim
  · exact h.elim
/-- x[e] = v -/
def sSetO (i : Nat) (fk f : M D) : S := f.bind fun d ρ => if isOwn ρ i = true then (fk.bind fun k ρ => match ρ[i]?, k with
  | some (.o ds), .int k => match ixN ds.length k with
    | some j => .ok .nx (ρ.set i (.o (ds.set j d)))
    | none => .bad
  | _, _ => .bad) ρ else .bad
theorem sx_setO {i : Nat} {te tk : TE} {f fk : M D} (he : Ex c E te f) (hk : Ex c E tk fk) : Sx c E np (tAsg te (gSub (tVar i) tk rSetL)) (sSetO i fk f) := by
  intro W F H σ ρ D hn R h
  refine he W F H σ ρ _ R ((h.bind (Rep c.K)).mono fun v H1 ⟨d, ρ1, F1, R1, s1, r1, h1⟩ => ?_)
  have h1 : SPost c W F1 E D (if isOwn ρ1 i = true then (fk.bind fun k ρ => match ρ[i]?, k with
    | some (.o ds), .int k => match ixN ds.length k with
      | some j => .ok .nx (ρ.set i (.o (ds.set j d)))
      | none => .bad
    | _, _ => .bad) ρ1 else .bad) := h1
  split at h1
  · rename_i ho
    obtain ⟨s, e, so⟩ := isOwn_at ho
    obtain ⟨p, a, _, _⟩ := (R1.here i s e).own so
    refine ⟨.ref p, a, hk W F1 H1 σ ρ1 _ R1 ((SPost.bind (Rep c.K) h1).mono fun y H2 ⟨k, ρ2, F2, R2, s2, r2, h2⟩ => ?_)⟩
    revert h2
    cases e2 : ρ2[i]? with
    | none => exact fun h2 => h2.elim
    | some s' =>
      cases s' with
      | o ds =>
        cases k with
        | int k =>
          intro h2
          have h2 : SPost c W F2 E D (match ixN ds.length k with
            | some j => .ok .nx (ρ2.set i (.o (ds.set j d)))
            | none => .bad) := h2
          cases ej : ixN ds.length k with
          | none => rw [ej] at h2; exact h2.elim
          | some j =>
            rw [ej] at h2
            obtain ⟨p', a', ⟨vs, hp, rv, fp⟩, _⟩ := R2.here i _ e2
            rw [a] at a'
            cases a'
            obtain rfl : y = .int k := r2
            refine ⟨p, vs, k, j, rfl, rfl, hp, by rw [← rv.len]; exact ej, ?_⟩
            exact h2 F2 _ σ (R2.put e2 rfl a ⟨vs.set j v, upd_same, rv.set j (r1.mono s2), fp⟩) (Same.refl _)
        | _ => exact fun h2 => h2.elim
      | _ => cases k <;> exact fun h2 => h2.elim
  · exact h1.elim
/-- from here on x does not change any more -/
def sFz (i : Nat) (g : S) : S := fun ρ => match (ρ[i]?).bind frz with
  | some d => g (ρ.set i (.d d))
  | none => .bad
theorem sx_fz {i : Nat} {t : TS} {g : S} (hi : np ≤ i) (h : Sx c E np t g) : Sx c E np t (sFz i g) := by
  intro W F H σ ρ D hn R q
  unfold sFz at q
  cases e : ρ[i]? with
  | none => rw [e] at q; exact q.elim
  | some s =>
    rw [e] at q
    have q : SPost c W F E D (match frz s with | some d => g (ρ.set i (.d d)) | none => .bad) := q
    cases ed : frz s with
    | none => rw [ed] at q; exact q.elim
    | some d =>
      rw [ed] at q
      obtain ⟨F', s', R'⟩ := R.freeze (by rw [hn]; exact hi) e ed
      exact h W F' H σ _ D hn R' (q.up s')
/-- a, b = x, y -/
def sPar (i j : Nat) (f : M (List D)) : S := f.bind fun ds ρ => match ds with
  | [d, e] => .ok .nx ((ρ.set i (.d d)).set j (.d e))
  | _ => .bad
theorem sx_par {i j : Nat} {ta : TA} {f : M (List D)} (ha : Ax c E ta f) : Sx c E np (tPar i j ta) (sPar i j f) := by
  intro W F H σ ρ D hn R h
  refine ha W F H σ ρ _ R ((h.bind (RepL c.K)).mono fun vs H1 ⟨ds, ρ1, F1, R1, s1, r1, h1⟩ => ?_)
  revert h1
  match ds with
  | [d, e] =>
    intro h1
    obtain ⟨v, w, rfl, rv, rw'⟩ := repL2 r1
    exact ⟨v, w, rfl, h1 F1 H1 _ ((R1.store rv i).store rw' j) (Same.refl _)⟩
  | [] => exact fun h1 => h1.elim
  | [_] => exact fun h1 => h1.elim
  | _ :: _ :: _ :: _ => exact fun h1 => h1.elim
theorem gx_lst {n : Nat} {gs : TGs} {is : List Nat} {gds : List D → Env → Option Env} (h : Gxs c gs is gds) : Gx c (gLst c.K n gs) is (lstD n gds) := by
  intro W F H σ ρ d v ρ' Q R r e k
  cases d with
  | lst ds =>
    obtain ⟨a, xs, e1, e2, e3⟩ := r
    have e : (if ds.length = n then gds ds ρ else none) = some ρ' := e
    split at e
    · rename_i hl
      exact ⟨a, xs, e1, .of (R.sub _ _ e2), by rw [← e3.len]; exact hl, h W F H σ ρ ds xs ρ' Q R e3 e k⟩
    · cases e
  | _ => cases e
/-! ### new lists of built-ins -/
def eN (g : List D → Option (List D)) (a : M (List D)) : M (List D) := a.bind fun xs => M.lift (g xs)
theorem ef_n {g : List D → Option (List D)} {tA : TA} {fA : M (List D)} (ha : Ax c E tA fA) : Ef c E (tCB (nD c.K g) tA) (eN g fA) := by
  intro W F H σ ρ Q R h
  refine ha W F H σ ρ _ R ((h.bind (RepL c.K)).mono fun vs H1 ⟨ds, ρ1, F1, R1, s1, r1, h1⟩ => ?_)
  cases e : g ds with
  | none => rw [e] at h1; exact h1.elim
  | some zs =>
    rw [e] at h1
    refine ⟨F1, ds, zs, R1.fz, r1, e, fun p vs hp r => ?_⟩
    obtain ⟨R2, fr⟩ := R1.lay hp r
    exact h1 F1 _ p R2 (Same.refl _) fr
/-! ### what a for goes over -/
def asLst : D → Option (List D)
  | .lst ds => some ds
  | _ => none
def asTup : D → Option (List D)
  | .tup ds => some ds
  | _ => none
def asStr : D → Option (List D)
  | .str z => some (z.cps.toList.map fun q => .str ⟨#[q]⟩)
  | _ => none
def itBy (g : D → Option (List D)) (f : M D) : M (List D) := f.bind fun d => M.lift (g d)
theorem walk_D {K : PySem.W.Frag} {J : It} {F : Hp} {ds : List D} {n : Nat} {G : Hp → Prop} {Y : Nat → Hp → V → Hp → Prop} (w : L2.Walk J n G Y) (hn : ds.length = n) (hG : ∀ H, Same F H → G H)
    (hY : ∀ i H x H', Same F H → i < n → Y i H x H' → ∃ d, ds[i]? = some d ∧ ((H' = H ∧ Rep K F d x) ∨ ∃ (T : Addr) (vs : List V) (es : List D), H T = none ∧ H' = upd H T (.tup vs) ∧ x = .ref T ∧ d = .tup es ∧ RepL K F es vs)) (hst : ∀ i H, J.stop n H → n ≤ i → J.stop i H) : WalkD K J F ds :=
  ⟨fun i H s h => hst i H (w.stops H (hG H s)) (by omega), fun i H s h => w.goes i H (by omega) (hG H s), fun i H x H' s h y => hY i H x H' s (by omega) (w.yields i H x H' (by omega) (hG H s) y)⟩
section
variable {tl : TE} {f : M D} {tA : TA} {fA : M (List D)}
theorem ix_list (hl : Ex c E tl f) : Ix c E (iList c.K tl) (itBy asLst f) := by
  intro W F H σ ρ Q R h
  refine hl W F H σ ρ _ R ((h.bind (Rep c.K)).mono fun v H1 ⟨d, ρ1, F1, R1, s1, r1, h1⟩ => ?_)
  obtain ⟨ds, e, k⟩ := Post.lift h1
  cases d with
  | lst es =>
    cases e
    obtain ⟨a, xs, rfl, h2, h3⟩ := r1
    refine ⟨a, rfl, ⟨xs, .of (R1.sub _ _ h2)⟩, k F1 H1 _ R1 (Same.refl _) ?_⟩
    refine walk_D (L2.walk_list (K := c.K) (a := a) (xs := xs)) h3.len (fun H s => .of (s _ _ h2)) (fun i H x H' s hi ⟨e1, e2⟩ => ?_) fun i H ⟨ys, q, hle⟩ hi => ⟨ys, q, Nat.le_trans hle hi⟩
    obtain ⟨d, e3, r⟩ := h3.of_get e2
    exact ⟨d, e3, .inl ⟨e1, r⟩⟩
  | _ => cases e
theorem ix_tup' (hl : Ex c E tl f) : Ix c E (iTup c.K tl) (itBy asTup f) := by
  intro W F H σ ρ Q R h
  refine hl W F H σ ρ _ R ((h.bind (Rep c.K)).mono fun v H1 ⟨d, ρ1, F1, R1, s1, r1, h1⟩ => ?_)
  obtain ⟨ds, e, k⟩ := Post.lift h1
  cases d with
  | tup es =>
    cases e
    obtain ⟨a, xs, rfl, h2, h3⟩ := r1
    refine ⟨a, rfl, ⟨xs, sqT_mono R1.sub h2.sq⟩, k F1 H1 _ R1 (Same.refl _) ?_⟩
    refine walk_D (L2.walk_tup (K := c.K) (a := a) (xs := xs)) h3.len (fun H s => sqT_mono s h2.sq) (fun i H x H' s hi ⟨e1, e2⟩ => ?_) fun i H ⟨ys, q, hle⟩ hi => ⟨ys, q, Nat.le_trans hle hi⟩
    obtain ⟨d, e3, r⟩ := h3.of_get e2
    exact ⟨d, e3, .inl ⟨e1, r⟩⟩
  | _ => cases e
theorem ix_str' (hl : Ex c E tl f) : Ix c E (iStr tl) (itBy asStr f) := by
  intro W F H σ ρ Q R h
  refine hl W F H σ ρ _ R ((h.bind (Rep c.K)).mono fun v H1 ⟨d, ρ1, F1, R1, s1, r1, h1⟩ => ?_)
  obtain ⟨ds, e, k⟩ := Post.lift h1
  cases d with
  | str z =>
    cases e
    obtain rfl : v = .str z := r1
    refine ⟨z, rfl, k F1 H1 _ R1 (Same.refl _) ?_⟩
    refine walk_D (L2.walk_str (z := z)) (by rw [List.length_map, Array.length_toList]) (fun _ _ => trivial) (fun i H x H' s hi ⟨e1, q, e2, e3⟩ => ?_) fun i H hle hi => Nat.le_trans (show _ ≤ _ from hle) hi
    refine ⟨.str ⟨#[q]⟩, ?_, .inl ⟨e1, e3⟩⟩
    rw [List.getElem?_map, Array.getElem?_toList, e2]
    rfl
  | _ => cases e
def rng1D : List D → Option (List D)
  | [.int j] => if -(2 ^ 62) ≤ j ∧ j < 2 ^ 62 then some ((List.range j.toNat).map fun k => .int (k : Nat)) else none
  | _ => none
def rng2D : List D → Option (List D)
  | [.int i, .int j] => if -(2 ^ 62) ≤ i ∧ i < 2 ^ 62 ∧ -(2 ^ 62) ≤ j ∧ j < 2 ^ 62 then some ((List.range (j - i).toNat).map fun k => .int (i + (k : Nat))) else none
  | _ => none
def itBs (g : List D → Option (List D)) (f : M (List D)) : M (List D) := f.bind fun ds => M.lift (g ds)
theorem walk_rng {K : PySem.W.Frag} {F : Hp} {i : Int} {n : Nat} : WalkD K (Itr i n) F ((List.range n).map fun k => .int (i + (k : Nat))) := by
  refine walk_D (L2.walk_range (lo := i) (n := n)) (by rw [List.length_map, List.length_range]) (fun _ _ => trivial) (fun j H x H' s hj ⟨e1, e2⟩ => ?_) fun _ _ hle hi => Nat.le_trans (show _ ≤ _ from hle) hi
  refine ⟨.int (i + (j : Nat)), ?_, .inl ⟨e1, e2⟩⟩
  rw [List.getElem?_map, List.getElem?_range hj]
  rfl
theorem ix_rng1 (ha : Ax c E tA fA) : Ix c E (iRng1 tA) (itBs rng1D fA) := by
  intro W F H σ ρ Q R h
  refine ha W F H σ ρ _ R ((h.bind (RepL c.K)).mono fun vs H1 ⟨ds, ρ1, F1, R1, s1, r1, h1⟩ => ?_)
  obtain ⟨zs, e, k⟩ := Post.lift h1
  unfold rng1D at e
  split at e
  · rename_i j
    split at e
    · rename_i hj
      obtain ⟨v, rfl, rv⟩ := repL1 r1
      obtain rfl : v = .int j := rv
      cases e
      refine ⟨j, rfl, hj.1, hj.2, k F1 H1 _ R1 (Same.refl _) ?_⟩
      have w := walk_rng (K := c.K) (F := F1) (i := 0) (n := j.toNat)
      simp only [Int.zero_add] at w
      exact w
    · cases e
  · cases e
theorem ix_rng2 (ha : Ax c E tA fA) : Ix c E (iRng2 tA) (itBs rng2D fA) := by
  intro W F H σ ρ Q R h
  refine ha W F H σ ρ _ R ((h.bind (RepL c.K)).mono fun vs H1 ⟨ds, ρ1, F1, R1, s1, r1, h1⟩ => ?_)
  obtain ⟨zs, e, k⟩ := Post.lift h1
  unfold rng2D at e
  split at e
  · rename_i i j
    split at e
    · rename_i hj
      obtain ⟨v, w, rfl, rv, rw'⟩ := repL2 r1
      obtain rfl : v = .int i := rv
      obtain rfl : w = .int j := rw'
      cases e
      exact ⟨i, j, rfl, hj, k F1 H1 _ R1 (Same.refl _) walk_rng⟩
    · cases e
  · cases e
def numbered (ds : List D) : List D := (List.range ds.length).map fun k => .tup [.int (k : Nat), ds.getD k .non]
def enumD : List D → Option (List D)
  | [.lst ds] => some (numbered ds)
  | _ => none
theorem getD_of {ds : List D} {i : Nat} {d : D} (e : ds[i]? = some d) : ds.getD i .non = d := by
  rw [List.getD_eq_getElem?_getD, e]
  rfl
theorem ix_enum (ha : Ax c E tA fA) : Ix c E (iEnum c.K tA) (itBs enumD fA) := by
  intro W F H σ ρ Q R h
  refine ha W F H σ ρ _ R ((h.bind (RepL c.K)).mono fun vs H1 ⟨ds, ρ1, F1, R1, s1, r1, h1⟩ => ?_)
  obtain ⟨zs, e, k⟩ := Post.lift h1
  unfold enumD at e
  split at e
  · rename_i es
    obtain ⟨v, rfl, a, xs, rfl, h2, h3⟩ := repL1 r1
    cases e
    refine ⟨a, xs, rfl, .of (R1.sub _ _ h2), k F1 H1 _ R1 (Same.refl _) ?_⟩
    refine walk_D (L2.walk_enum (K := c.K) (a := a) (xs := xs)) (by unfold numbered; rw [List.length_map, List.length_range, h3.len]) (fun H s => .of (s _ _ h2)) (fun i H x H' s hi ⟨T, y, z, e1, e2, e3, e4, e5⟩ => ?_) fun i H ⟨ys, q, hle⟩ hi => ⟨ys, q, Nat.le_trans hle hi⟩
    cases e4
    obtain ⟨d, e6, r⟩ := h3.of_get e5
    refine ⟨.tup [.int (i : Nat), d], ?_, .inr ⟨T, _, _, e2, e3, e1, rfl, .cons rfl (.cons r .nil)⟩⟩
    unfold numbered
    rw [List.getElem?_map, List.getElem?_range (by rw [h3.len]; exact hi)]
    show some (D.tup [.int (i : Nat), es.getD i .non]) = _
    rw [getD_of e6]
  · cases e
def paired (ds es : List D) : List D := (List.range (min ds.length es.length)).map fun k => .tup [ds.getD k .non, es.getD k .non]
def zipD : List D → Option (List D)
  | [.lst ds, .lst es] => some (paired ds es)
  | _ => none
theorem ix_zip (ha : Ax c E tA fA) : Ix c E (iZip c.K tA) (itBs zipD fA) := by
  intro W F H σ ρ Q R h
  refine ha W F H σ ρ _ R ((h.bind (RepL c.K)).mono fun vs H1 ⟨ds, ρ1, F1, R1, s1, r1, h1⟩ => ?_)
  obtain ⟨zs, e, k⟩ := Post.lift h1
  unfold zipD at e
  split at e
  · rename_i ds es
    obtain ⟨v, w, rfl, ⟨a, xs, rfl, h2, h3⟩, ⟨b, ys, rfl, h4, h5⟩⟩ := repL2 r1
    cases e
    refine ⟨a, b, xs, ys, rfl, .of (R1.sub _ _ h2), .of (R1.sub _ _ h4), k F1 H1 _ R1 (Same.refl _) ?_⟩
    refine walk_D (L2.walk_zip (K := c.K) (a := a) (b := b) (xs := xs) (ys := ys) rfl) (by unfold paired; rw [List.length_map, List.length_range, h3.len, h5.len]) (fun H s => ⟨.of (s _ _ h2), .of (s _ _ h4)⟩) (fun i H x H' s hi ⟨T, y, z, e1, e2, e3, e4, e5⟩ => ?_) fun i H ⟨x1, x2, q1, q2, hle⟩ hi => ⟨x1, x2, q1, q2, by omega⟩
    obtain ⟨d, e6, r⟩ := h3.of_get e4
    obtain ⟨d', e7, r'⟩ := h5.of_get e5
    refine ⟨.tup [d, d'], ?_, .inr ⟨T, _, _, e2, e3, e1, rfl, .cons r (.cons r' .nil)⟩⟩
    unfold paired
    rw [List.getElem?_map, List.getElem?_range (by rw [h3.len, h5.len]; exact hi)]
    show some (D.tup [ds.getD i .non, es.getD i .non]) = _
    rw [getD_of e6, getD_of e7]
  · cases e
def revD : List D → Option (List D)
  | [.lst ds] => some ds.reverse
  | _ => none
theorem ix_rev (ha : Ax c E tA fA) : Ix c E (iRev c.K tA) (itBs revD fA) := by
  intro W F H σ ρ Q R h
  refine ha W F H σ ρ _ R ((h.bind (RepL c.K)).mono fun vs H1 ⟨ds, ρ1, F1, R1, s1, r1, h1⟩ => ?_)
  obtain ⟨zs, e, k⟩ := Post.lift h1
  unfold revD at e
  split at e
  · rename_i es
    obtain ⟨v, rfl, a, xs, rfl, h2, h3⟩ := repL1 r1
    cases e
    refine ⟨a, xs, rfl, .of (R1.sub _ _ h2), k F1 H1 _ R1 (Same.refl _) ?_⟩
    refine walk_D (L2.walk_rev (K := c.K) (a := a) (xs := xs)) (by rw [List.length_reverse, h3.len]) (fun H s => .of (s _ _ h2)) (fun i H x H' s hi ⟨e1, e2⟩ => ?_) fun i H q hi => Nat.le_trans (show _ ≤ _ from q) hi
    obtain ⟨d, e6, r⟩ := h3.of_get e2
    refine ⟨d, ?_, .inl ⟨e1, r⟩⟩
    rw [List.getElem?_reverse (by rw [h3.len]; exact hi), h3.len]
    exact e6
  · cases e
end
end Pl
namespace Pl
open PySem PySem.Spec PyProof.Rows L2
variable {α β γ : Type} {c : Cn} {E : WX} {np : Nat}
/-! ## the module's constants; index; max with a default -/
theorem ex_tab {r : R2} {a : Addr} {tb : TE} {fb : M D} {look : D → Option D} (hb : Ex c E tb fb) (hr : ∀ (F H : Hp) (d e : D) (y : V) (Q : VK), Rep c.K F d y → look d = some e → (∀ v, (∀ F', Rep c.K F' e v) → Q v H) → r (.ref a) y H Q) : Ex c E (tOp r (tC (.ref a)) tb) (eUn look fb) := by
  intro W F H σ ρ Q R h
  refine hb W F H σ ρ _ R ((h.bind (Rep c.K)).mono fun y H2 ⟨d, ρ2, F2, R2, s2, r2, h2⟩ => ?_)
  obtain ⟨z, e, k⟩ := Post.lift h2
  exact hr F2 H2 d z y Q r2 e fun v rv => k F2 H2 v R2 (Same.refl _) (rv F2)
/-- a written dict with whole numbers as keys -/
def rKI (K : PySem.W.Frag) : R2 := fun x y H Q => ∃ (p : Addr) (i : Int) (es : Array DictEntry) (n : Nat) (u : Value) (v : V), x = .ref p ∧ y = .int i ∧ K.lookup p = some ⟨.type "dict", none, .dict es n, #[]⟩ ∧ (∀ e ∈ es, ∃ k t, e.key = Value.int k t ∧ e.hash = hashInt k) ∧ findBy Value.isInt es i = some u ∧ RelV v u ∧ Q v H
theorem ix_kint {X : Cx} : IxR X (rKI X.K) := by
  intro value slice pins s σ H x y v u Q I rx ry h hs
  obtain ⟨p, i, es, n, w, z, rfl, rfl, hl, hk, hf, rz, q⟩ := h
  obtain rfl : v = Value.ref p := rx
  obtain ⟨t, rfl⟩ := ry
  have m : s.heap.MapOf (intKind X.prog X.w) p (fun k => findBy Value.isInt es k) := by
    refine ⟨_, es, n, I.kIn _ _ hl, ⟨rfl, rfl, rfl⟩, rfl, fun e he => ?_, fun _ => rfl⟩
    obtain ⟨k, t, h1, h2⟩ := hk e he
    exact ⟨k, by rw [h1]; exact intKind_is X.prog X.w k t, h2⟩
  exact tail_any m.typeIs slot_dict_getitem.lookup (wpAny_getItem_of (intKind_is X.prog X.w i t) m hf ⟨z, H, I.tok _, rz, q⟩) hs
/-- the tables of the module -/
structure TabI (K : PySem.W.Frag) (a : Addr) (tab : List (Int × D)) : Prop where
  ex : ∃ es n, K.lookup a = some ⟨.type "dict", none, .dict es n, #[]⟩ ∧ (∀ e ∈ es, ∃ k t, e.key = Value.int k t ∧ e.hash = hashInt k) ∧ ∀ i d, tab.lookup i = some d → ∃ u v, findBy Value.isInt es i = some u ∧ RelV v u ∧ ∀ F, Rep K F d v
structure TabS (K : PySem.W.Frag) (w : World) (a : Addr) (tab : List (Str × D)) : Prop where
  ex : ∃ es n, KDict K w a es n
  at_ : ∀ z d, tab.lookup z = some d → ∃ u v, PySem.W.nsIn K a z = some (some u) ∧ RelV v u ∧ ∀ F, Rep K F d v
  no : ∀ z, tab.lookup z = none → PySem.W.nsIn K a z = some none
def lookI (tab : List (Int × D)) : D → Option D
  | .int i => tab.lookup i
  | _ => none
def lookS (tab : List (Str × D)) : D → Option D
  | .str z => tab.lookup z
  | _ => none
def inS (tab : List (Str × D)) : D → Option D
  | .str z => some (.bl (tab.lookup z).isSome)
  | _ => none
theorem ex_tabI {a : Addr} {tab : List (Int × D)} {tb : TE} {fb : M D} (T : TabI c.K a tab) (hb : Ex c E tb fb) : Ex c E (tOp (rKI c.K) (tC (.ref a)) tb) (eUn (lookI tab) fb) := ex_tab hb fun F H d e y Q r hl k => by
  cases d with
  | int i =>
    obtain ⟨es, n, h1, h2, h3⟩ := T.ex
    obtain ⟨u, v, h4, h5, h6⟩ := h3 i e hl
    obtain rfl : y = .int i := r
    exact ⟨a, i, es, n, u, v, rfl, rfl, h1, h2, h4, h5, k v h6⟩
  | _ => cases hl
theorem ex_tabS {w : World} {a : Addr} {tab : List (Str × D)} {tb : TE} {fb : M D} (T : TabS c.K w a tab) (hb : Ex c E tb fb) : Ex c E (tOp (rIxD c.K w) (tC (.ref a)) tb) (eUn (lookS tab) fb) := ex_tab hb fun F H d e y Q r hl k => by
  cases d with
  | str z =>
    obtain ⟨es, n, D⟩ := T.ex
    obtain ⟨u, v, h4, h5, h6⟩ := T.at_ z e hl
    obtain rfl : y = .str z := r
    exact ⟨a, z, v, rfl, rfl, ⟨es, n, u, D.at_, D.lit, h4, h5⟩, k v h6⟩
  | _ => cases hl
/-- x in d, d a written dict with texts as keys -/
def rInK (K : PySem.W.Frag) (w : World) : R2 := fun x y H Q => ∃ (d : Addr) (es : Array DictEntry) (n : Nat) (z : Str) (r : Option Value), x = .str z ∧ y = .ref d ∧ KDict K w d es n ∧ PySem.W.nsIn K d z = some r ∧ Q (.bl r.isSome) H
theorem op_inK {X : Cx} : OpR X (compareOp .In) (rInK X.K X.w) := by
  intro pins s σ H x y v u Q I rx ry h
  obtain ⟨d, es, n, z, r, e1, e2, D, e3, q⟩ := h
  exact op_in_kd D pins s σ H x y v u Q I rx ry ⟨z, r, e1, e2, e3, q⟩
theorem ex_inS {w : World} {a : Addr} {tab : List (Str × D)} {ta : TE} {fa : M D} (T : TabS c.K w a tab) (ha : Ex c E ta fa) : Ex c E (tOp (rInK c.K w) ta (tC (.ref a))) (eUn (inS tab) fa) := by
  intro W F H σ ρ Q R h
  refine ha W F H σ ρ _ R ((h.bind (Rep c.K)).mono fun y H2 ⟨d, ρ2, F2, R2, s2, r2, h2⟩ => ?_)
  obtain ⟨z, e, k⟩ := Post.lift h2
  cases d with
  | str x =>
    obtain ⟨es, n, D⟩ := T.ex
    obtain rfl : y = .str x := r2
    cases e
    have fin : ∀ b : Bool, (tab.lookup x).isSome = b → Q (.bl b) H2 := fun b e => by
      refine k F2 H2 (.bl b) R2 (Same.refl _) ?_
      rw [e]
      rfl
    cases hl : tab.lookup x with
    | none => exact ⟨a, es, n, x, none, rfl, rfl, D, T.no x hl, fin _ (by rw [hl] <;> rfl)⟩
    | some d =>
      obtain ⟨u, v, h4, h5, h6⟩ := T.at_ x d hl
      exact ⟨a, es, n, x, some u, rfl, rfl, D, h4, fin _ (by rw [hl] <;> rfl)⟩
  | _ => cases e
/-! ### index -/
def strsOf : List D → Option (List Str)
  | [] => some []
  | .str z :: r => (strsOf r).map (z :: ·)
  | _ :: _ => none
theorem strs_rep {K : PySem.W.Frag} {F : Hp} : ∀ {ds : List D} {ys : List Str} {vs : List V}, strsOf ds = some ys → RepL K F ds vs → vs = ys.map V.str
  | [], ys, vs, e, r => by
    cases e
    exact r
  | d :: ds, ys, vs, e, r => by
    cases d with
    | str z =>
      have e : (strsOf ds).map (z :: ·) = some ys := e
      cases e2 : strsOf ds with
      | none => rw [e2] at e; cases e
      | some zs =>
        rw [e2] at e
        cases e
        obtain ⟨v, us, rfl, rv, ru⟩ := r
        rw [strs_rep e2 ru, show v = .str z from rv]
        rfl
    | _ => cases e
/-- the first place -/
def placeOf (z : Str) : List Str → Option Nat
  | [] => none
  | y :: r => if y = z then some 0 else (placeOf z r).map (· + 1)
theorem place_at {z : Str} : ∀ {ys : List Str} {j : Nat}, placeOf z ys = some j → ys[j]? = some z ∧ ∀ m, m < j → ys[m]? ≠ some z
  | [], _, e => by cases e
  | y :: r, j, e => by
    unfold placeOf at e
    split at e
    · rename_i h
      cases e
      exact ⟨by rw [h]; rfl, fun m h => absurd h (Nat.not_lt_zero _)⟩
    · rename_i h
      cases e2 : placeOf z r with
      | none => rw [e2] at e; cases e
      | some i =>
        rw [e2] at e
        cases e
        obtain ⟨h1, h2⟩ := place_at e2
        refine ⟨h1, fun m hm => ?_⟩
        cases m with
        | zero => exact fun q => h (Option.some.inj q)
        | succ m => exact h2 m (Nat.lt_of_succ_lt_succ hm)
def indexD (ds : List D) : List D → Option D
  | [.str z] => (strsOf ds).bind fun ys => (placeOf z ys).map fun j => .int (j : Nat)
  | _ => none
/-- d.index(x), d a list -/
def eIdx (o : M D) (as : M (List D)) : M D := o.bind fun d => match d with
  | .lst ds => as.bind fun xs => M.lift (indexD ds xs)
  | _ => fun _ => .bad
theorem index_inv {ds xs : List D} {z : D} (e : indexD ds xs = some z) : ∃ w ys j, xs = [.str w] ∧ strsOf ds = some ys ∧ placeOf w ys = some j ∧ z = .int (j : Nat) := by
  unfold indexD at e
  split at e
  · rename_i w
    cases e1 : strsOf ds with
    | none => rw [e1] at e; cases e
    | some ys =>
      rw [e1] at e
      have e : (placeOf w ys).map (fun j => D.int (j : Nat)) = some z := e
      cases e2 : placeOf w ys with
      | none => rw [e2] at e; cases e
      | some j => rw [e2] at e; cases e; exact ⟨w, ys, j, rfl, rfl, e2, rfl⟩
  · cases e
theorem ex_idx {to : TE} {fo : M D} {ta : TA} {fa : M (List D)} (ho : Ex c E to fo) (ha : Ax c E ta fa) : Ex c E (tBM c.K "list" (rIndex c.K) to ta) (eIdx fo fa) := by
  intro W F H σ ρ Q R h
  refine ho W F H σ ρ _ R ((h.bind (Rep c.K)).mono fun x H1 ⟨d, ρ1, F1, R1, s1, r1, h1⟩ => ?_)
  cases d with
  | lst ds =>
    have h1 : Post c W F1 σ E (Rep c.K) ((fa.bind fun xs => M.lift (indexD ds xs)) ρ1) Q := h1
    obtain ⟨a, xs, rfl, e2, e3⟩ := r1
    refine ⟨.inl ⟨rfl, xs, .of (R1.sub _ _ e2)⟩, ha W F1 H1 σ ρ1 _ R1 ((h1.bind (RepL c.K)).mono fun vs H2 ⟨es, ρ2, F2, R2, s2, r2, h2⟩ => ?_)⟩
    obtain ⟨z, e, k⟩ := Post.lift h2
    obtain ⟨w, ys, j, rfl, q1, q2, rfl⟩ := index_inv e
    obtain ⟨v, rfl, rv⟩ := repL1 r2
    obtain rfl : v = .str w := rv
    obtain ⟨p1, p2⟩ := place_at q2
    have ex := strs_rep q1 e3
    refine ⟨a, xs, .str w, j, .str w, rfl, rfl, .of (R2.sub _ _ (s2 _ _ e2)), rfl, by rw [ex]; exact flat_strs ys, by rw [ex, List.getElem?_map, p1]; rfl, by show (w == w) = true; exact beq_self_eq_true w, fun m z hm e => ?_, k F2 H2 _ R2 (Same.refl _) rfl⟩
    rw [ex, List.getElem?_map] at e
    cases e5 : ys[m]? with
    | none => rw [e5] at e; cases e
    | some y =>
      rw [e5] at e
      cases e
      show (y == w) = false
      exact beq_eq_false_iff_ne.mpr fun z => p2 m hm (by rw [e5, z])
  | _ => exact h1.elim
/-- T.index(x), T a tuple of texts of the module -/
def rTupIdx (K : PySem.W.Frag) : V → List V → Hp → VK → Prop := fun x xs H Q => ∃ p, ∃ ys : List Str, ∃ z j, x = .ref p ∧ xs = [.str z] ∧ SqT K H p (ys.map V.str) ∧ ys[j]? = some z ∧ (∀ m, m < j → ys[m]? ≠ some z) ∧ Q (.int (j : Nat)) H
theorem mt_tupIdx {X : Cx} : MtR X "tuple.index" (rTupIdx X.K) := mt_tup_index
structure ConT (K : PySem.W.Frag) (a : Addr) (ds : List D) : Prop where
  cls : ∃ o, K.lookup a = some o ∧ o.cls = .type "tuple" ∧ o.dict = none
  rep : ∀ F, Rep K F (.tup ds) (.ref a)
theorem ex_tupIdx {a : Addr} {ds : List D} {ta : TA} {fa : M (List D)} (T : ConT c.K a ds) (ha : Ax c E ta fa) : Ex c E (tBM c.K "tuple" (rTupIdx c.K) (tC (.ref a)) ta) (eCall (indexD ds) fa) := by
  intro W F H σ ρ Q R h
  refine ⟨.inr (.inl ⟨rfl, T.cls⟩), ha W F H σ ρ _ R ((h.bind (RepL c.K)).mono fun vs H2 ⟨es, ρ2, F2, R2, s2, r2, h2⟩ => ?_)⟩
  obtain ⟨z, e, k⟩ := Post.lift h2
  obtain ⟨w, ys, j, rfl, q1, q2, rfl⟩ := index_inv e
  obtain ⟨v, rfl, rv⟩ := repL1 r2
  obtain rfl : v = .str w := rv
  obtain ⟨p1, p2⟩ := place_at q2
  obtain ⟨a', xs, ea, h1, h3⟩ := T.rep F2
  cases ea
  rw [strs_rep q1 h3] at h1
  exact ⟨a, ys, w, j, rfl, rfl, sqT_mono R2.sub h1.sq, p1, p2, k F2 H2 _ R2 (Same.refl _) rfl⟩
/-! ### max(list of whole numbers, default=d) -/
def allInt : List D → Bool
  | [] => true
  | .int _ :: r => allInt r
  | _ :: _ => false
def intP : PyData → Option D
  | .int i => some (.int i)
  | _ => none
def maxDefD : List D → List D → Option D
  | [.lst ds], [.int i] => if (allInt ds && decide (ds.length ≤ 100000)) = true then match toPL ds with
    | [] => some (.int i)
    | y :: ys => intP (PySem.W.maxD y ys)
    else none
  | _, _ => none
def kD (K : PySem.W.Frag) (g : List D → List D → Option D) : List V → List V → Hp → VK → Prop := fun xs ys H Q => ∃ F ds es z, Fz F H ∧ RepL K F ds xs ∧ RepL K F es ys ∧ g ds es = some z ∧ ∀ F' H' v, Grow F H F' H' → Rep K F' z v → Q v H'
def eCallK (g : List D → List D → Option D) (a b : M (List D)) : M D := a.bind fun xs => b.bind fun ys => M.lift (g xs ys)
theorem ex_kD {g : List D → List D → Option D} {ta tb : TA} {fa fb : M (List D)} (ha : Ax c E ta fa) (hb : Ax c E tb fb) : Ex c E (tCKw (kD c.K g) ta tb) (eCallK g fa fb) := by
  intro W F H σ ρ Q R h
  refine ha W F H σ ρ _ R ((h.bind (RepL c.K)).mono fun xs H1 ⟨ds, ρ1, F1, R1, s1, r1, h1⟩ => ?_)
  refine hb W F1 H1 σ ρ1 _ R1 ((h1.bind (RepL c.K)).mono fun ys H2 ⟨es, ρ2, F2, R2, s2, r2, h2⟩ => ?_)
  obtain ⟨z, e, k⟩ := Post.lift h2
  exact ⟨F2, ds, es, z, R2.fz, r1.mono s2, r2, e, fun F' H' v gr rv => k F' H' v (R2.grow gr) gr.fs rv⟩
theorem allInt_mem : ∀ {ds : List D}, allInt ds = true → ∀ x ∈ toPL ds, ∃ i, x = .int i
  | [], _, x, h => by
    rw [toPL] at h
    cases h
  | d :: ds, e, x, h => by
    cases d with
    | int i =>
      rw [toPL] at h
      rcases List.mem_cons.mp h with z | z
      · exact ⟨i, by rw [z, toP]⟩
      · exact allInt_mem (show allInt ds = true from e) x z
    | _ => cases e
theorem allInt_shape : ∀ {ds : List D}, allInt ds = true → shapeL 1 ds = true
  | [], _ => by rw [shapeL]
  | d :: ds, e => by
    cases d with
    | int i =>
      rw [shapeL, allInt_shape (show allInt ds = true from e)]
      rfl
    | _ => cases e
theorem call_maxDef {X : Cx} (hc : X.calm = true) (hu : X.A.units + 64 < cLine) : CallRK X (.builtin "max") [Str.ofString "default"] (kD X.K maxDefD) := by
  intro pins s σ H xs zs us ws Q I rv rw' h
  obtain ⟨F, ds, es, z, fz, r, q, ez, k⟩ := h
  unfold maxDefD at ez
  split at ez
  · rename_i ds i
    split at ez
    · rename_i hd
      rw [Bool.and_eq_true] at hd
      obtain ⟨x, rfl, a, ys, rfl, h2, h3⟩ := repL1 r
      obtain ⟨y, rfl, ry⟩ := repL1 q
      obtain rfl : y = .int i := ry
      obtain ⟨u, rfl, ru⟩ := rv.one
      obtain ⟨w, rfl, t, rfl⟩ := rw'.one
      obtain rfl : u = .ref a := ru
      obtain ⟨its, n, rv2, ho, hz⟩ := I.lst (fz.1 _ _ h2)
      obtain ⟨as, ra⟩ := readsL_D I 1 ds ys its (h3.mono fz.1) rv2 (allInt_shape hd.1)
      have dep := depthL_D 1 ds (allInt_shape hd.1)
      have al : PySem.W.AlikeAll (toPL ds) := by
        refine ⟨fun x hx y hy => ?_, fun x hx => ?_⟩
        · obtain ⟨i, rfl⟩ := allInt_mem hd.1 x hx
          obtain ⟨j, rfl⟩ := allInt_mem hd.1 y hy
          rfl
        · obtain ⟨i, rfl⟩ := allInt_mem hd.1 x hx
          intro z
          cases z
      show wpAny (model X.prog X.w) X.A (call (.builtin "max") [.ref a] [(Str.ofString "default", .int i t)]) _ _ s
      refine PySem.W.max_list_default (vs := its.toArray) (xs := toPL ds) (as := as) (I.ok.hd hc) ⟨_, ho, rfl, n, rfl⟩ (by simpa using ra) al (by omega) (fun e h' tk kp => ?_) fun y ys' j v h' tk bs e hv rd kp => ?_
      · rw [e] at ez
        cases ez
        exact ⟨.int i, H, I.kept kp, ⟨t, rfl⟩, k F H _ fz.refl rfl⟩
      · rw [e] at ez
        have ez : intP (PySem.W.maxD y ys') = some z := ez
        cases em : PySem.W.maxD y ys' with
        | int m =>
          rw [em] at ez rd
          cases ez
          obtain ⟨t', ev⟩ : ∃ t', v = .int m t' := by
            cases rd
            exact ⟨_, rfl⟩
          subst ev
          exact ⟨.int m, H, I.kept kp, ⟨t', rfl⟩, k F H _ fz.refl rfl⟩
        | _ => rw [em] at ez; cases ez
    · cases ez
  · cases ez
end Pl
namespace Pl
open PySem PySem.Spec PyProof.Rows L2
variable {b : Bool}
variable {α β γ : Type} {c : Cn} {E : WX} {np : Nat}
/-! ## calls by name; raise -/
section
variable {X : Cx} {k : Nat} {ps : List Str} {sp : Sp} {W : WX} {x : Str} {p pos : Pos} {e : Expr} {es : List Expr} {t : TA}
theorem pe_callHG (h : HasG b X.prog X.w X.K X.mg X.base x k ps sp) (hr : Room k X.A) (hgu : Gd b X.A) (hg : Gl X x) (tk : Takes X W) (ha : PA X (e :: es) t)
    (h1 : (x == ("__debug__" : Str)) = false := by decide) (h2 : starEach (e :: es) X.env = (false, eval e X.env) :: starEach es X.env := by rfl) (h3 : (backTo pos (starEach es X.env)).any (·.1) = false := by rfl) : PE X (.Call (.Name x p) (e :: es) [] pos) (tCallS sp (WE W) t) := by
  obtain ⟨f, fd, G, hm, hk, bi⟩ := h.ex
  exact pe_callG G hr hgu hg hm hk bi tk ha h1 h2 h3
theorem pe_callHG0 (h : HasG b X.prog X.w X.K X.mg X.base x k ps sp) (hr : Room k X.A) (hgu : Gd b X.A) (hg : Gl X x) (tk : Takes X W) (h1 : (x == ("__debug__" : Str)) = false := by decide) : PE X (.Call (.Name x p) [] [] pos) (tCallS sp (WE W) tNil) := by
  obtain ⟨f, fd, G, hm, hk, bi⟩ := h.ex
  exact pe_callG0 G hr hgu hg hm hk bi tk h1
theorem takes0w {X : Cx} : Takes X E0w := fun _ _ x => by
  obtain ⟨_, _, _, _, _, _, _, _, _, _, _, _, _, _, _, _, z⟩ := x
  exact z.elim
end
/-- a class of errors of the module without __init__ -/
structure XOwn (K : PySem.W.Frag) (mg : Str → Option Value) (x : Str) (C : Addr) : Prop where
  g : mg x = some (.ref C)
  k : PySem.W.keepIn K (.ref C) = true
  b : ∃ (B newId initId : String) (bm : List Value), ExcBaseFacts B newId initId bm ∧ PySem.W.excIn K C bm newId = true
  s : PySem.W.subIn K (.ref C) (.type "BaseException") = some true
  t : PySem.W.typeIn K (.ref C) = some (.type "type")
section
variable {X : Cx} {W : WX} {x m : Str} {j : Nat} {C : Addr} {p p2 pos pos' : Pos}
theorem ps_raiseX (hc : X.calm = true) (tk : Takes X W) (h : XOwn X.K X.mg x C) (hg : Gl X x) (hd : (x == ("__debug__" : Str)) = false := by decide) : PS X (.Raise (some (.Call (.Name x p) [.Constant (.str m) j p2] [] pos)) none pos') (fun _ σ H => W (.ref C) none σ H) := by
  obtain ⟨B, newId, initId, bm, F, q⟩ := h.b
  exact L2.ps_raise hc tk (pmk_own F q h.g h.k (raises_own h.s h.t) hg hd)
end
def sRaise (x : Str) : S := fun ρ => .ex ⟨x, none⟩ ρ
theorem sx_raise {x : Str} {C : Addr} (g : c.mg x = some (.ref C)) : Sx c E np (fun _ σ H => E (.ref C) none σ H) (sRaise x) := fun W F H σ ρ D _ R h => h F H σ (.ref C) none R (Same.refl _) ⟨.inl g, rfl⟩
/-- {}, {k: v, ..} of constants -/
def eDct (kds : List (Key × D)) : M D := fun ρ => .ok (.dct (kds.map (·.1)) (kds.map (·.2))) ρ
theorem ex_d0 : Ex c E tDNewK (eDct []) := fun W F H σ ρ Q R h p hp => by
  have g := R.fz.new (o := .dK []) hp fun _ z => by cases z
  exact h _ _ _ (R.grow g) g.fs ⟨p, [], rfl, upd_same, rfl, rfl⟩
theorem pairs_con : ∀ {kvs : List (Key × V)} {σ : L2.St} {H : Hp} {Q : List (V × V) → Hp → Prop}, Q (kvs.map fun kv => (kV kv.1, kv.2)) H → tPairs (kvs.map fun kv => (tC (kV kv.1), tC kv.2)) σ H Q
  | [], _, _, _, h => h
  | p :: r, _, _, _, h => pairs_con (kvs := r) h
theorem ex_dC {kvs : List (Key × V)} {kds : List (Key × D)} (hl : kvs.length ≤ 15) (hk : (mergeK [] kvs).map (·.1) = kds.map (·.1)) (hr : ∀ F, RepL c.K F (kds.map (·.2)) ((mergeK [] kvs).map (·.2))) : Ex c E (tDisp (kvs.map fun kv => (tC (kV kv.1), tC kv.2))) (eDct kds) := fun W F H σ ρ Q R h p hp => by
  refine pairs_con ⟨upd_same, kvs, rfl, hl, ?_⟩
  rw [upd_upd]
  have g := R.fz.new (o := .dK (mergeK [] kvs)) hp fun _ z => by cases z
  exact h _ _ _ (R.grow g) g.fs ⟨p, _, rfl, upd_same, hk, hr _⟩
/-- a def with *rest alone -/
def runStar (n : Nat) (g : S) : FnM := fun ps => if ps.all (fun s => !s.own) = true then match dataOf ps with
  | some ds => if ds.length ≤ 100000 then runBody 1 n g [.d (.tup ds)] else .bad
  | none => .bad
  else .bad
where dataOf : List Slot → Option (List D)
  | [] => some []
  | .d x :: r => (dataOf r).map (x :: ·)
  | _ :: _ => none
end Pl
namespace Pl
open PySem PySem.Spec PyProof.Rows L2
variable {b : Bool}
variable {α β γ : Type} {c : Cn} {E : WX} {np : Nat} {F H F' H' F2 H2 : Hp}
/-! ## defs with *rest -/
theorem data_rep {ps : List Slot} {ds : List D} {vs : List V} (e : runStar.dataOf ps = some ds) (P : ParOk c F H ps vs) : RepL c.K F ds vs := by
  have gen : ∀ (ps : List Slot) (ds : List D) (vs : List V), runStar.dataOf ps = some ds → ps.length = vs.length → (∀ (j : Nat) (d : D), ps[j]? = some (.d d) → ∃ v, vs[j]? = some v ∧ Rep c.K F d v) → RepL c.K F ds vs := by
    intro ps
    induction ps with
    | nil =>
      intro ds vs e hl _
      cases vs with
      | nil => cases e; exact RepL.nil
      | cons v vs => cases hl
    | cons s ps ih =>
      intro ds vs e hl hd
      cases s with
      | d x =>
        have e : (runStar.dataOf ps).map (x :: ·) = some ds := e
        cases e2 : runStar.dataOf ps with
        | none => rw [e2] at e; cases e
        | some es =>
          rw [e2] at e
          cases e
          cases vs with
          | nil => cases hl
          | cons v vs =>
            obtain ⟨v', e3, r⟩ := hd 0 x rfl
            cases e3
            exact .cons r (ih es vs e2 (by simpa using hl) fun j d ej => hd (j + 1) d (by simpa using ej))
      | _ => cases e
  exact gen ps ds vs e P.len P.dat
theorem After.before {ps qs : List Slot} {vs us : List V} {outs outs' : List Slot} (g : Grow F H F2 H2) (hp : ∀ (j : Nat) (s : Slot), ps[j]? = some s → s.own = false) (hq : ∀ (j : Nat) (s : Slot), qs[j]? = some s → s.own = false) (A : After c F2 H2 ps vs outs F' H') : After c F H qs us outs' F' H' where
  fs := g.fs.trans A.fs
  sub := A.sub
  nt := A.nt
  tab := A.tab
  nw := fun a h1 h2 => A.nw a (g.nw a h1 h2) fun z => h2 (bl_free (fun b o h _ => g.hs b o h) z)
  hs := fun a o h1 h2 _ => A.hs a o (g.hs a o h1) h2 fun j s e o => by rw [hp j s e] at o; cases o
  ht := fun a h => bl_free (fun b o h _ => g.hs b o h) (A.ht a h)
  ow := fun j s p e o _ => by rw [hq j s e] at o; cases o
theorem Out.before {ps qs : List Slot} {vs us : List V} {Q : VK} {E : XK} {r : Rs An} (g : Grow F H F2 H2) (hp : ∀ (j : Nat) (s : Slot), ps[j]? = some s → s.own = false) (hq : ∀ (j : Nat) (s : Slot), qs[j]? = some s → s.own = false) (h : Out c F H qs us Q E r) : Out c F2 H2 ps vs Q E r := by
  cases r with
  | ok a outs =>
    cases a with
    | v d => exact fun F' H' v A r => h F' H' v (A.before g hp hq) r
    | n ds => exact fun F' H' p A ol hn => h F' H' p (A.before g hp hq) ol (bl_free (fun b o h _ => g.hs b o h) hn)
  | ex e outs => exact fun F' H' cls od A x => h F' H' cls od (A.before g hp hq) x
  | bad => exact h
theorem out_end {N : List Str} {n : Nat} {g : S} {t : TS} {ps : List Slot} {vs : List V} {Q : VK} {E : XK} (hx : Sx c (fun cls od _ H => E cls od H) ps.length t g) (hn : N.length = ps.length + n) (fz : Fz F H) (tab : LamX.Tabs c.T H) (par : ParOk c F H ps vs)
    (hm : Out c F H ps vs Q E (runBody ps.length n g ps)) : t { nx := fun _ H' => Q .non H', rt := Q } (L2.start N vs) H := by
  refine hx (fm0 F H ps vs) F H (L2.start N vs) _ _ rfl (rel0 (k := n) hn fz tab par) ?_
  unfold runBody at hm
  rw [if_pos rfl] at hm
  have sel : ∀ {r : Rs An} {b : Bool}, Out c F H ps vs Q E (if b = true then r else .bad) → b = true ∧ Out c F H ps vs Q E r := fun {r b} h => by
    cases b with
    | true => exact ⟨rfl, h⟩
    | false => exact h.elim
  revert hm
  cases g (ps ++ List.replicate n .u) with
  | ok k ρ =>
    cases k with
    | nx => exact fun hm F' H' σ' R' s' => (sel hm).2 F' H' .non (after0 R' (sel hm).1) rfl
    | rt d => exact fun hm F' H' σ' v R' s' r => (sel hm).2 F' H' v (after0 R' (sel hm).1) r
    | rn ds => exact fun hm F' H' σ' p R' s' fr => (sel hm).2 F' H' p (after0 R' (sel hm).1) fr.own fr.h0
    | bk => exact fun hm => hm.elim
    | ct => exact fun hm => hm.elim
  | ex e ρ => exact fun hm F' H' σ' cls od R' s' x => (sel hm).2 F' H' cls od (after0 R' (sel hm).1) x
  | bad => exact fun hm => hm.elim
structure FnS (b : Bool) (P : Program) (w : World) (K : PySem.W.Frag) (mg : Str → Option Value) (base : Heap) (k : Nat) (f : Addr) (sp : Sp) : Prop where
  goes : ∀ (A : Around) (outer : List PySem.Env) (s : Shared) (H : Hp) (us : List Value) (vs : List V) (Q : VK) (E : XK), Room k A → Gd b A → Env0 P w K mg base A outer s H → Vals vs us → sp vs H Q E →
    codeAny (model P w) A (.call (.ref f) ⟨us, []⟩) (CR (L2.CX P w) outer P w H s Q E) s
structure HasS (b : Bool) (P : Program) (w : World) (K : PySem.W.Frag) (mg : Str → Option Value) (base : Heap) (x : Str) (k : Nat) (sp : Sp) : Prop where
  ex : ∃ f : Addr, FnS b P w K mg base k f sp ∧ mg x = some (.ref f) ∧ PySem.W.keepIn K (.ref f) = true
section
variable {P : Program} {w : World} {K : PySem.W.Frag} {mg : Str → Option Value} {base : Heap} {T : List (Addr × Str)}
theorem fn_rest {x qual pv : Str} {st : Stmt} {f : Addr} {fd : FuncData} {N : List Str} {k n : Nat} {g : S} (Fu : Fun K x qual st f fd) (Sc : FnScope N [pv] (defScope st)) (hn : N.length = 1 + n) (bi : ∀ rest : List Value, bindArgs fd ⟨rest, []⟩ = (newTuple rest >>= fun t => pure [(pv, t)]))
    (hbody : ∀ (cdv : Value) (A : Around) (outer : List PySem.Env) (s : Shared) (H : Hp) (E : XK), Room k (A.deeper (envOfC qual (defScope st) s.heap.objs.size f cdv)) → Gd b A →
      ∃ t, PSs (cxOf (L2.CX P w) P w K mg base N qual (defScope st) f cdv A outer s H E) (defBody st) t ∧ Sx ⟨K, mg, T⟩ (fun cls od _ H => E cls od H) 1 t g) : FnS b P w K mg base (k + 1) f (spM ⟨K, mg, T⟩ (runStar n g)) := by
  obtain ⟨oc, od, kV, doc, pm, an, cdv, ct, osl, efd, look, rec⟩ := Fu.ex
  subst efd
  refine ⟨fun A outer s H us vs Q E hr hgu e0 rv hsp => ?_⟩
  obtain ⟨F, qs, fz, tab, par, hm⟩ := hsp
  unfold runStar at hm
  split at hm
  rotate_left
  · exact hm.elim
  rename_i hq
  have noq : ∀ (j : Nat) (s : Slot), qs[j]? = some s → s.own = false := fun j s e => by
    have := List.all_eq_true.mp hq s (List.mem_of_getElem? e)
    simpa using this
  cases ed : runStar.dataOf qs with
  | none => rw [ed] at hm; exact hm.elim
  | some ds =>
    rw [ed] at hm
    have hm : Out ⟨K, mg, T⟩ F H qs vs Q E (if ds.length ≤ 100000 then runBody 1 n g [.d (.tup ds)] else .bad) := hm
    split at hm
    rotate_left
    · exact hm.elim
    rename_i hl
    have rp : RepL K F ds vs := data_rep ed par
    have lv : us.length ≤ sizeLine := by rw [← rv.length, ← rp.len]; exact Nat.le_trans hl h100
    have free : H s.heap.objs.size = none := e0.hok.fresh (Nat.le_refl _)
    refine StX.run_bnd (N := N) (ps := [pv]) look rec Sc hr e0 (G := fun xs H2 => ∃ p, H p = none ∧ xs = [V.ref p] ∧ H2 = upd H p (.tup vs)) (fun A' Ex Q' go => ?_) fun s2 H2 xs ⟨p, hp, ex, eH⟩ hr' => ?_
    · rw [bi us]
      refine wpAny_bind (wpAny_newTuple (wpAny_pure ?_) lv)
      have new : ObjOk P w (upd H s.heap.objs.size (.tup vs)) (s.heap.push ({ cls := .type "tuple", data := .seq us.toArray } : Obj)) s.heap.objs.size (.tup vs) := ⟨by rw [rv.length]; exact lv, us, rv, ⟨_, Heap.get?_push_size _ rfl, rfl, _, rfl⟩⟩
      have un := StX.un_laid (fs := frs outer) (s := s) (o := ({ cls := .type "tuple", data := .seq us.toArray } : Obj)) (u := .tup vs) free
      exact go _ _ [V.ref s.heap.objs.size] [Value.ref s.heap.objs.size] (StX.env0_laid e0 new) un rfl (fun e s' => StX.cxUp outer s H _ _ E e s' un (fun b o q => Heap.get?_push_of_some _ q) rfl) (.cons rfl .nil) rfl ⟨_, free, rfl, rfl⟩
    · subst ex eH
      have gr := fz.new (o := .tup vs) hp fun _ z => by cases z
      obtain ⟨t, ht, hx⟩ := hbody cdv A outer s2 (upd H p (.tup vs)) E hr' hgu
      have nop : ∀ (j : Nat) (s : Slot), [Slot.d (.tup ds)][j]? = some s → s.own = false := fun j s e => by
        cases j with
        | zero => cases e; rfl
        | succ j => simp at e
      have par2 : ParOk ⟨K, mg, T⟩ (upd F p (.tup vs)) (upd H p (.tup vs)) [.d (.tup ds)] [.ref p] := by
        refine ⟨rfl, fun j d e => ?_, fun j s e o => ?_, fun j k s t q e1 _ o1 => ?_⟩
        · cases j with
          | zero => cases e; exact ⟨_, rfl, p, vs, rfl, .inl upd_same, rp.mono gr.fs⟩
          | succ j => simp at e
        · rw [nop j s e] at o; cases o
        · rw [nop j s e1] at o1; cases o1
      have hm2 := hm.before (ps := [.d (.tup ds)]) (vs := [.ref p]) gr nop noq
      exact ⟨t, ht, out_end hx (by rw [hn] <;> rfl) ⟨gr.sub, gr.nt⟩ (tab.ext gr.hs) par2 hm2⟩
end
section
variable {X : Cx} {k : Nat} {sp : Sp} {W : WX} {x : Str} {p pos : Pos} {e : Expr} {es : List Expr} {t : TA}
theorem run_S {f : Addr} {pins : List (Addr × Obj)} {σ : L2.St} {H : Hp} {s : Shared} {Q : VK} {us : List Value} {vs : List V} (G : FnS b X.prog X.w X.K X.mg X.base k f sp) (hr : Room k X.A) (hg : Gd b X.A) (tk : Takes X W)
    (J : Inv X pins σ H s) (r : Vals vs us) (h : sp vs H Q (WE W σ)) : wpAny (model X.prog X.w) X.A (call (.ref f) us) (EP X pins σ Q) X.xe s := by
  refine wpAny_call (codeAny_mono (G.goes X.A X.stack s H us vs Q (WE W σ) hr hg J.env0 r h) ?_)
  rintro (x | x) s' hx
  · exact passAt tk σ pins H s x s' J hx
  · cases x with
    | ret u => exact J.after hx
    | next => exact hx.elim
    | brk => exact hx.elim
    | cont => exact hx.elim
theorem pe_callHS (h : HasS b X.prog X.w X.K X.mg X.base x k sp) (hr : Room k X.A) (hgu : Gd b X.A) (hg : Gl X x) (tk : Takes X W) (ha : PA X (e :: es) t)
    (h1 : (x == ("__debug__" : Str)) = false := by decide) (h2 : starEach (e :: es) X.env = (false, eval e X.env) :: starEach es X.env := by rfl) (h3 : (backTo pos (starEach es X.env)).any (·.1) = false := by rfl) : PE X (.Call (.Name x p) (e :: es) [] pos) (tCallS sp (WE W) t) := by
  obtain ⟨f, G, hm, hk⟩ := h.ex
  exact ⟨fun pins s σ H Q J q => wpAny_Call_Name_kw (ld_glob J hg hm (PySem.W.callWith_K (h₀ := X.base) J.ok.mod.kin hk (thn (ha.run pos pins s σ H _ J q) fun us s1 ⟨vs, H1, J1, r, q1⟩ => ⟨J1.kIn, run_S G hr hgu tk J1 r q1⟩) h2 h3) h1)⟩
theorem pe_callHS0 (h : HasS b X.prog X.w X.K X.mg X.base x k sp) (hr : Room k X.A) (hgu : Gd b X.A) (hg : Gl X x) (tk : Takes X W) (h1 : (x == ("__debug__" : Str)) = false := by decide) : PE X (.Call (.Name x p) [] [] pos) (tCallS sp (WE W) tNil) := by
  obtain ⟨f, G, hm, hk⟩ := h.ex
  exact ⟨fun pins s σ H Q J q => wpAny_Call_Name_kw (ld_glob J hg hm (PySem.W.callWith_K0 J.kIn hk (run_S (us := []) G hr hgu tk J .nil q)) h1)⟩
end
end Pl
namespace Pl
open PySem PySem.Spec PyProof.Rows L2
/-! ## try with several clauses, each with or without a name -/
def enterE (i : Option Nat) (a : Addr) (σ : L2.St) : L2.St := match i with
  | none => σ
  | some j => σ.set j (some (.ref a))
def leaveE (i : Option Nat) (σ : L2.St) : L2.St := match i with
  | none => σ
  | some j => σ.set j none
def endsE (i : Option Nat) (D : Ends) : Ends where
  nx := fun σ H => D.nx (leaveE i σ) H
  rt := D.rt
  bk := fun σ H => D.bk (leaveE i σ) H
  ct := fun σ H => D.ct (leaveE i σ) H
abbrev Hdl := Value × Option Nat × (Addr → Value → Option Addr → TS)
def wHs (K : PySem.W.Frag) (Wo : WX) (D : Ends) : List Hdl → WX
  | [] => Wo
  | h :: r => fun cls d σ H => ∃ b, PySem.W.exmOne K cls h.1 = some b ∧ (b = true → ∀ a, H a = none → h.2.2 a cls d (endsE h.2.1 D) (enterE h.2.1 a σ) H) ∧ (b = false → wHs K Wo D r cls d σ H)
def BindE (X : Cx) : Option Str → Option Nat → Prop
  | none, none => True
  | some n, some i => X.N[i]? = some n ∧ X.env.kindOf n = some .local
  | _, _ => False
inductive Hs (X : Cx) : List ExceptHandler → List Hdl → Prop
  | nil : Hs X [] []
  | cons {x : Str} {k : Value} {on : Option Str} {i : Option Nat} {ts : Addr → Value → Option Addr → TS} {st : Stmt} {rest : List Stmt} {p1 p2 : Pos} {hs : List ExceptHandler} {l : List Hdl} (nm : Names X x k) (bd : BindE X on i)
      (su : ∀ (ad : Addr) (ob : Obj) (cls : Value) (d : Option Addr) (ps : List (Addr × Obj)), Zc cls d ob → (∃ q, ob.data = .fields q) → PSs (X.suite ad ((ad, ob) :: ps)) (st :: rest) (ts ad cls d)) (r : Hs X hs l) :
      Hs X (.ExceptHandler (some (.Name x p1)) on (st :: rest) p2 :: hs) ((k, i, ts) :: l)
section
variable {X : Cx} {pins : List (Addr × Obj)} {σ : L2.St} {H : Hp} {D : Ends} {Wo : WX} {cls : Value} {d : Option Addr} {ad : Addr} {gr : Heap} {s0 s1 : Shared}
/-- an exception that has come to the clauses -/
structure Come (X : Cx) (pins : List (Addr × Obj)) (σ : L2.St) (H : Hp) (cls : Value) (d : Option Addr) (ad : Addr) (gr : Heap) (s0 : Shared) (s1 : Shared) : Prop where
  inv : Inv X pins σ H s0
  below : ∀ b o, s0.heap.get? b = some o → b ∉ frs X.stack → gr.get? b = some o
  up : s0.heap.UpToSlots s1.heap
  fly : HandSPX.FlyingZ gr (X.env :: X.outer) ad (Zc cls d) s1.heap
  new : H ad = none
  os : s1.os = s0.os
  bare : AllBare s1.gens
theorem Come.at_ (z : Come X pins σ H cls d ad gr s0 s1) : Inv X pins σ H s1 := z.inv.landed z.below z.fly.1 z.up z.os z.bare
theorem Come.off (hf : X.env.frame = some X.env.locals) (z : Come X pins σ H cls d ad gr s0 s1) : ad ≠ X.env.locals ∧ ad ∉ X.fs := by
  obtain ⟨ob, q, e1, _, e3⟩ := z.fly.there
  have out : ad ∉ frs (X.env :: X.outer) := fun m => by
    obtain ⟨_, u, e4, no⟩ := z.fly.2.2.1.mem m
    rw [e1] at e4
    cases e4
    exact no _ e3
  constructor
  · intro w
    exact out (List.mem_filterMap.mpr ⟨X.env, List.mem_cons_self, by rw [hf, w]⟩)
  · intro m
    obtain ⟨y, hy, e⟩ := List.mem_filterMap.mp m
    exact out (List.mem_filterMap.mpr ⟨y, List.mem_cons_of_mem _ hy, e⟩)
/-- the clauses, looked at one after another -/
theorem run_clauses (hs : X.stack = X.env :: X.outer) (hf : X.env.frame = some X.env.locals) (hN : X.N.Nodup) (tk : Takes X Wo) {hds : List ExceptHandler} {l : List Hdl} (hk : Hs X hds l) (z : Come X pins σ H cls d ad gr s0 s1) :
    wHs X.K Wo D l cls d σ H → wpAny (model X.prog X.w) X.A (handleBy (.ref ad) X.env hds) (SP X pins D) X.xe s1 := by
  have ok := z.inv.ok
  obtain ⟨nL, nF⟩ := z.off hf
  induction hk with
  | nil =>
    intro w
    refine wpAny_handleBy_nil ?_
    obtain ⟨_, _, _, ob, q, T, _, _, e1, _, e2, e3, _⟩ := id z.fly
    unfold PySem.passOn
    refine wpAny_bind (wpAny_field e1 e2 e3 ?_)
    rw [if_neg (by simp)]
    have away : wpAny (model X.prog X.w) X.A (setFlight (.ref ad) X.env.frame) (fun _ s2 => wpAny (model X.prog X.w) X.A (throw (.ref ad) : Sem Flow) (SP X pins D) X.xe s2) X.xe s1 := by
      rw [hf]
      refine HandSPX.setFlight_upZ z.fly fun h2 held up2 => wpAny_throw (tk _ _ ?_)
      exact ⟨ad, gr, s0, pins, σ, H, cls, d, rfl, z.inv, z.below, z.up.trans up2, .inr (.inr (by rw [hs]; exact held)), z.new, z.os, z.bare, w⟩
    first
      | exact wpAny_bind (wpAny_pure (wpAny_bind away))
      | exact wpAny_bind away
  | @cons x k on i ts st rest p1 p2 hds2 l2 nm bd su r ih =>
    intro w
    obtain ⟨b, wb, yes, no⟩ := w
    obtain ⟨ob, q, e1, ez, e2⟩ := z.fly.there
    have J := z.at_
    have JS := J.suite e1 e2 z.new nL nF
    have goal : wpAny (model X.prog X.w) (X.A.mark (some (.ref ad))) (eval (.Name x p1) X.env) (fun v s2 => v = k ∧ s2 = s1) (fun _ _ => False) s1 := by
      obtain ⟨gx, gd, gm | ⟨gm, gv, gn⟩⟩ := nm
      · exact ld_glob (X := X.suite ad ((ad, ob) :: (X.pn ++ pins))) JS gx gm ⟨rfl, rfl⟩ gd
      · exact ld_blt (X := X.suite ad ((ad, ob) :: (X.pn ++ pins))) JS gx gm gv ⟨rfl, rfl⟩ gn gd
    have kind : PySem.W.Looks (model X.prog X.w) s1.heap (typeOf (.ref ad)) cls := fun A Q E s kp hq => wpAny_typeOf_ref (kp _ _ e1) (by rw [ez.1]; exact hq)
    have hit := PySem.W.exm_one (M := model X.prog X.w) J.kIn kind wb
    have ask : ∀ {Q : Value → Shared → Prop} {E : Value → Shared → Prop}, Q k s1 → wpAny (model X.prog X.w) (X.A.mark (some (.ref ad))) (eval (.Name x p1) X.env) Q E s1 := fun {Q E} hq =>
      wpAny_mono goal (fun v s2 hv => by rw [hv.1, hv.2]; exact hq) (fun _ _ f => f.elim)
    refine wpAny_handleBy_cons (codeAny_handlers_test ?_) (by intro f; cases f)
    refine ask (hit.here ?_)
    cases b with
    | false => exact ih (no rfl)
    | true =>
      have tsq := yes rfl ad z.new
      cases on with
      | none =>
        cases i with
        | some i => exact bd.elim
        | none =>
          refine codeAny_handlers_suite ?_
          refine HandSPX.lands_againZ z.fly fun h2 fly2 up2 => ?_
          have z2 : Come X pins σ H cls d ad gr s0 { s1 with heap := h2 } := ⟨z.inv, z.below, z.up.trans up2, fly2, z.new, z.os, z.bare⟩
          obtain ⟨ob2, q2, f1, fz, f2⟩ := fly2.there
          refine wpAny_mono ((su ad ob2 cls d (X.pn ++ pins) fz ⟨_, f2⟩).run [] _ _ H _ (z2.at_.suite f1 f2 z.new nL nF) tsq) (fun fl s3 hsp => ?_) (fun _ _ f => False.elim f)
          cases fl with
          | next => obtain ⟨σ3, H3, J3, q3⟩ := hsp; exact ⟨σ3, H3, J3.unsuite ok, q3⟩
          | brk => obtain ⟨σ3, H3, J3, q3⟩ := hsp; exact ⟨σ3, H3, J3.unsuite ok, q3⟩
          | cont => obtain ⟨σ3, H3, J3, q3⟩ := hsp; exact ⟨σ3, H3, J3.unsuite ok, q3⟩
          | ret u => obtain ⟨v3, σ3, H3, J3, r3, q3⟩ := hsp; exact ⟨v3, σ3, H3, J3.unsuite ok, r3, q3⟩
      | some n =>
        cases i with
        | none => exact bd.elim
        | some i =>
          obtain ⟨bi, bl⟩ := bd
          refine codeAny_handlers_suite_as ?_
          refine HandSPX.lands_againZ z.fly fun h2 fly2 up2 => ?_
          have z2 : Come X pins σ H cls d ad gr s0 { s1 with heap := h2 } := ⟨z.inv, z.below, z.up.trans up2, fly2, z.new, z.os, z.bare⟩
          obtain ⟨ob2, q2, f1, fz, f2⟩ := fly2.there
          refine store_ok (X := X.suite ad ((ad, ob2) :: (X.pn ++ pins))) (v := .ref ad) (z2.at_.suite f1 f2 z.new nL nF) hN bi (.inl bl) rfl (fun s3 J3 => ?_) (.inr bl)
          refine wpAny_mono ((su ad ob2 cls d (X.pn ++ pins) fz ⟨_, f2⟩).run [] s3 _ H _ J3 tsq) (fun fl s4 hsp => ?_) (fun _ _ f => False.elim f)
          have clear : ∀ {σ4 : L2.St} {H4 : Hp} {Q : Shared → Prop}, Inv (X.suite ad ((ad, ob2) :: (X.pn ++ pins))) [] σ4 H4 s4 → (∀ s5, Inv X pins (σ4.set i none) H4 s5 → Q s5) →
              wpAny (model X.prog X.w) X.A (do bindName X.env n .none; unbindBehindTheSuite X.env n p2) (fun _ s5 => Q s5) X.xe s4 := fun {σ4 H4 Q} J4 hq => gone_ok (J4.unsuite ok) hN bi bl hq
          cases fl with
          | next => obtain ⟨σ4, H4, J4, q4⟩ := hsp; exact clear J4 fun s5 J5 => ⟨_, _, J5, q4⟩
          | brk => obtain ⟨σ4, H4, J4, q4⟩ := hsp; exact clear J4 fun s5 J5 => ⟨_, _, J5, q4⟩
          | cont => obtain ⟨σ4, H4, J4, q4⟩ := hsp; exact clear J4 fun s5 J5 => ⟨_, _, J5, q4⟩
          | ret u => obtain ⟨v4, σ4, H4, J4, r4, q4⟩ := hsp; exact clear J4 fun s5 J5 => ⟨_, _, _, J5, r4, q4⟩
/-- THE RULE: try: body / except ..: .. / except .. as n: .. -/
theorem ps_tries {body : List Stmt} {h1 : ExceptHandler} {hds : List ExceptHandler} {l : List Hdl} {pos : Pos} {tb : WX → TS} (hs : X.stack = X.env :: X.outer) (hf : X.env.frame = some X.env.locals) (hN : X.N.Nodup) (tk : Takes X Wo)
    (hb : ∀ (W : WX) (ps : List (Addr × Obj)) (xe : Value → Shared → Prop), Takes (X.tr ps xe) W → PassesOwn (model X.prog X.w) X.A X.env xe → PSs (X.tr ps xe) body (tb W))
    (hk : Hs X (h1 :: hds) l) : PS X (.Try body (h1 :: hds) [] [] pos) (fun D σ H => tb (wHs X.K Wo D l) D σ H) := by
  refine ⟨fun pins s σ H D J h => ?_⟩
  have ok := J.ok
  have fr : X.A.frames = some (X.env :: X.outer) := by rw [ok.frames, hs]
  let caught : Value → Shared → Prop := fun u s2 => wpAny (model X.prog X.w) X.A (noteFrame u X.env) (fun _ s3 => wpAny (model X.prog X.w) X.A (setFlight u none) (fun _ s4 => wpAny (model X.prog X.w) X.A (handleBy u X.env (h1 :: hds)) (SP X pins D) X.xe s4) X.xe s3) X.xe s2
  have takes : Takes (X.tr (X.pn ++ pins) caught) (wHs X.K Wo D l) := by
    intro u s2 air
    obtain ⟨ad, gr, s0, _, σ2, H2, cls, d, rfl, J2, below, up, sky, new, os, bare, w⟩ := air
    have sky2 : Sky gr (X.env :: X.outer) ad (Zc cls d) X.env.locals s2.heap := by
      rw [← hs]
      exact sky
    show wpAny (model X.prog X.w) X.A (noteFrame (.ref ad) X.env) _ _ _
    refine Sky.land Zc.steady fr hf sky2 fun h3 fly up3 => ?_
    exact run_clauses hs hf hN tk hk ⟨J2.ofTry ok, below, up.trans up3, fly, new, os, bare⟩ w
  refine wpAny_Try_except (wpAny_mono ((hb (wHs X.K Wo D l) (X.pn ++ pins) caught takes PassesOwn.looking).run [] s σ H D (J.toTry _) h) (fun fl s2 hsp => ?_) fun u s2 hu => hu)
  cases fl with
  | next => obtain ⟨σ2, H2, J2, q2⟩ := hsp; exact wpAny_execs_nil ⟨σ2, H2, J2.ofTry ok, q2⟩
  | brk => obtain ⟨σ2, H2, J2, q2⟩ := hsp; exact ⟨σ2, H2, J2.ofTry ok, q2⟩
  | cont => obtain ⟨σ2, H2, J2, q2⟩ := hsp; exact ⟨σ2, H2, J2.ofTry ok, q2⟩
  | ret u => obtain ⟨v2, σ2, H2, J2, r2, q2⟩ := hsp; exact ⟨v2, σ2, H2, J2.ofTry ok, r2, q2⟩
end
end Pl
namespace Pl
open PySem PySem.Spec PyProof.Rows L2
variable {α β γ : Type} {c : Cn} {E : WX} {np : Nat} {W : Fm} {F H F' H' : Hp} {σ : L2.St} {ρ : Env}
/-! ## except suites over data -/
def NameV (mg : Str → Option Value) (y : Str) (cv : Value) : Prop := mg y = some cv ∨ (mg y = none ∧ bootBuiltins y = some cv)
theorem NameV.one {mg : Str → Option Value} {y : Str} {a b : Value} (h : NameV mg y a) (k : NameV mg y b) : a = b := by
  rcases h with h | ⟨h, h'⟩ <;> rcases k with k | ⟨k, k'⟩
  · exact Option.some.inj (h.symm.trans k)
  · rw [h] at k; cases k
  · rw [h] at k; cases k
  · exact Option.some.inj (h'.symm.trans k')
/-- what the module's classes of errors are to one another: is x a kind of y -/
structure ErrTab (K : PySem.W.Frag) (mg : Str → Option Value) (tab : Str → Str → Option Bool) : Prop where
  own : ∀ x y b, tab x y = some b → ∃ (D : Addr) (cv : Value), mg x = some (.ref D) ∧ NameV mg y cv ∧ ExcC K D ∧ PySem.W.exmOne K (.ref D) cv = some b ∧ PySem.W.kitOne K (.ref D) cv = some b
theorem XRep.mono {e : Exn} {cls : Value} {d : Option Addr} (s : Same F F') (x : XRep c F H e cls d) : XRep c F' H' e cls d := by
  obtain ⟨x1, x2⟩ := x
  refine ⟨x1, ?_⟩
  cases h : e.val with
  | none => rw [h] at x2; exact x2
  | some fv =>
    rw [h] at x2
    obtain ⟨f, v⟩ := fv
    obtain ⟨p, u, h1, h2, h3⟩ := x2
    exact ⟨p, u, h1, s _ _ h2, h3.mono s⟩
/-- an expression of a suite: the error is at hand -/
def Ev (c : Cn) (E : WX) (i : Option Nat) (ad : Addr) (cls : Value) (d : Option Addr) (e : Exn) (t : TE) (f : M D) : Prop := ∀ W F H σ ρ Q, Rel c W F H σ ρ → XRep c F H e cls d → (∀ j, i = some j → σ[j]? = some (some (.ref ad))) → Post c W F σ E (Rep c.K) (f ρ) Q → t σ H Q
section
variable {i : Option Nat} {ad : Addr} {cls : Value} {d : Option Addr} {e : Exn} {ta tb : TE} {fa fb : M D}
theorem ev_of (h : Ex c E ta fa) : Ev c E i ad cls d e ta fa := fun W F H σ ρ Q R _ _ q => h W F H σ ρ Q R q
theorem ev_and (ha : Ev c E i ad cls d e ta fa) (hb : Ev c E i ad cls d e tb fb) : Ev c E i ad cls d e (tAndV ta tb) (eAnd fa fb) := by
  intro W F H σ ρ Q R x hs h
  refine ha W F H σ ρ _ R x hs ((h.bind (Rep c.K)).mono fun y H1 ⟨z, ρ1, F1, R1, s1, r1, h1⟩ => ?_)
  cases ez : isBl z with
  | none =>
    have h1 : Post c W F1 σ E (Rep c.K) (((M.lift (isBl z)).bind fun k => if k = true then fb else M.pure (.bl false)) ρ1) Q := h1
    rw [ez] at h1
    exact h1.elim
  | some k =>
    have h1 : Post c W F1 σ E (Rep c.K) (((M.lift (isBl z)).bind fun k => if k = true then fb else M.pure (.bl false)) ρ1) Q := h1
    rw [ez] at h1
    have h1 : Post c W F1 σ E (Rep c.K) ((if k = true then fb else M.pure (.bl false)) ρ1) Q := h1
    refine ⟨k, rep_bl r1 ez, ?_⟩
    cases k with
    | true => exact hb W F1 H1 σ ρ1 _ R1 (x.mono s1) hs h1
    | false => exact h1 F1 H1 _ R1 (Same.refl _) rfl
/-- isinstance(e, y) -/
def tIsE (K : PySem.W.Frag) (ad : Addr) (cls : Value) (d : Option Addr) (j : Nat) (cv : Value) : TE := fun σ H Q => ∃ (Dx : Addr) (b : Bool), cls = .ref Dx ∧ d = none ∧ ExcC K Dx ∧ σ[j]? = some (some (.ref ad)) ∧ PySem.W.kitOne K (.ref Dx) cv = some b ∧ Q (.bl b) H
def eIsE (tab : Str → Str → Option Bool) (e : Exn) (y : Str) : M D := fun ρ => match e.val, tab e.cls y with
  | none, some b => .ok (.bl b) ρ
  | _, _ => .bad
theorem ev_isE {tab : Str → Str → Option Bool} {j : Nat} {y : Str} {cv : Value} (T : ErrTab c.K c.mg tab) (nm : NameV c.mg y cv) : Ev c E (some j) ad cls d e (tIsE c.K ad cls d j cv) (eIsE tab e y) := by
  intro W F H σ ρ Q R x hs h
  unfold eIsE at h
  cases ev : e.val with
  | some _ => rw [ev] at h; exact h.elim
  | none =>
    cases et : tab e.cls y with
    | none => rw [ev, et] at h; exact h.elim
    | some b =>
      rw [ev, et] at h
      obtain ⟨Dx, cv', h1, h2, h3, h4, h5⟩ := T.own _ _ _ et
      obtain ⟨x1, x2⟩ := x
      rw [ev] at x2
      have ec : cls = .ref Dx := NameV.one (mg := c.mg) (y := e.cls) x1 (.inl h1)
      rw [h2.one nm] at h5
      exact ⟨Dx, b, ec, x2, h3, hs j rfl, h5, h F H _ R (Same.refl _) rfl⟩
end
def SuG (c : Cn) (np : Nat) (i : Option Nat) (ts : Addr → Value → Option Addr → TS) (g : Exn → S) : Prop := ∀ (ad : Addr) (cls : Value) (d : Option Addr) (e : Exn) W F H σ ρ D, W.np = np → Rel c W F H σ ρ → XRep c F H e cls d → H ad = none → (∀ j, i = some j → σ[j]? = some (some (.ref ad))) →
  SPost c W F E0w D (g e ρ) → ts ad cls d D σ H
theorem su_of {i : Option Nat} {t : TS} {g : S} (h : Sx c E0w np t g) : SuG c np i (fun _ _ _ => t) (fun _ => g) := fun _ _ _ _ W F H σ ρ D hn R _ _ _ q => h W F H σ ρ D hn R q
theorem su_ret {i : Option Nat} {te : Addr → Value → Option Addr → TE} {f : Exn → M D} (h : ∀ ad cls d e, Ev c E0w i ad cls d e (te ad cls d) (f e)) : SuG c np i (fun ad cls d => tRet (te ad cls d)) (fun e => sRet (f e)) := by
  intro ad cls d e W F H σ ρ D hn R x _ hs q
  refine h ad cls d e W F H σ ρ _ R x hs ((SPost.bind (Rep c.K) q).mono fun v H1 ⟨y, ρ1, F1, R1, s1, r1, q1⟩ => ?_)
  exact q1 F1 H1 σ v R1 (Same.refl _) r1
/-- a name of which nothing is known any more -/
theorem Rel.blank {x : Option V} (R : Rel c W F H σ ρ) (i : Nat) : Rel c W F H (σ.set i x) (ρ.set i .u) where
  sub := R.sub
  nt := R.nt
  tab := R.tab
  len := by rw [List.length_set, List.length_set, R.len]
  here := fun j s e => by
    rcases set_at e with ⟨_, _, e3⟩ | ⟨e1, e2⟩
    · rw [← e3]; exact trivial
    · rw [List.getElem?_set_ne e1]
      exact R.here j s e2
  dis := fun j k s t p e1 e2 o1 o2 a1 a2 => by
    rcases set_at e1 with ⟨_, _, z⟩ | ⟨n1, e1⟩
    · subst z; cases o1
    · rcases set_at e2 with ⟨_, _, z⟩ | ⟨n2, e2⟩
      · subst z; cases o2
      · rw [List.getElem?_set_ne n1] at a1
        rw [List.getElem?_set_ne n2] at a2
        exact R.dis j k s t p e1 e2 o1 o2 a1 a2
  wb := R.wb
  pa := fun j p h => ⟨(R.pa j p h).1, fun s e o => by
    rcases set_at e with ⟨_, _, z⟩ | ⟨n1, e1⟩
    · subst z; cases o
    · rw [List.getElem?_set_ne n1]
      exact (R.pa j p h).2 s e1 o⟩
  lo := fun j s p h e o a => by
    rcases set_at e with ⟨_, _, z⟩ | ⟨n1, e1⟩
    · subst z; cases o
    · rw [List.getElem?_set_ne n1] at a
      exact R.lo j s p h e1 o a
  st := R.st
  kp := R.kp
  f0 := R.f0
  nf := R.nf
def wipeR (j : Nat) : Rs Ct → Rs Ct
  | .ok k ρ => .ok k (ρ.set j .u)
  | _ => .bad
def noEx : Rs Ct → Rs Ct
  | .ok k ρ => .ok k ρ
  | _ => .bad
theorem noEx_post {D : Ends} {r : Rs Ct} (h : SPost c W F E D (noEx r)) : SPost c W F E0w D r := by
  cases r with
  | ok k ρ => cases k <;> exact h
  | ex e ρ => exact h.elim
  | bad => exact h
abbrev HdM := Str × Option Nat × (Exn → S)
def catchM (tab : Str → Str → Option Bool) : List HdM → Exn → S
  | [], _ => fun _ => .bad
  | h :: r, e => fun ρ => match tab e.cls h.1 with
    | some true => match h.2.1 with
      | none => noEx (h.2.2 e ρ)
      | some j => if j < ρ.length then wipeR j (h.2.2 e (ρ.set j .u)) else .bad
    | some false => catchM tab r e ρ
    | none => .bad
inductive HsD (c : Cn) (np : Nat) : List Hdl → List HdM → Prop
  | nil : HsD c np [] []
  | cons {x : Str} {k : Value} {i : Option Nat} {ts : Addr → Value → Option Addr → TS} {g : Exn → S} {l : List Hdl} {m : List HdM} (nm : NameV c.mg x k) (su : SuG c np i ts g) (r : HsD c np l m) : HsD c np ((k, i, ts) :: l) ((x, i, g) :: m)
theorem catch_ok {tab : Str → Str → Option Bool} (T : ErrTab c.K c.mg tab) {cls : Value} {d : Option Addr} {e : Exn} {D : Ends} (hn : W.np = np) (R : Rel c W F H σ ρ) (x : XRep c F H e cls d) : ∀ {l : List Hdl} {m : List HdM}, HsD c np l m →
    SPost c W F E D (catchM tab m e ρ) → wHs c.K (fun _ _ _ _ => False) D l cls d σ H := by
  intro l m h
  induction h with
  | nil => exact fun q => q.elim
  | @cons y k i ts g l m nm su r ih =>
    intro q
    unfold catchM at q
    cases et : tab e.cls y with
    | none => rw [show tab e.cls (y, i, g).1 = none from et] at q; exact q.elim
    | some b =>
      rw [show tab e.cls (y, i, g).1 = some b from et] at q
      obtain ⟨Dx, cv', h1, h2, h3, h4, h5⟩ := T.own _ _ _ et
      have ec : cls = .ref Dx := NameV.one (mg := c.mg) (y := e.cls) x.1 (.inl h1)
      refine ⟨b, by rw [ec]; rw [h2.one nm] at h4; exact h4, fun hb ad hA => ?_, fun hb => ?_⟩
      · subst hb
        cases i with
        | none => exact su ad cls d e W F H σ ρ D hn R x hA (fun j z => by cases z) (noEx_post q)
        | some j =>
          have q : SPost c W F E D (if j < ρ.length then wipeR j (g e (ρ.set j .u)) else .bad) := q
          split at q
          · rename_i hj
            refine su ad cls d e W F H (σ.set j (some (.ref ad))) (ρ.set j .u) (endsE (some j) D) hn (R.blank j) x hA (fun j' z => by cases z; exact List.getElem?_set_self (by rw [R.len]; exact hj)) ?_
            revert q
            cases g e (ρ.set j .u) with
            | ok kk ρ1 =>
              cases kk with
              | nx => exact fun q F' H' σ' R' s => q F' H' _ (R'.blank j) s
              | rt z => exact fun q F' H' σ' v R' s r => q F' H' _ v (R'.blank (x := none) j) s r
              | rn ds => exact fun q F' H' σ' p R' s fr => q F' H' _ p (R'.blank (x := none) j) s ⟨fr.own, fr.h0, fun a t ea o => by
                  rcases set_at ea with ⟨_, _, z⟩ | ⟨n1, e1⟩
                  · subst z; cases o
                  · rw [List.getElem?_set_ne n1]
                    exact fr.no a t e1 o⟩
              | bk => exact fun q F' H' σ' R' s => q F' H' _ (R'.blank j) s
              | ct => exact fun q F' H' σ' R' s => q F' H' _ (R'.blank j) s
            | ex e1 ρ1 => exact fun q => q.elim
            | bad => exact fun q => q.elim
          · exact q.elim
      · subst hb
        exact ih q
/-- try: body / except .. -/
def sTry (tab : Str → Str → Option Bool) (body : S) (m : List HdM) : S := fun ρ => match body ρ with
  | .ex e ρ1 => catchM tab m e ρ1
  | r => r
theorem sx_try {tab : Str → Str → Option Bool} (T : ErrTab c.K c.mg tab) {tb : WX → TS} {gb : S} {l : List Hdl} {m : List HdM} (hb : ∀ W, Sx c W np (tb W) gb) (hk : HsD c np l m) : Sx c E np (fun D σ H => tb (wHs c.K (fun _ _ _ _ => False) D l) D σ H) (sTry tab gb m) := by
  intro W F H σ ρ D hn R q
  refine hb _ W F H σ ρ D hn R ?_
  unfold sTry at q
  revert q
  cases gb ρ with
  | ok k ρ1 => cases k <;> exact fun q => q
  | ex e ρ1 => exact fun q F' H' σ' cls od R' s x => catch_ok T hn R' x hk (q.up s)
  | bad => exact fun q => q
/-! ## a lambda handed to a def that calls it in a try -/
/-- the lambda's body sees the names of its maker; lists of the maker's own are out of its reach -/
def ro (ρ : Env) : Env := ρ.map fun s => if s.own = true then .u else s
def lamAn : Rs D → Rs An
  | .ok d _ => .ok (.v d) []
  | .ex e _ => .ex e []
  | .bad => .bad
/-- what the def is told of the lambda -/
def LamTell (c : Cn) (F H : Hp) (tl : XK → Hp → VK → Prop) (r : Rs An) : Prop := ∀ F1 H1, After c F H [] [] [] F1 H1 → ∀ (E : XK) (Q : VK), Out c F1 H1 [] [] Q E r → tl E H1 Q
/-- no list of the caller's goes in: what is told does not look at the rest -/
def LamGo (c : Cn) (gm : Rs An → Rs An) : (XK → Hp → VK → Prop) → Hp → VK → Prop := fun tl H Q => ∃ F r, Fz F H ∧ LamX.Tabs c.T H ∧ LamTell c F H tl r ∧ Out c F H [] [] Q (fun _ _ _ => False) (gm r)
theorem ro_get {j : Nat} {s : Slot} (h : (ro ρ)[j]? = some s) : s.own = false ∧ ∃ t, ρ[j]? = some t ∧ (s = t ∨ s = .u) := by
  unfold ro at h
  rw [List.getElem?_map] at h
  cases e : ρ[j]? with
  | none => rw [e] at h; cases h
  | some t =>
    rw [e] at h
    have h : (if t.own = true then Slot.u else t) = s := Option.some.inj h
    split at h
    · exact ⟨by rw [← h]; rfl, t, rfl, .inr h.symm⟩
    · rename_i o
      refine ⟨?_, t, rfl, .inl h.symm⟩
      rw [← h]
      simpa using o
def fmL (F H : Hp) : Fm where
  np := 0
  P := fun _ _ => False
  B := fun a => bl H a = none
  F0 := F
  H0 := bl H
theorem relL {H1 F1 H2 : Hp} (R : Rel c W F H σ ρ) (A : After c F H1 [] [] [] F1 H2) : Rel c (fmL F1 H2) F1 H2 σ (ro ρ) where
  sub := A.sub
  nt := A.nt
  tab := A.tab
  len := by unfold ro; rw [List.length_map, R.len]
  here := fun j s e => by
    obtain ⟨o, t, et, z | z⟩ := ro_get e
    · subst z
      have h := R.here j _ et
      cases s with
      | u => exact trivial
      | d x =>
        obtain ⟨v, e1, r⟩ := h
        exact ⟨v, e1, r.mono A.fs⟩
      | _ => cases o
    · rw [z]; exact trivial
  dis := fun j k s t p e1 _ o1 => by rw [(ro_get e1).1] at o1; cases o1
  wb := fun a h => h
  pa := fun j p h => h.elim
  lo := fun j s p _ e o => by rw [(ro_get e).1] at o; cases o
  st := fun a h => h
  kp := fun a o h1 h2 h3 => (bl_at h2).1
  f0 := Same.refl _
  nf := fun a h1 h2 => h1
theorem afterL {F1 H2 : Hp} {outs : List Slot} {ρ1 : Env} (R : Rel c (fmL F1 H2) F' H' σ ρ1) : After c F1 H2 [] [] outs F' H' where
  fs := R.f0
  sub := R.sub
  nt := R.nt
  tab := R.tab
  nw := R.nf
  hs := fun a o e n _ => R.kp a o (fun b => by
    have b : bl H2 a = none := b
    rw [bl_of e n] at b; cases b) (bl_of e n) n
  ht := R.st
  ow := fun j s p e => by simp at e
theorem Rel.ext {H1 : Hp} (R : Rel c W F H σ ρ) (eN : LamX.ExtN H H1) (T1 : LamX.Tabs c.T H1) : Rel c W F H1 σ ρ where
  sub := fun a o e => eN a o (R.sub a o e) fun ps z => R.nt a ps (by rw [e, z])
  nt := R.nt
  tab := T1
  len := R.len
  here := fun i s e => (R.here i s e).mono (Same.refl _) fun p _ h => h.mono (Same.refl _) h.at.1 fun o e n => eN p o e n
  dis := R.dis
  wb := R.wb
  pa := R.pa
  lo := R.lo
  st := fun a e => R.st a (bl_free (fun b o h n => eN b o h n) e)
  kp := fun a o h1 h2 h3 => eN a o (R.kp a o h1 h2 h3) h3
  f0 := R.f0
  nf := R.nf
/-- x(lambda: body) -/
def eLam (gm : Rs An → Rs An) (m : M D) : M D := fun ρ => match gm (lamAn (m (ro ρ))) with
  | .ok (.v d) _ => .ok d ρ
  | _ => .bad
theorem ex_lam {gm : Rs An → Rs An} {m : M D} {t : XK → TE} (hE : ∀ E' : XK, Ex c (fun cls od _ H => E' cls od H) (t E') m) : Ex c E (LamX.tLam c.T (LamGo c gm) t) (eLam gm m) := by
  intro W F H σ ρ Q R h
  refine ⟨R.tab, fun H1 eN T1 => ?_⟩
  have R1 := R.ext eN T1
  refine ⟨F, lamAn (m (ro ρ)), R1.fz, T1, fun F1 H2 A E' Q' o => ?_, ?_⟩
  · refine hE E' (fmL F1 H2) F1 H2 σ (ro ρ) Q' (relL R A) ?_
    revert o
    cases m (ro ρ) with
    | ok d ρ1 => exact fun o F' H' v R' s r => o F' H' v (afterL R') r
    | ex e ρ1 => exact fun o F' H' cls od R' s x => o F' H' cls od (afterL R') x
    | bad => exact fun o => o
  · unfold eLam at h
    revert h
    cases gm (lamAn (m (ro ρ))) with
    | ok a outs =>
      cases a with
      | v d =>
        intro h F' H' v A r
        refine h F' H' v ?_ A.fs r
        have A' : After c F H1 [] [] [] F' H' := ⟨A.fs, A.sub, A.nt, A.tab, A.nw, A.hs, A.ht, fun j s p e => by simp at e⟩
        exact R1.after (as := []) rfl rfl rfl A'
      | n ds => exact fun h => h.elim
    | ex e outs => exact fun h => h.elim
    | bad => exact fun h => h
end Pl
namespace Pl
open PySem PySem.Spec PyProof.Rows L2
variable {α β γ : Type} {c : Cn} {E : WX} {np : Nat} {W : Fm} {F H F' H' : Hp} {σ : L2.St} {ρ : Env}
/-! ## the def that gets the lambda -/
def endAn : Rs Ct → Rs An
  | .ok .nx _ => .ok (.v .non) []
  | .ok (.rt d) _ => .ok (.v d) []
  | _ => .bad
theorem SPost.seq {g gu : S} {D : Ends} {t2 : TS} (h2 : Sx c E np t2 gu) (hn : W.np = np) (h : SPost c W F E D (sSeq g gu ρ)) : SPost c W F E { D with nx := t2 D } (g ρ) := by
  unfold sSeq M.bind at h
  revert h
  cases g ρ with
  | ok k ρ' =>
    cases k with
    | nx => exact fun h F' H' σ' R' s => h2 W F' H' σ' ρ' D hn R' (h.up s)
    | rt d => exact fun h => h
    | rn ds => exact fun h => h
    | bk => exact fun h => h
    | ct => exact fun h => h
  | ex e ρ' => exact fun h => h
  | bad => exact fun h => h
theorem After.refl (fz : Fz F H) (tab : LamX.Tabs c.T H) : After c F H [] [] [] F H := ⟨Same.refl _, fz.1, fz.2, tab, fun a e _ => e, fun a o e _ _ => e, fun a e => e, fun j s p e => by simp at e⟩
/-- nothing is known of the names -/
theorem relU {outs : List Slot} (A : After c F H [] [] outs F' H') (σ : L2.St) : Rel c (fmL F H) F' H' σ (List.replicate σ.length .u) where
  sub := A.sub
  nt := A.nt
  tab := A.tab
  len := by rw [List.length_replicate]
  here := fun j s e => by
    rw [List.getElem?_replicate] at e
    split at e
    · cases e; exact trivial
    · cases e
  dis := fun j k s t p e1 _ o1 => by
    rw [List.getElem?_replicate] at e1
    split at e1
    · cases e1; cases o1
    · cases e1
  wb := fun a h => h
  pa := fun j p h => h.elim
  lo := fun j s p _ e o => by
    rw [List.getElem?_replicate] at e
    split at e
    · cases e; cases o
    · cases e
  st := A.ht
  kp := fun a o h1 h2 h3 => A.hs a o (bl_at h2).1 h3 fun j s e => by simp at e
  f0 := A.fs
  nf := A.nw
theorem end_post {D : Ends} {Q : VK} {E' : XK} {r : Rs Ct} (h : Out c F H [] [] Q E' (endAn r)) : SPost c (fmL F H) F E { nx := fun _ H' => Q .non H', rt := Q } r := by
  cases r with
  | ok k ρ =>
    cases k with
    | nx => exact fun F' H' σ' R' s => h F' H' .non (afterL R') rfl
    | rt d => exact fun F' H' σ' v R' s r => h F' H' v (afterL R') r
    | _ => exact h.elim
  | ex e ρ => exact h.elim
  | bad => exact h.elim
theorem Takes.long {X : Cx} {W : WX} (tk : Takes X W) : Takes X (fun cls d σ H => σ.length = X.N.length → W cls d σ H) := by
  intro u s' air
  obtain ⟨a, B, sI, pins, σ, H, cls, d, e, J, nb, up, sky, na, os, ag, w⟩ := air
  exact tk u s' ⟨a, B, sI, pins, σ, H, cls, d, e, J, nb, up, sky, na, os, ag, w J.len⟩
/-- def x(a): try: a() / except ..: .. ; the rest -/
def gmDo (tab : Str → Str → Option Bool) (m : List HdM) (mr : S) (n : Nat) : Rs An → Rs An
  | .ok (.v _) _ => endAn (mr (List.replicate n .u))
  | .ex e _ => endAn (sSeq (catchM tab m e) mr (List.replicate n .u))
  | _ => .bad
/-- def x(a): try: return a() / except ..: .. ; the rest -/
def gmRet (tab : Str → Str → Option Bool) (m : List HdM) (mr : S) (n : Nat) : Rs An → Rs An
  | .ok (.v d) _ => .ok (.v d) []
  | .ex e _ => endAn (sSeq (catchM tab m e) mr (List.replicate n .u))
  | _ => .bad
section
variable {X : Cx} {T : List (Addr × Str)} {tab : Str → Str → Option Bool} {Ng : List Str} {x a q : Str} {sg : Scope} {g : Addr} {cdg : Value} {h1 : ExceptHandler} {hds : List ExceptHandler} {l : List Hdl} {m : List HdM} {rest : List Stmt} {tr : TS} {mr : S} {p1 p2 p3 p4 : Pos}
theorem caught {D : Ends} {Q : VK} {E' : XK} {cls : Value} {od : Option Addr} {e : Exn} {n : Nat} (Te : ErrTab c.K c.mg tab) (hd : HsD c 0 l m) (hx : Sx c E0w 0 tr mr) (A : After c F H [] [] [] F' H') (xr : XRep c F' H' e cls od)
    (o : Out c F H [] [] Q E' (endAn (sSeq (catchM tab m e) mr (List.replicate n .u)))) (σ : L2.St) (hl : σ.length = n) : wHs c.K (fun _ _ _ _ => False) { nx := tr { nx := fun _ H' => Q .non H', rt := Q }, rt := Q } l cls od σ H' := by
  subst hl
  have p : SPost c (fmL F H) F E0w { nx := fun _ H' => Q .non H', rt := Q } (sSeq (catchM tab m e) mr (List.replicate σ.length .u)) := end_post (D := { nx := fun _ H' => Q .non H', rt := Q }) o
  exact catch_ok Te (np := 0) rfl (relU A σ) xr hd (SPost.seq hx rfl (p.up A.fs))
theorem gives_do (Te : ErrTab X.K X.mg tab) (hk : ∀ s H, Hs (cxOf C8.CX0 X.prog X.w X.K X.mg X.base Ng x sg g cdg X.A X.stack s H C8.E0).nox (h1 :: hds) l) (hd : HsD ⟨X.K, X.mg, T⟩ 0 l m)
    (hr : ∀ s H, PSs (cxOf C8.CX0 X.prog X.w X.K X.mg X.base Ng x sg g cdg X.A X.stack s H C8.E0).nox rest tr) (hx : Sx ⟨X.K, X.mg, T⟩ E0w 0 tr mr) (hN : Ng.Nodup) (h0 : ∀ f : Addr, (L2.start Ng [V.ref f])[0]? = some (some (V.ref f))) (hL : ∀ f : Addr, (L2.start Ng [V.ref f]).length = Ng.length) :
    LamX.GivesTo X Ng x sg g cdg (.Try [.Expr (.Call (.Name a p1) [] [] p2) p3] (h1 :: hds) [] [] p4 :: rest) a q (LamGo ⟨X.K, X.mg, T⟩ (gmDo tab m mr Ng.length)) := by
  intro f c' s H Q tl act hc go
  obtain ⟨F, r, fz, tb, tell, out⟩ := go
  refine ⟨_, pss_cons (ps_tries (tb := fun W D σ H => ∃ Ech : XK, (∀ cls d σ' H', Ech cls d H' → σ'.length = Ng.length → W cls d σ' H') ∧ σ[0]? = some (some (.ref f)) ∧ H c' = some (LamX.CodeO c' q) ∧ tl Ech H fun _ H' => D.nx σ H') rfl rfl hN L2.takes0 (fun W ps xe tk _ => ?_) (hk s H)) (hr s H), ?_⟩
  · refine ⟨fun pins s' σ H' D J h => ?_⟩
    obtain ⟨Ech, hW, e1, e2, e3⟩ := h
    have hp := act (fun cls d σ H => σ.length = Ng.length → W cls d σ H) ps xe Ech p1 p2 (Pl.Takes.long tk) fun cls d σ' H' w l => hW cls d σ' H' w l
    exact (pss_one (ps_expr (pos := p3) hp)).run pins s' σ H' D J ⟨e1, e2, e3⟩
  · refine ⟨fun cls d H' => ∀ σ' : L2.St, σ'.length = Ng.length → wHs X.K (fun _ _ _ _ => False) _ l cls d σ' H', fun cls d σ' H' w l => w σ' l, h0 f, hc, tell F H (After.refl fz tb) _ _ ?_⟩
    revert out
    cases r with
    | ok v outs =>
      cases v with
      | v d =>
        intro out F' H' v A _
        have A' : After ⟨X.K, X.mg, T⟩ F H [] [] [] F' H' := ⟨A.fs, A.sub, A.nt, A.tab, A.nw, A.hs, A.ht, fun j s p e => by simp at e⟩
        have o : Out ⟨X.K, X.mg, T⟩ F H [] [] Q (fun _ _ _ => False) (endAn (mr (List.replicate Ng.length .u))) := out
        rw [← hL f] at o
        exact hx (fmL F H) F' H' _ _ _ rfl (relU A' (L2.start Ng [V.ref f])) ((end_post (D := { nx := fun _ H' => Q .non H', rt := Q }) o).up A.fs)
      | n ds => exact fun out => out.elim
    | ex e outs =>
      intro out F' H' cls od A xr σ' hl
      have A' : After ⟨X.K, X.mg, T⟩ F H [] [] [] F' H' := ⟨A.fs, A.sub, A.nt, A.tab, A.nw, A.hs, A.ht, fun j s p e => by simp at e⟩
      exact caught (D := { nx := fun _ H' => Q .non H', rt := Q }) Te hd hx A' xr out σ' hl
    | bad => exact fun out => out.elim
theorem gives_ret (Te : ErrTab X.K X.mg tab) (hk : ∀ s H, Hs (cxOf C8.CX0 X.prog X.w X.K X.mg X.base Ng x sg g cdg X.A X.stack s H C8.E0).nox (h1 :: hds) l) (hd : HsD ⟨X.K, X.mg, T⟩ 0 l m)
    (hr : ∀ s H, PSs (cxOf C8.CX0 X.prog X.w X.K X.mg X.base Ng x sg g cdg X.A X.stack s H C8.E0).nox rest tr) (hx : Sx ⟨X.K, X.mg, T⟩ E0w 0 tr mr) (hN : Ng.Nodup) (h0 : ∀ f : Addr, (L2.start Ng [V.ref f])[0]? = some (some (V.ref f))) :
    LamX.GivesTo X Ng x sg g cdg (.Try [.Return (some (.Call (.Name a p1) [] [] p2)) p3] (h1 :: hds) [] [] p4 :: rest) a q (LamGo ⟨X.K, X.mg, T⟩ (gmRet tab m mr Ng.length)) := by
  intro f c' s H Q tl act hc go
  obtain ⟨F, r, fz, tb, tell, out⟩ := go
  refine ⟨_, pss_cons (ps_tries (tb := fun W D σ H => ∃ Ech : XK, (∀ cls d σ' H', Ech cls d H' → σ'.length = Ng.length → W cls d σ' H') ∧ σ[0]? = some (some (.ref f)) ∧ H c' = some (LamX.CodeO c' q) ∧ tl Ech H D.rt) rfl rfl hN L2.takes0 (fun W ps xe tk _ => ?_) (hk s H)) (hr s H), ?_⟩
  · refine ⟨fun pins s' σ H' D J h => ?_⟩
    obtain ⟨Ech, hW, e1, e2, e3⟩ := h
    have hp := act (fun cls d σ H => σ.length = Ng.length → W cls d σ H) ps xe Ech p1 p2 (Pl.Takes.long tk) fun cls d σ' H' w l => hW cls d σ' H' w l
    exact (pss_one (ps_ret (pos := p3) hp)).run pins s' σ H' D J ⟨e1, e2, e3⟩
  · refine ⟨fun cls d H' => ∀ σ' : L2.St, σ'.length = Ng.length → wHs X.K (fun _ _ _ _ => False) _ l cls d σ' H', fun cls d σ' H' w l => w σ' l, h0 f, hc, tell F H (After.refl fz tb) _ _ ?_⟩
    revert out
    cases r with
    | ok v outs =>
      cases v with
      | v d => exact fun out F' H' v A r => out F' H' v ⟨A.fs, A.sub, A.nt, A.tab, A.nw, A.hs, A.ht, fun j s p e => by simp at e⟩ r
      | n ds => exact fun out => out.elim
    | ex e outs =>
      intro out F' H' cls od A xr σ' hl
      have A' : After ⟨X.K, X.mg, T⟩ F H [] [] [] F' H' := ⟨A.fs, A.sub, A.nt, A.tab, A.nw, A.hs, A.ht, fun j s p e => by simp at e⟩
      exact caught (D := { nx := fun _ H' => Q .non H', rt := Q }) Te hd hx A' xr out σ' hl
    | bad => exact fun out => out.elim
end
end Pl
namespace Pl
open PySem PySem.Spec PyProof.Rows L2
variable {b : Bool} {α β γ : Type} {c : Cn} {E : WX} {np : Nat}
/-! ## a def that makes lambdas: its code object is known -/
structure FunC (K : PySem.W.Frag) (x qual : Str) (st : Stmt) (f : Addr) (fd : FuncData) (cd : Value) : Prop where
  ex : ∃ (oc : Value) (od : Option Addr) (kV doc pm : Value) (an : Option Addr) (ct : Value) (osl : Array (Option Value)),
    fd = PySem.W.fnOf x qual (defArgs st) (defBody st) (defScope st) .none kV doc pm an cd ct ∧ K.lookup f = some ⟨oc, od, .func fd, osl⟩ ∧ PySem.W.codeIn K cd qual = true
section
variable {P : Program} {w : World} {K : PySem.W.Frag} {mg : Str → Option Value} {base : Heap} {T : List (Addr × Str)}
theorem fn_bodyC {x qual : Str} {st : Stmt} {f : Addr} {fd : FuncData} {cd : Value} {N ps : List Str} {k n : Nat} {g : S} (Fu : FunC K x qual st f fd cd) (Sc : FnScope N ps (defScope st)) (hn : N.length = ps.length + n)
    (hbody : ∀ (A : Around) (outer : List PySem.Env) (s : Shared) (H : Hp) (E : XK), Room k (A.deeper (envOfC qual (defScope st) s.heap.objs.size f cd)) → Gd b A →
      ∃ t, PSs (cxOf (L2.CX P w) P w K mg base N qual (defScope st) f cd A outer s H E) (defBody st) t ∧ Sx ⟨K, mg, T⟩ (fun cls od _ H => E cls od H) ps.length t g) : FnG b P w K mg base (k + 1) f fd ps (spM ⟨K, mg, T⟩ (runBody ps.length n g)) := by
  obtain ⟨oc, od, kV, doc, pm, an, ct, osl, efd, look, rec⟩ := Fu.ex
  subst efd
  have len : ∀ vs H Q E, spM ⟨K, mg, T⟩ (runBody ps.length n g) vs H Q E → vs.length = ps.length := fun vs H Q E h => by
    obtain ⟨F, qs, _, _, par, hm⟩ := h
    unfold runBody at hm
    by_cases hl : qs.length = ps.length
    · rw [← par.len, hl]
    · rw [if_neg hl] at hm
      exact hm.elim
  refine ⟨len, fun A outer s H args us vs Q E hr hgu e0 hb r hsp => ?_⟩
  have stays : ∀ a o, base.get? a = some o → s.heap.get? a = some o := fun a o z => (e0.bs a o z).1
  have inK : K.In s.heap := e0.mod.kin.keeps stays
  have roomy : s.heap.NoLimit := e0.mod.nolimit.keeps stays
  have hv := len _ _ _ _ hsp
  refine codeAny_call_function hr.depth (inK _ _ look) rfl Sc.co Sc.gen rfl (PySem.W.codeRec_of inK rec) (hb _ _ _ _ (wpAny_newFunctionEnv_cells Sc.kind (fun y hy => ?_) fun env he s1 z => ?_))
  · rcases Sc.par y.1 (List.of_mem_zip hy).1 with l | l
    · exact .inl l
    · exact .inr ⟨l, PySem.W.cellsFrom_some _ _ _ (.inl l)⟩
  · subst he
    refine ⟨roomy.keeps z.toInCall.keep, codeAny_func ?_⟩
    obtain ⟨t, ht, hx⟩ := hbody A outer s H E (hr.deeper _) hgu
    have J := inv_start (CX := L2.CX P w) (E := E) Sc hr.hd e0 hv r z
    obtain ⟨F, qs, fz, tab, par, hm⟩ := hsp
    have hq : qs.length = ps.length := by rw [par.len, hv]
    rw [← hq] at hx hm hn
    refine wpAny_mono (ht.run [] s1 _ H _ J (out_end hx hn fz tab par hm)) (fun fl s' hs => ?_) fun _ _ hs => hs
    cases fl with
    | ret u =>
      obtain ⟨v, σ', H', J', rv, q⟩ := hs
      exact ⟨v, H', J'.os, J'.bare, J'.base, J'.hok, rv, q⟩
    | next =>
      obtain ⟨σ', H', J', q⟩ := hs
      exact ⟨V.non, H', J'.os, J'.bare, J'.base, J'.hok, rfl, q⟩
    | brk => exact (show False from hs.choose_spec.choose_spec.2).elim
    | cont => exact (show False from hs.choose_spec.choose_spec.2).elim
end
section
variable {X : Cx} {T : List (Addr × Str)}
/-- x(lambda: body) -/
theorem pe_lamG {x a : Str} {stg : Stmt} {g c P : Addr} {fdg : FuncData} {k : Nat} {Ng : List Str} {gm : Rs An → Rs An} {params : Arguments} {body : Expr} {scope : Scope} {t : XK → TE} {p lpos pos : Pos} (Fg : Fun X.K x x stg g fdg) (bi : Binds X.K fdg [a] []) (hm : X.mg x = some (.ref g)) (Sg : FnScope Ng [a] (defScope stg))
    (hG : ∀ cdg : Value, LamX.GivesTo X Ng x (defScope stg) g cdg (defBody stg) a (X.env.qual ++ "<lambda>") (LamGo ⟨X.K, X.mg, T⟩ gm))
    (TB : LamX.TabB X.base X.mg c P) (hcode : X.env.code = .ref c) (hmT : (P, X.env.qual ++ "<lambda>") ∈ T) (hu : ∀ p ∈ T, p.1 = P → p.2 = X.env.qual ++ "<lambda>") (hr : Room (k + 2) X.A)
    (hbody : ∀ (A : Around) (outer : List PySem.Env) (s : Shared) (H : Hp) (E : XK) (f c' : Addr), Room k (A.deeper (LamX.lamEnv X scope s.heap.objs.size f c')) → PE (LamX.lamCx X A outer s H E scope f c') body (t E))
    (hg : Gl X x) (hNg : Ng[0]? = some a) (hva : Vis (defScope stg) a) (L : LamX.LamS X.env.scope scope) (hdef : defaultsOf params X.env = ([], []))
    (hbind : ∀ (q : Str) (cl : List (Str × Addr)) (pm cv ctv : Value), bindArgs (PySem.W.kla_fn "<lambda>" q params body scope cl pm cv ctv) ⟨[], []⟩ = pure [])
    (hdb : (x == ("__debug__" : Str)) = false := by decide) (hd : (a == ("__debug__" : Str)) = false := by decide) (hcd : (a == ("__classdict__" : Str)) = false := by decide) : PE X (.Call (.Name x p) [.Lambda params body scope lpos] [] pos) (LamX.tLam T (LamGo ⟨X.K, X.mg, T⟩ gm) t) := by
  obtain ⟨oc, od, kV, doc, pm, an, cdv, ct, osl, efd, look, rec⟩ := Fg.ex
  subst efd
  exact LamX.pe_lamcall (hg := hg) (hm := hm) (hk := Fg.kp) (lk := look) (hcg := rec) (hb := bi) (Sg := Sg) (hNg := hNg) (hva := hva) (hG := hG cdv) (TB := TB) (hcode := hcode) (hmT := hmT) (hu := hu) (hr := hr) (L := L) (hdef := hdef) (hbind := hbind) (hbody := hbody) (hdb := hdb) (hd := hd) (hcd := hcd)
/-- isinstance(e, y) in a suite -/
theorem pe_isE {ad : Addr} {ob : Obj} {ps : List (Addr × Obj)} {cls : Value} {d : Option Addr} {j : Nat} {n : Str} {pn p pos : Pos} {e2 : Expr} {vv : V} {cv : Value} (hz : Zc cls d ob) (hf : ∃ q, ob.data = .fields q) (h1 : PE (X.suite ad ((ad, ob) :: ps)) (.Name n pn) (tVar j)) (h2 : PE (X.suite ad ((ad, ob) :: ps)) e2 (tC vv)) (hcv : ∀ u, RelV vv u → u = cv)
    (hg : Gl X "isinstance") (hm : X.mg "isinstance" = none) (hst : starEach [.Name n pn, e2] X.env = (false, eval (.Name n pn) X.env) :: starEach [e2] X.env := by rfl) (hpl : (backTo pos (starEach [e2] X.env)).any (·.1) = false := by rfl) (hs2 : starEach [e2] X.env = (false, eval e2 X.env) :: starEach [] X.env := by rfl) :
    PE (X.suite ad ((ad, ob) :: ps)) (.Call (.Name "isinstance" p) [.Name n pn, e2] [] pos) (tIsE X.K ad cls d j cv) := by
  refine ⟨fun pins s σ H Q J h => ?_⟩
  obtain ⟨Dx, k, ec, ed, C, hs, hk, hq⟩ := h
  subst ec ed
  exact (pe_callB (call_isE C hz hf) hg hm (by decide +kernel) (pa_cons h1 (pa_cons h2 pa_nil (hs := hs2))) (he := hst) (hpl := hpl)).run pins s σ H Q J ⟨.ref ad, hs, vv, cv, k, rfl, hcv, hk, hq⟩
end
end Pl
namespace Pl
open PySem PySem.Spec PyProof.Rows L2
def top (i : Nat) : Stmt := PySem.Challenge.pw_openlimit_k17_choice_and_sequence.main.body.getD i (.Pass ⟨0, 0, 0, 0⟩)
abbrev s_is_grade : Stmt := top 6
abbrev s_check_grades : Stmt := top 10
abbrev s_choice : Stmt := top 11
abbrev s_sequence : Stmt := top 12
abbrev s_law_stream : Stmt := top 14
abbrev s_law_draw : Stmt := top 15
abbrev s_law_better : Stmt := top 16
abbrev s_law_joined : Stmt := top 17
abbrev s_law_other : Stmt := top 18
abbrev s_law_right : Stmt := top 20
abbrev s_law_all_right : Stmt := top 21
theorem hr_u {k : Nat} {A : Around} (hr : Room k A) : A.units + 64 < cLine := hr.units
def tab_CODES : List (Str × D) := [(Str.ofString "restart", .int 16843009), (Str.ofString "free", .int 65793), (Str.ofString "paid", .int 257), (Str.ofString "dear", .int 1), (Str.ofString "none", .int 0)]
def tab_NAMES : List (Int × D) := [(16843009, .str (Str.ofString "restart")), (65793, .str (Str.ofString "free")), (257, .str (Str.ofString "paid")), (1, .str (Str.ofString "dear")), (0, .str (Str.ofString "none"))]
def tab_SERIES : List D := [.str (Str.ofString "free"), .str (Str.ofString "paid"), .str (Str.ofString "restart"), .str (Str.ofString "dear"), .str (Str.ofString "none")]
def tab_GRADES : List D := [.str (Str.ofString "restart"), .str (Str.ofString "free"), .str (Str.ofString "paid"), .str (Str.ofString "dear"), .str (Str.ofString "none")]
section
variable {b : Bool} {P : Program} {w : World} {K : PySem.W.Frag} {mg : Str → Option Value} {base : Heap} {f : Addr} {fd : FuncData} {T : List (Addr × Str)}
def m_law_stream : S := (sSeq (sAsg (nmD 2) (eOp addD (eOp mulD (eCon (.int 7)) (eVar 1)) (eCon (.int 3))))
      (sSeq (sIf (tTru isBl (eOp ltD (eVar 1) (eCall lenD (aCons (eVar 0) aNil))))
      (sAsg (nmD 2) (eOp ixD (eVar 0) (eVar 1)))
      sNext)
      (sSeq (sAsg (nmD 3) (eOp modD (eCall absD (aCons (eVar 2) aNil)) (eOp powD (eOp powD (eCon (.int 10)) (eCon (.int 60))) (eCon (.int 12)))))
      (sSeq (sAsg (nmD 4) (eOp modD (eOp addD (eOp addD (eOp addD (eOp mulD (eOp modD (eVar 3) (eCon (.int 2147483629))) (eCon (.int 48271))) (eOp mulD (eCon (.int 977)) (eVar 1))) (eOp mulD (eCon (.int 2)) (eCall intD (aCons (eOp ltD (eVar 2) (eCon (.int 0))) aNil)))) (eCon (.int 11))) (eCon (.int 2147483647))))
      (sRetN (eNew (aCons (eCall max2D (aCons (eCon (.int 0)) (aCons (eOp subD (eVar 3) (eOp powD (eCon (.int 10)) (eCon (.int 18)))) aNil))) (aCons (eVar 4) (aCons (eCon (.int 0)) aNil)))))))))
def f_law_stream : FnM := runBody 2 3 m_law_stream
theorem sc_law_stream : FnScope ["script", "at", "cell", "great", "mixed"] ["script", "at"] (defScope s_law_stream) := ⟨rfl, rfl, rfl, by decide +kernel, rfl, by decide +kernel, by decide +kernel⟩
theorem ok_law_stream (g_len : mg "len" = none) (g_abs : mg "abs" = none) (g_int : mg "int" = none) (g_max : mg "max" = none) (F : Fun K "_law_stream" "_law_stream" s_law_stream f fd) : FnG b P w K mg base (0 + 1) f fd ["script", "at"] (spM ⟨K, mg, T⟩ f_law_stream) :=
  fn_body F sc_law_stream rfl fun cdv A outer s H E hr hgu => ⟨_, (pss_cons (ps_set (i := 2) sc_law_stream.nd rfl (by first | exact Or.inl rfl | exact Or.inr rfl) (pe_op op_addX (pe_op op_mulX pe_int (pv 1)) pe_int))
      (pss_cons (ps_if (pt_cmpR (op_ltX (hr_u hr)) (pv 1) (pe_callB call_lenX (by rfl) g_len (by decide +kernel) (pa_cons (pv 0) pa_nil)) (nomark _))
      (pss_one (ps_set (i := 2) sc_law_stream.nd rfl (by first | exact Or.inl rfl | exact Or.inr rfl) (pe_ix ix_X (pv 0) (pv 1) (fun _ _ => rfl))))
      pss_nil)
      (pss_cons (ps_set (i := 3) sc_law_stream.nd rfl (by first | exact Or.inl rfl | exact Or.inr rfl) (pe_op op_modX (pe_callB call_absX (by rfl) g_abs (by decide +kernel) (pa_cons (pv 2) pa_nil)) (pe_op op_powX (pe_op op_powX pe_int pe_int) pe_int)))
      (pss_cons (ps_set (i := 4) sc_law_stream.nd rfl (by first | exact Or.inl rfl | exact Or.inr rfl) (pe_op op_modX (pe_op op_addX (pe_op op_addX (pe_op op_addX (pe_op op_mulX (pe_op op_modX (pv 3) pe_int) pe_int) (pe_op op_mulX pe_int (pv 1))) (pe_op op_mulX pe_int (pe_callTy call_intX (by rfl) g_int (by decide +kernel) (pa_cons (pe_cmpR (op_ltX (hr_u hr)) (pv 2) pe_int (nomark _)) pa_nil)))) pe_int) pe_int))
      (pss_one (ps_ret (pe_lst (pa_cons (pe_callB (call_max2X rfl) (by rfl) g_max (by decide +kernel) (pa_cons pe_int (pa_cons (pe_op op_subX (pv 3) (pe_op op_powX pe_int pe_int)) pa_nil))) (pa_cons (pv 4) (pa_cons pe_int pa_nil)))))))))),
    (sx_seq (sx_asg (ex_op (ex_op (ex_con fun _ => rfl) (ex_var (i := 1))) (ex_con fun _ => rfl)) gx_name)
      (sx_seq (sx_if (tx_test (ex_op (ex_var (i := 1)) (ex_cD (ax_cons (ex_var (i := 0)) ax_nil))))
      (sx_asg (ex_op (ex_var (i := 0)) (ex_var (i := 1))) gx_name)
      sx_next)
      (sx_seq (sx_asg (ex_op (ex_cD (ax_cons (ex_var (i := 2)) ax_nil)) (ex_op (ex_op (ex_con fun _ => rfl) (ex_con fun _ => rfl)) (ex_con fun _ => rfl))) gx_name)
      (sx_seq (sx_asg (ex_op (ex_op (ex_op (ex_op (ex_op (ex_op (ex_var (i := 3)) (ex_con fun _ => rfl)) (ex_con fun _ => rfl)) (ex_op (ex_con fun _ => rfl) (ex_var (i := 1)))) (ex_op (ex_con fun _ => rfl) (ex_cD (ax_cons (ex_op (ex_var (i := 2)) (ex_con fun _ => rfl)) ax_nil)))) (ex_con fun _ => rfl)) (ex_con fun _ => rfl)) gx_name)
      (sx_retNew (ef_lst (ax_cons (ex_cD (ax_cons (ex_con fun _ => rfl) (ax_cons (ex_op (ex_var (i := 3)) (ex_op (ex_con fun _ => rfl) (ex_con fun _ => rfl))) ax_nil))) (ax_cons (ex_var (i := 4)) (ax_cons (ex_con fun _ => rfl) ax_nil)))))))))⟩
def m_law_draw : S := (sSeq (sIf (tTru isBl (eOp gtD (eIxO 0 (eCon (.int 0))) (eCon (.int 0))))
      (sSeq (sAsg (nmD 2) (eOp modD (eIxO 0 (eCon (.int 0))) (eVar 1)))
      (sSeq (sSetO 0 (eCon (.int 0)) (eOp fdivD (eIxO 0 (eCon (.int 0))) (eVar 1)))
      (sRet (eVar 2))))
      sNext)
      (sSeq (sSetO 0 (eCon (.int 2)) (eOp addD (eIxO 0 (eCon (.int 2))) (eCon (.int 1))))
      (sSeq (sAsg (nmD 3) (eOp modD (eOp addD (eIxO 0 (eCon (.int 1))) (eOp mulD (eCon (.int 1000003)) (eIxO 0 (eCon (.int 2))))) (eCon (.int 2305843009213693951))))
      (sSeq (sAsg (nmD 4) (eOp modD (eOp addD (eOp mulD (eOp modD (eOp mulD (eVar 3) (eVar 3)) (eCon (.int 2305843009213693921))) (eVar 3)) (eOp mulD (eCon (.int 8191)) (eIxO 0 (eCon (.int 2))))) (eCon (.int 2305843009213693907))))
      (sRet (eOp modD (eOp fdivD (eVar 4) (eCon (.int 4096))) (eVar 1)))))))
def f_law_draw : FnM := runBody 2 3 m_law_draw
theorem sc_law_draw : FnScope ["stream", "total", "found", "one", "two"] ["stream", "total"] (defScope s_law_draw) := ⟨rfl, rfl, rfl, by decide +kernel, rfl, by decide +kernel, by decide +kernel⟩
theorem ok_law_draw  (F : Fun K "_law_draw" "_law_draw" s_law_draw f fd) : FnG b P w K mg base (0 + 1) f fd ["stream", "total"] (spM ⟨K, mg, T⟩ f_law_draw) :=
  fn_body F sc_law_draw rfl fun cdv A outer s H E hr hgu => ⟨_, (pss_cons (ps_if (pt_cmpR op_gtX (pe_ix ix_seq (pv 0) pe_int (fun _ _ => rfl)) pe_int (nomark _))
      (pss_cons (ps_set (i := 2) sc_law_draw.nd rfl (by first | exact Or.inl rfl | exact Or.inr rfl) (pe_op op_modX (pe_ix ix_seq (pv 0) pe_int (fun _ _ => rfl)) (pv 1)))
      (pss_cons (ps_asg (pe_op op_fdivX (pe_ix ix_seq (pv 0) pe_int (fun _ _ => rfl)) (pv 1)) (pg_sub (pv 0) pe_int set_list))
      (pss_one (ps_ret (pv 2)))))
      pss_nil)
      (pss_cons (ps_asg (pe_op op_addX (pe_ix ix_seq (pv 0) pe_int (fun _ _ => rfl)) pe_int) (pg_sub (pv 0) pe_int set_list))
      (pss_cons (ps_set (i := 3) sc_law_draw.nd rfl (by first | exact Or.inl rfl | exact Or.inr rfl) (pe_op op_modX (pe_op op_addX (pe_ix ix_seq (pv 0) pe_int (fun _ _ => rfl)) (pe_op op_mulX pe_int (pe_ix ix_seq (pv 0) pe_int (fun _ _ => rfl)))) pe_int))
      (pss_cons (ps_set (i := 4) sc_law_draw.nd rfl (by first | exact Or.inl rfl | exact Or.inr rfl) (pe_op op_modX (pe_op op_addX (pe_op op_mulX (pe_op op_modX (pe_op op_mulX (pv 3) (pv 3)) pe_int) (pv 3)) (pe_op op_mulX pe_int (pe_ix ix_seq (pv 0) pe_int (fun _ _ => rfl)))) pe_int))
      (pss_one (ps_ret (pe_op op_modX (pe_op op_fdivX (pv 4) pe_int) (pv 1)))))))),
    (sx_seq (sx_if (tx_test (ex_op (ex_ixO (ex_con fun _ => rfl)) (ex_con fun _ => rfl)))
      (sx_seq (sx_asg (ex_op (ex_ixO (ex_con fun _ => rfl)) (ex_var (i := 1))) gx_name)
      (sx_seq (sx_setO (ex_op (ex_ixO (ex_con fun _ => rfl)) (ex_var (i := 1))) (ex_con fun _ => rfl))
      (sx_ret (ex_var (i := 2)))))
      sx_next)
      (sx_seq (sx_setO (ex_op (ex_ixO (ex_con fun _ => rfl)) (ex_con fun _ => rfl)) (ex_con fun _ => rfl))
      (sx_seq (sx_asg (ex_op (ex_op (ex_ixO (ex_con fun _ => rfl)) (ex_op (ex_con fun _ => rfl) (ex_ixO (ex_con fun _ => rfl)))) (ex_con fun _ => rfl)) gx_name)
      (sx_seq (sx_asg (ex_op (ex_op (ex_op (ex_op (ex_op (ex_var (i := 3)) (ex_var (i := 3))) (ex_con fun _ => rfl)) (ex_var (i := 3))) (ex_op (ex_con fun _ => rfl) (ex_ixO (ex_con fun _ => rfl)))) (ex_con fun _ => rfl)) gx_name)
      (sx_ret (ex_op (ex_op (ex_var (i := 4)) (ex_con fun _ => rfl)) (ex_var (i := 1))))))))⟩
def m_law_better : S := (sSeq (sAsg (nmD 2) (eLst (aCons (eCon (.str (Str.ofString "restart"))) (aCons (eCon (.str (Str.ofString "free"))) (aCons (eCon (.str (Str.ofString "paid"))) (aCons (eCon (.str (Str.ofString "dear"))) (aCons (eCon (.str (Str.ofString "none"))) aNil)))))))
      (sRet (eOp ixD (eVar 2) (eCall min2D (aCons (eIdx (eVar 2) (aCons (eVar 0) aNil)) (aCons (eIdx (eVar 2) (aCons (eVar 1) aNil)) aNil))))))
def f_law_better : FnM := runBody 2 1 m_law_better
theorem sc_law_better : FnScope ["one", "other", "order"] ["one", "other"] (defScope s_law_better) := ⟨rfl, rfl, rfl, by decide +kernel, rfl, by decide +kernel, by decide +kernel⟩
theorem ok_law_better (g_min : mg "min" = none) (F : Fun K "_law_better" "_law_better" s_law_better f fd) : FnG b P w K mg base (0 + 1) f fd ["one", "other"] (spM ⟨K, mg, T⟩ f_law_better) :=
  fn_body F sc_law_better rfl fun cdv A outer s H E hr hgu => ⟨_, (pss_cons (ps_set (i := 2) sc_law_better.nd rfl (by first | exact Or.inl rfl | exact Or.inr rfl) (pe_lst (pa_cons pe_str (pa_cons pe_str (pa_cons pe_str (pa_cons pe_str (pa_cons pe_str pa_nil)))))))
      (pss_one (ps_ret (pe_ix ix_X (pv 2) (pe_callB (call_min2X rfl) (by rfl) g_min (by decide +kernel) (pa_cons (pe_bm PySem.F.plainAttrs_list PySem.F.slot_list_index PySem.F.type_list_index mt_index (pv 2) (pa_cons (pv 0) pa_nil)) (pa_cons (pe_bm PySem.F.plainAttrs_list PySem.F.slot_list_index PySem.F.type_list_index mt_index (pv 2) (pa_cons (pv 1) pa_nil)) pa_nil))) (fun _ _ => rfl))))),
    (sx_seq (sx_asg (ex_lst (ax_cons (ex_con fun _ => rfl) (ax_cons (ex_con fun _ => rfl) (ax_cons (ex_con fun _ => rfl) (ax_cons (ex_con fun _ => rfl) (ax_cons (ex_con fun _ => rfl) ax_nil)))))) gx_name)
      (sx_ret (ex_op (ex_var (i := 2)) (ex_cD (ax_cons (ex_idx (ex_var (i := 2)) (ax_cons (ex_var (i := 0)) ax_nil)) (ax_cons (ex_idx (ex_var (i := 2)) (ax_cons (ex_var (i := 1)) ax_nil)) ax_nil))))))⟩
def m_law_joined : S := (sSeq (sAsg (nmD 2) (eLst (aCons (eCon (.str (Str.ofString "free"))) (aCons (eCon (.str (Str.ofString "paid"))) (aCons (eCon (.str (Str.ofString "restart"))) (aCons (eCon (.str (Str.ofString "dear"))) (aCons (eCon (.str (Str.ofString "none"))) aNil)))))))
      (sRet (eOp ixD (eVar 2) (eCall max2D (aCons (eIdx (eVar 2) (aCons (eVar 0) aNil)) (aCons (eIdx (eVar 2) (aCons (eVar 1) aNil)) aNil))))))
def f_law_joined : FnM := runBody 2 1 m_law_joined
theorem sc_law_joined : FnScope ["one", "other", "order"] ["one", "other"] (defScope s_law_joined) := ⟨rfl, rfl, rfl, by decide +kernel, rfl, by decide +kernel, by decide +kernel⟩
theorem ok_law_joined (g_max : mg "max" = none) (F : Fun K "_law_joined" "_law_joined" s_law_joined f fd) : FnG b P w K mg base (0 + 1) f fd ["one", "other"] (spM ⟨K, mg, T⟩ f_law_joined) :=
  fn_body F sc_law_joined rfl fun cdv A outer s H E hr hgu => ⟨_, (pss_cons (ps_set (i := 2) sc_law_joined.nd rfl (by first | exact Or.inl rfl | exact Or.inr rfl) (pe_lst (pa_cons pe_str (pa_cons pe_str (pa_cons pe_str (pa_cons pe_str (pa_cons pe_str pa_nil)))))))
      (pss_one (ps_ret (pe_ix ix_X (pv 2) (pe_callB (call_max2X rfl) (by rfl) g_max (by decide +kernel) (pa_cons (pe_bm PySem.F.plainAttrs_list PySem.F.slot_list_index PySem.F.type_list_index mt_index (pv 2) (pa_cons (pv 0) pa_nil)) (pa_cons (pe_bm PySem.F.plainAttrs_list PySem.F.slot_list_index PySem.F.type_list_index mt_index (pv 2) (pa_cons (pv 1) pa_nil)) pa_nil))) (fun _ _ => rfl))))),
    (sx_seq (sx_asg (ex_lst (ax_cons (ex_con fun _ => rfl) (ax_cons (ex_con fun _ => rfl) (ax_cons (ex_con fun _ => rfl) (ax_cons (ex_con fun _ => rfl) (ax_cons (ex_con fun _ => rfl) ax_nil)))))) gx_name)
      (sx_ret (ex_op (ex_var (i := 2)) (ex_cD (ax_cons (ex_idx (ex_var (i := 2)) (ax_cons (ex_var (i := 0)) ax_nil)) (ax_cons (ex_idx (ex_var (i := 2)) (ax_cons (ex_var (i := 1)) ax_nil)) ax_nil))))))⟩
def m_law_other : S := (sSeq (sAsg (nmD 1) (eLst (aCons (eCon .non) (aCons (eCon (.bl true)) (aCons (eUn negD (eCon (.int 1))) (aCons (eCon (.int 0)) (aCons (eCon (.int 1)) (aCons (eCon (.str (Str.ofString ""))) (aCons (eCon (.str (Str.ofString "a"))) (aCons (eCon (.str (Str.ofString "ab"))) (aCons (eTup aNil) (aCons (eLst aNil) (aCons (eDct []) (aCons (eTup (aCons (eCon (.int 0)) aNil)) (aCons (eTup (aCons (eCon (.str (Str.ofString "a"))) aNil)) (aCons (eOp powD (eCon (.int 10)) (eCon (.int 39))) aNil))))))))))))))))
      (sSeq (sAsg (nmD 1) (eOp addD (eVar 1) (eLst (aCons (eCon (.str (Str.ofString "never"))) (aCons (eTup (aCons (eCon .non) aNil)) (aCons (eTup (aCons (eTup aNil) aNil)) (aCons (eLst (aCons (eTup aNil) aNil)) (aCons (eDct [(.inl 0, .int (1))]) aNil))))))))
      (sRet (eOp ixD (eVar 1) (callM f_law_draw (aoOwn 0 (aoCons (eCall lenD (aCons (eVar 1) aNil)) aoNil)))))))
def f_law_other : FnM := runBody 1 1 m_law_other
theorem sc_law_other : FnScope ["stream", "some"] ["stream"] (defScope s_law_other) := ⟨rfl, rfl, rfl, by decide +kernel, rfl, by decide +kernel, by decide +kernel⟩
theorem ok_law_other (g_len : mg "len" = none) (c_law_draw : HasG b P w K mg base "_law_draw" 1 ["stream", "total"] (spM ⟨K, mg, T⟩ f_law_draw)) (F : Fun K "_law_other" "_law_other" s_law_other f fd) : FnG b P w K mg base (1 + 1) f fd ["stream"] (spM ⟨K, mg, T⟩ f_law_other) :=
  fn_body F sc_law_other rfl fun cdv A outer s H E hr hgu => ⟨_, (pss_cons (ps_set (i := 1) sc_law_other.nd rfl (by first | exact Or.inl rfl | exact Or.inr rfl) (pe_lst (pa_cons pe_non (pa_cons pe_bl (pa_cons (pe_un un_negX pe_int) (pa_cons pe_int (pa_cons pe_int (pa_cons pe_str (pa_cons pe_str (pa_cons pe_str (pa_cons (pe_tup pa_nil) (pa_cons (pe_lst pa_nil) (pa_cons pe_dnewK (pa_cons (pe_tup (pa_cons pe_int pa_nil)) (pa_cons (pe_tup (pa_cons pe_str pa_nil)) (pa_cons (pe_op op_powX pe_int pe_int) pa_nil))))))))))))))))
      (pss_cons (ps_set (i := 1) sc_law_other.nd rfl (by first | exact Or.inl rfl | exact Or.inr rfl) (pe_op op_addX (pv 1) (pe_lst (pa_cons pe_str (pa_cons (pe_tup (pa_cons pe_non pa_nil)) (pa_cons (pe_tup (pa_cons (pe_tup pa_nil) pa_nil)) (pa_cons (pe_lst (pa_cons (pe_tup pa_nil) pa_nil)) (pa_cons (pe_disp (pps_cons pe_int pe_int pps_nil) (by rfl) (by rfl) (fun z => by cases z) (by decide)) pa_nil))))))))
      (pss_one (ps_ret (pe_ix ix_X (pv 1) (pe_callHG c_law_draw (hr.mono (by decide)) hgu (by rfl) (takes_of rfl rfl rfl rfl) (pa_cons (pv 0) (pa_cons (pe_callB call_lenX (by rfl) g_len (by decide +kernel) (pa_cons (pv 1) pa_nil)) pa_nil))) (fun _ _ => rfl)))))),
    (sx_seq (sx_asg (ex_lst (ax_cons (ex_con fun _ => rfl) (ax_cons (ex_con fun _ => rfl) (ax_cons (ex_un (ex_con fun _ => rfl)) (ax_cons (ex_con fun _ => rfl) (ax_cons (ex_con fun _ => rfl) (ax_cons (ex_con fun _ => rfl) (ax_cons (ex_con fun _ => rfl) (ax_cons (ex_con fun _ => rfl) (ax_cons (ex_tup ax_nil) (ax_cons (ex_lst ax_nil) (ax_cons ex_d0 (ax_cons (ex_tup (ax_cons (ex_con fun _ => rfl) ax_nil)) (ax_cons (ex_tup (ax_cons (ex_con fun _ => rfl) ax_nil)) (ax_cons (ex_op (ex_con fun _ => rfl) (ex_con fun _ => rfl)) ax_nil))))))))))))))) gx_name)
      (sx_seq (sx_asg (ex_op (ex_var (i := 1)) (ex_lst (ax_cons (ex_con fun _ => rfl) (ax_cons (ex_tup (ax_cons (ex_con fun _ => rfl) ax_nil)) (ax_cons (ex_tup (ax_cons (ex_tup ax_nil) ax_nil)) (ax_cons (ex_lst (ax_cons (ex_tup ax_nil) ax_nil)) (ax_cons (ex_dC (kvs := [(.inl 0, .int (1))]) (kds := [(.inl 0, .int (1))]) (by decide) (by rfl) (fun _ => by simp [RepL, Rep, mergeK, putK])) ax_nil))))))) gx_name)
      (sx_ret (ex_op (ex_var (i := 1)) (ex_call (ao_own (ao_cons (ex_cD (ax_cons (ex_var (i := 1)) ax_nil)) ao_nil)))))))⟩
def m_is_grade : S := (sRet (eAnd (eCall isiD (aCons (eVar 0) (aCons (eCon (.rf (.ty "str"))) aNil))) (eUn (inS tab_CODES) (eVar 0))))
def f_is_grade : FnM := runBody 1 0 m_is_grade
theorem sc_is_grade : FnScope ["value"] ["value"] (defScope s_is_grade) := ⟨rfl, rfl, rfl, by decide +kernel, rfl, by decide +kernel, by decide +kernel⟩
theorem ok_is_grade {a_CODES : Addr} (g_str : mg "str" = none) (g_isinstance : mg "isinstance" = none) (g_CODES : mg "CODES" = some (.ref a_CODES)) (t_CODES : TabS K w a_CODES tab_CODES) (F : Fun K "is_grade" "is_grade" s_is_grade f fd) : FnG b P w K mg base (0 + 1) f fd ["value"] (spM ⟨K, mg, T⟩ f_is_grade) :=
  fn_body F sc_is_grade rfl fun cdv A outer s H E hr hgu => ⟨_, (pss_one (ps_ret (pe_and (pe_callB call_isiX (by rfl) g_isinstance (by decide +kernel) (pa_cons (pv 0) (pa_cons (pe_bltn (v := .ty "str") rfl g_str (by decide +kernel) rfl) pa_nil))) (pe_one (pe_cmpR op_inK (pv 0) (pe_glob (v := .ref a_CODES) (by rfl) g_CODES (by rfl)) (by rfl)))))),
    (sx_ret (ex_and (ex_cD (ax_cons (ex_var (i := 0)) (ax_cons (ex_con fun _ => rfl) ax_nil))) (ex_inS t_CODES (ex_var (i := 0)))))⟩
def m_check_grades : S := (sFor (itBy asTup (eVar 0)) (nmD 1)
      (sIf (tNotB (tTru isBl (callM f_is_grade (aoCons (eVar 1) aoNil))))
      (sRaise (Str.ofString "InvalidOperation"))
      sNext))
def f_check_grades : FnM := runBody 1 1 m_check_grades
theorem sc_check_grades : FnScope ["grades", "grade"] ["grades"] (defScope s_check_grades) := ⟨rfl, rfl, rfl, by decide +kernel, rfl, by decide +kernel, by decide +kernel⟩
theorem ok_check_grades {a_X : Addr} (x_InvalidOperation : XOwn K mg "InvalidOperation" a_X) (c_is_grade : HasG b P w K mg base "is_grade" 1 ["value"] (spM ⟨K, mg, T⟩ f_is_grade)) (F : Fun K "check_grades" "check_grades" s_check_grades f fd) : FnG b P w K mg base (1 + 1) f fd ["grades"] (spM ⟨K, mg, T⟩ f_check_grades) :=
  fn_body F sc_check_grades rfl fun cdv A outer s H E hr hgu => ⟨_, (pss_one (ps_for (passes_of rfl) rfl (pi_tup (pv 0)) (pg_name (i := 1) sc_check_grades.nd rfl (by first | exact Or.inl rfl | exact Or.inr rfl))
      (pss_one (ps_if (pt_not (pt_val (pe_callHG c_is_grade (hr.mono (by decide)) hgu (by rfl) (takes_of rfl rfl rfl rfl) (pa_cons (pv 1) pa_nil))))
      (pss_one (ps_raiseX rfl (takes_of rfl rfl rfl rfl) x_InvalidOperation (by rfl)))
      pss_nil)))),
    (sx_for (ix_tup' (ex_var (i := 0))) gx_name
      (sx_if (tx_not (tx_bool (ex_call (ao_cons (ex_var (i := 1)) ao_nil))))
      (sx_raise x_InvalidOperation.g)
      sx_next))⟩
def m_choice : S := (sSeq (sDrop (callM f_check_grades (aoCons (eVar 0) aoNil)))
      (sSeq (sAsg (nmD 1) (eCon (.int 0)))
      (sSeq (sFor (itBy asTup (eVar 0)) (nmD 2)
      (sAsg (nmD 1) (eOp orD (eVar 1) (eUn (lookS tab_CODES) (eVar 2)))))
      (sRet (eUn (lookI tab_NAMES) (eVar 1))))))
def f_choice : FnM := runStar 2 m_choice
theorem sc_choice : FnScope ["grades", "found", "grade"] ["grades"] (defScope s_choice) := ⟨rfl, rfl, rfl, by decide +kernel, rfl, by decide +kernel, by decide +kernel⟩
theorem ok_choice {a_CODES a_NAMES : Addr} (g_CODES : mg "CODES" = some (.ref a_CODES)) (t_CODES : TabS K w a_CODES tab_CODES) (g_NAMES : mg "NAMES" = some (.ref a_NAMES)) (t_NAMES : TabI K a_NAMES tab_NAMES) (c_check_grades : HasG b P w K mg base "check_grades" 2 ["grades"] (spM ⟨K, mg, T⟩ f_check_grades)) (F : Fun K "choice" "choice" s_choice f fd) (bi : ∀ rest : List Value, bindArgs fd ⟨rest, []⟩ = (newTuple rest >>= fun t => pure [(("grades" : Str), t)])) : FnS b P w K mg base (2 + 1) f (spM ⟨K, mg, T⟩ f_choice) :=
  fn_rest F sc_choice rfl bi fun cdv A outer s H E hr hgu => ⟨_, (pss_cons (ps_expr (pe_callHG c_check_grades (hr.mono (by decide)) hgu (by rfl) (takes_of rfl rfl rfl rfl) (pa_cons (pv 0) pa_nil)))
      (pss_cons (ps_set (i := 1) sc_choice.nd rfl (by first | exact Or.inl rfl | exact Or.inr rfl) pe_int)
      (pss_cons (ps_for (passes_of rfl) rfl (pi_tup (pv 0)) (pg_name (i := 2) sc_choice.nd rfl (by first | exact Or.inl rfl | exact Or.inr rfl))
      (pss_one (ps_set (i := 1) sc_choice.nd rfl (by first | exact Or.inl rfl | exact Or.inr rfl) (pe_op op_orX (pv 1) (pe_ix ix_kdict (pe_glob (v := .ref a_CODES) (by rfl) g_CODES (by rfl)) (pv 2) (fun _ _ => rfl))))))
      (pss_one (ps_ret (pe_ix ix_kint (pe_glob (v := .ref a_NAMES) (by rfl) g_NAMES (by rfl)) (pv 1) (fun _ _ => rfl))))))),
    (sx_seq (sx_drop (ex_call (ao_cons (ex_var (i := 0)) ao_nil)))
      (sx_seq (sx_asg (ex_con fun _ => rfl) gx_name)
      (sx_seq (sx_for (ix_tup' (ex_var (i := 0))) gx_name
      (sx_asg (ex_op (ex_var (i := 1)) (ex_tabS t_CODES (ex_var (i := 2)))) gx_name))
      (sx_ret (ex_tabI t_NAMES (ex_var (i := 1)))))))⟩
def m_sequence : S := (sSeq (sDrop (callM f_check_grades (aoCons (eVar 0) aoNil)))
      (sRet (eOp ixD (eCon (.tup tab_SERIES)) (eCallK maxDefD (aCons (eFr (eLc (itBy asTup (eVar 0)) (nmD 1) (M.pure true) (eCall (indexD tab_SERIES) (aCons (eVar 1) aNil)) [1])) aNil) (aCons (eCon (.int 0)) aNil)))))
def f_sequence : FnM := runStar 1 m_sequence
theorem sc_sequence : FnScope ["grades", "grade"] ["grades"] (defScope s_sequence) := ⟨rfl, rfl, rfl, by decide +kernel, rfl, by decide +kernel, by decide +kernel⟩
theorem ok_sequence {a_SERIES : Addr} (g_max : mg "max" = none) (g_SERIES : mg "SERIES" = some (.ref a_SERIES)) (t_SERIES : ConT K a_SERIES tab_SERIES) (c_check_grades : HasG b P w K mg base "check_grades" 2 ["grades"] (spM ⟨K, mg, T⟩ f_check_grades)) (F : Fun K "sequence" "sequence" s_sequence f fd) (bi : ∀ rest : List Value, bindArgs fd ⟨rest, []⟩ = (newTuple rest >>= fun t => pure [(("grades" : Str), t)])) : FnS b P w K mg base (2 + 1) f (spM ⟨K, mg, T⟩ f_sequence) :=
  fn_rest F sc_sequence rfl bi fun cdv A outer s H E hr hgu => ⟨_, (pss_cons (ps_expr (pe_callHG c_check_grades (hr.mono (by decide)) hgu (by rfl) (takes_of rfl rfl rfl rfl) (pa_cons (pv 0) pa_nil)))
      (pss_one (ps_ret (pe_ix ix_X (pe_glob (v := .ref a_SERIES) (by rfl) g_SERIES (by rfl)) (pe_callBK (call_maxDef rfl (hr_u hr)) (by rfl) g_max (by decide +kernel) (pa_cons (pe_lc (own := [("grade", 1)]) (by rfl) sc_sequence.nd (pi_tup (pv 0)) (blkOk_by (own := [("grade", 1)]) (N := ["grades", "grade"]) (sc := defScope s_sequence) (by decide +kernel)) (fun _ _ _ _ _ => (pg_name (i := 1) sc_sequence.nd rfl (by first | exact Or.inl rfl | exact Or.inr rfl))) (fun _ _ _ _ _ => pts_nil) (fun _ _ _ _ _ => (pe_bm PySem.F.plainAttrs_tuple PySem.F.slot_tuple_index PySem.F.type_tuple_index mt_tupIdx (pe_glob (v := .ref a_SERIES) (by rfl) g_SERIES (by rfl)) (pa_cons (pv 1) pa_nil)))) pa_nil) (pk_cons pe_int pk_nil)) (fun _ _ => rfl))))),
    (sx_seq (sx_drop (ex_call (ao_cons (ex_var (i := 0)) ao_nil)))
      (sx_ret (ex_op (ex_con t_SERIES.rep) (ex_kD (ax_cons (ex_fr (ef_lc (ix_tup' (ex_var (i := 0))) gx_name (by decide) tx_yes (ex_tupIdx t_SERIES (ax_cons (ex_var (i := 1)) ax_nil)))) ax_nil) (ax_cons (ex_con fun _ => rfl) ax_nil)))))⟩
def m_law_right : S := (sSeq (sPar 1 2 (aCons (eOp ixD (eVar 0) (eCon (.int 0))) (aCons (eOp ixD (eVar 0) (eCon (.int 0))) aNil)))
      (sSeq (sFor (itBy asLst (eSl (eVar 0) (oPart (eCon (.int 1))) oNo)) (nmD 3)
      (sPar 1 2 (aCons (callM f_law_better (aoCons (eVar 1) (aoCons (eVar 3) aoNil))) (aCons (callM f_law_joined (aoCons (eVar 2) (aoCons (eVar 3) aoNil))) aNil))))
      (sSeq (sIf (tTru isBl (eOp eqD (eCall lenD (aCons (eVar 0) aNil)) (eCon (.int 2))))
      (sRet (eOp eqD (eLst (aCons (callM f_choice (aoCons (eOp ixD (eVar 0) (eCon (.int 0))) (aoCons (eOp ixD (eVar 0) (eCon (.int 1))) aoNil))) (aCons (callM f_sequence (aoCons (eOp ixD (eVar 0) (eCon (.int 0))) (aoCons (eOp ixD (eVar 0) (eCon (.int 1))) aoNil))) aNil))) (eLst (aCons (eVar 1) (aCons (eVar 2) aNil)))))
      sNext)
      (sSeq (sIf (tTru isBl (eOp eqD (eCall lenD (aCons (eVar 0) aNil)) (eCon (.int 3))))
      (sRet (eOp eqD (eLst (aCons (callM f_choice (aoCons (eOp ixD (eVar 0) (eCon (.int 0))) (aoCons (eOp ixD (eVar 0) (eCon (.int 1))) (aoCons (eOp ixD (eVar 0) (eCon (.int 2))) aoNil)))) (aCons (callM f_sequence (aoCons (eOp ixD (eVar 0) (eCon (.int 0))) (aoCons (eOp ixD (eVar 0) (eCon (.int 1))) (aoCons (eOp ixD (eVar 0) (eCon (.int 2))) aoNil)))) aNil))) (eLst (aCons (eVar 1) (aCons (eVar 2) aNil)))))
      sNext)
      (sSeq (sAsg (lstD 5 (consD (nmD 4) (consD (nmD 5) (consD (nmD 6) (consD (nmD 7) (consD (nmD 8) nilD)))))) (eSl (eVar 0) oNo (oPart (eCon (.int 5)))))
      (sSeq (sIf (tTru isBl (eOp eqD (eCall lenD (aCons (eVar 0) aNil)) (eCon (.int 5))))
      (sRet (eOp eqD (eLst (aCons (callM f_choice (aoCons (eVar 4) (aoCons (eVar 5) (aoCons (eVar 6) (aoCons (eVar 7) (aoCons (eVar 8) aoNil)))))) (aCons (callM f_sequence (aoCons (eVar 4) (aoCons (eVar 5) (aoCons (eVar 6) (aoCons (eVar 7) (aoCons (eVar 8) aoNil)))))) aNil))) (eLst (aCons (eVar 1) (aCons (eVar 2) aNil)))))
      sNext)
      (sSeq (sAsg (lstD 2 (consD (nmD 9) (consD (nmD 10) nilD))) (eSl (eVar 0) (oPart (eCon (.int 5))) oNo))
      (sSeq (sAsg (nmD 11) (eLst (aCons (callM f_choice (aoCons (eVar 4) (aoCons (eVar 5) (aoCons (eVar 6) (aoCons (eVar 7) (aoCons (eVar 8) (aoCons (eVar 9) (aoCons (eVar 10) aoNil)))))))) (aCons (callM f_sequence (aoCons (eVar 4) (aoCons (eVar 5) (aoCons (eVar 6) (aoCons (eVar 7) (aoCons (eVar 8) (aoCons (eVar 9) (aoCons (eVar 10) aoNil)))))))) aNil))))
      (sRet (eOp eqD (eVar 11) (eLst (aCons (eVar 1) (aCons (eVar 2) aNil)))))))))))))
def f_law_right : FnM := runBody 1 11 m_law_right
theorem sc_law_right : FnScope ["grades", "best", "last", "grade", "one", "two", "three", "four", "five", "six", "seven", "found"] ["grades"] (defScope s_law_right) := ⟨rfl, rfl, rfl, by decide +kernel, rfl, by decide +kernel, by decide +kernel⟩
theorem ok_law_right (g_len : mg "len" = none) (c_law_better : HasG b P w K mg base "_law_better" 1 ["one", "other"] (spM ⟨K, mg, T⟩ f_law_better)) (c_law_joined : HasG b P w K mg base "_law_joined" 1 ["one", "other"] (spM ⟨K, mg, T⟩ f_law_joined)) (c_choice : HasS b P w K mg base "choice" 3 (spM ⟨K, mg, T⟩ f_choice)) (c_sequence : HasS b P w K mg base "sequence" 3 (spM ⟨K, mg, T⟩ f_sequence)) (F : Fun K "_law_right" "_law_right" s_law_right f fd) : FnG b P w K mg base (3 + 1) f fd ["grades"] (spM ⟨K, mg, T⟩ f_law_right) :=
  fn_body F sc_law_right rfl fun cdv A outer s H E hr hgu => ⟨_, (pss_cons (ps_par (by rfl) sc_law_right.nd rfl rfl (by decide) rfl rfl (pa_cons (pe_ix ix_X (pv 0) pe_int (fun _ _ => rfl)) (pa_cons (pe_ix ix_X (pv 0) pe_int (fun _ _ => rfl)) pa_nil)) (by rfl))
      (pss_cons (ps_for (passes_of rfl) rfl (pi_list (pe_slice sl_X (pv 0) (po_some pe_int) po_none)) (pg_name (i := 3) sc_law_right.nd rfl (by first | exact Or.inl rfl | exact Or.inr rfl))
      (pss_one (ps_par (by rfl) sc_law_right.nd rfl rfl (by decide) rfl rfl (pa_cons (pe_callHG c_law_better (hr.mono (by decide)) hgu (by rfl) (takes_of rfl rfl rfl rfl) (pa_cons (pv 1) (pa_cons (pv 3) pa_nil))) (pa_cons (pe_callHG c_law_joined (hr.mono (by decide)) hgu (by rfl) (takes_of rfl rfl rfl rfl) (pa_cons (pv 2) (pa_cons (pv 3) pa_nil))) pa_nil)) (by rfl))))
      (pss_cons (ps_if (pt_cmpR (op_eqX (hr_u hr)) (pe_callB call_lenX (by rfl) g_len (by decide +kernel) (pa_cons (pv 0) pa_nil)) pe_int (nomark _))
      (pss_one (ps_ret (pe_cmpR (op_eqX (hr_u hr)) (pe_lst (pa_cons (pe_callHS c_choice (hr.mono (by decide)) hgu (by rfl) (takes_of rfl rfl rfl rfl) (pa_cons (pe_ix ix_X (pv 0) pe_int (fun _ _ => rfl)) (pa_cons (pe_ix ix_X (pv 0) pe_int (fun _ _ => rfl)) pa_nil))) (pa_cons (pe_callHS c_sequence (hr.mono (by decide)) hgu (by rfl) (takes_of rfl rfl rfl rfl) (pa_cons (pe_ix ix_X (pv 0) pe_int (fun _ _ => rfl)) (pa_cons (pe_ix ix_X (pv 0) pe_int (fun _ _ => rfl)) pa_nil))) pa_nil))) (pe_lst (pa_cons (pv 1) (pa_cons (pv 2) pa_nil))) (nomark _))))
      pss_nil)
      (pss_cons (ps_if (pt_cmpR (op_eqX (hr_u hr)) (pe_callB call_lenX (by rfl) g_len (by decide +kernel) (pa_cons (pv 0) pa_nil)) pe_int (nomark _))
      (pss_one (ps_ret (pe_cmpR (op_eqX (hr_u hr)) (pe_lst (pa_cons (pe_callHS c_choice (hr.mono (by decide)) hgu (by rfl) (takes_of rfl rfl rfl rfl) (pa_cons (pe_ix ix_X (pv 0) pe_int (fun _ _ => rfl)) (pa_cons (pe_ix ix_X (pv 0) pe_int (fun _ _ => rfl)) (pa_cons (pe_ix ix_X (pv 0) pe_int (fun _ _ => rfl)) pa_nil)))) (pa_cons (pe_callHS c_sequence (hr.mono (by decide)) hgu (by rfl) (takes_of rfl rfl rfl rfl) (pa_cons (pe_ix ix_X (pv 0) pe_int (fun _ _ => rfl)) (pa_cons (pe_ix ix_X (pv 0) pe_int (fun _ _ => rfl)) (pa_cons (pe_ix ix_X (pv 0) pe_int (fun _ _ => rfl)) pa_nil)))) pa_nil))) (pe_lst (pa_cons (pv 1) (pa_cons (pv 2) pa_nil))) (nomark _))))
      pss_nil)
      (pss_cons (ps_asg (pe_slice sl_X (pv 0) po_none (po_some pe_int)) (pg_lst (by rfl) (pgs_cons (pg_name (i := 4) sc_law_right.nd rfl (by first | exact Or.inl rfl | exact Or.inr rfl)) (pgs_cons (pg_name (i := 5) sc_law_right.nd rfl (by first | exact Or.inl rfl | exact Or.inr rfl)) (pgs_cons (pg_name (i := 6) sc_law_right.nd rfl (by first | exact Or.inl rfl | exact Or.inr rfl)) (pgs_cons (pg_name (i := 7) sc_law_right.nd rfl (by first | exact Or.inl rfl | exact Or.inr rfl)) (pgs_cons (pg_name (i := 8) sc_law_right.nd rfl (by first | exact Or.inl rfl | exact Or.inr rfl)) pgs_nil)))))))
      (pss_cons (ps_if (pt_cmpR (op_eqX (hr_u hr)) (pe_callB call_lenX (by rfl) g_len (by decide +kernel) (pa_cons (pv 0) pa_nil)) pe_int (nomark _))
      (pss_one (ps_ret (pe_cmpR (op_eqX (hr_u hr)) (pe_lst (pa_cons (pe_callHS c_choice (hr.mono (by decide)) hgu (by rfl) (takes_of rfl rfl rfl rfl) (pa_cons (pv 4) (pa_cons (pv 5) (pa_cons (pv 6) (pa_cons (pv 7) (pa_cons (pv 8) pa_nil)))))) (pa_cons (pe_callHS c_sequence (hr.mono (by decide)) hgu (by rfl) (takes_of rfl rfl rfl rfl) (pa_cons (pv 4) (pa_cons (pv 5) (pa_cons (pv 6) (pa_cons (pv 7) (pa_cons (pv 8) pa_nil)))))) pa_nil))) (pe_lst (pa_cons (pv 1) (pa_cons (pv 2) pa_nil))) (nomark _))))
      pss_nil)
      (pss_cons (ps_asg (pe_slice sl_X (pv 0) (po_some pe_int) po_none) (pg_lst (by rfl) (pgs_cons (pg_name (i := 9) sc_law_right.nd rfl (by first | exact Or.inl rfl | exact Or.inr rfl)) (pgs_cons (pg_name (i := 10) sc_law_right.nd rfl (by first | exact Or.inl rfl | exact Or.inr rfl)) pgs_nil))))
      (pss_cons (ps_set (i := 11) sc_law_right.nd rfl (by first | exact Or.inl rfl | exact Or.inr rfl) (pe_lst (pa_cons (pe_callHS c_choice (hr.mono (by decide)) hgu (by rfl) (takes_of rfl rfl rfl rfl) (pa_cons (pv 4) (pa_cons (pv 5) (pa_cons (pv 6) (pa_cons (pv 7) (pa_cons (pv 8) (pa_cons (pv 9) (pa_cons (pv 10) pa_nil)))))))) (pa_cons (pe_callHS c_sequence (hr.mono (by decide)) hgu (by rfl) (takes_of rfl rfl rfl rfl) (pa_cons (pv 4) (pa_cons (pv 5) (pa_cons (pv 6) (pa_cons (pv 7) (pa_cons (pv 8) (pa_cons (pv 9) (pa_cons (pv 10) pa_nil)))))))) pa_nil))))
      (pss_one (ps_ret (pe_cmpR (op_eqX (hr_u hr)) (pv 11) (pe_lst (pa_cons (pv 1) (pa_cons (pv 2) pa_nil))) (nomark _)))))))))))),
    (sx_seq (sx_par (ax_cons (ex_op (ex_var (i := 0)) (ex_con fun _ => rfl)) (ax_cons (ex_op (ex_var (i := 0)) (ex_con fun _ => rfl)) ax_nil)))
      (sx_seq (sx_for (ix_list (ex_sl (ex_var (i := 0)) (ox_part (ex_con fun _ => rfl)) ox_no)) gx_name
      (sx_par (ax_cons (ex_call (ao_cons (ex_var (i := 1)) (ao_cons (ex_var (i := 3)) ao_nil))) (ax_cons (ex_call (ao_cons (ex_var (i := 2)) (ao_cons (ex_var (i := 3)) ao_nil))) ax_nil))))
      (sx_seq (sx_if (tx_test (ex_op (ex_cD (ax_cons (ex_var (i := 0)) ax_nil)) (ex_con fun _ => rfl)))
      (sx_ret (ex_op (ex_lst (ax_cons (ex_call (ao_cons (ex_op (ex_var (i := 0)) (ex_con fun _ => rfl)) (ao_cons (ex_op (ex_var (i := 0)) (ex_con fun _ => rfl)) ao_nil))) (ax_cons (ex_call (ao_cons (ex_op (ex_var (i := 0)) (ex_con fun _ => rfl)) (ao_cons (ex_op (ex_var (i := 0)) (ex_con fun _ => rfl)) ao_nil))) ax_nil))) (ex_lst (ax_cons (ex_var (i := 1)) (ax_cons (ex_var (i := 2)) ax_nil)))))
      sx_next)
      (sx_seq (sx_if (tx_test (ex_op (ex_cD (ax_cons (ex_var (i := 0)) ax_nil)) (ex_con fun _ => rfl)))
      (sx_ret (ex_op (ex_lst (ax_cons (ex_call (ao_cons (ex_op (ex_var (i := 0)) (ex_con fun _ => rfl)) (ao_cons (ex_op (ex_var (i := 0)) (ex_con fun _ => rfl)) (ao_cons (ex_op (ex_var (i := 0)) (ex_con fun _ => rfl)) ao_nil)))) (ax_cons (ex_call (ao_cons (ex_op (ex_var (i := 0)) (ex_con fun _ => rfl)) (ao_cons (ex_op (ex_var (i := 0)) (ex_con fun _ => rfl)) (ao_cons (ex_op (ex_var (i := 0)) (ex_con fun _ => rfl)) ao_nil)))) ax_nil))) (ex_lst (ax_cons (ex_var (i := 1)) (ax_cons (ex_var (i := 2)) ax_nil)))))
      sx_next)
      (sx_seq (sx_asg (ex_sl (ex_var (i := 0)) ox_no (ox_part (ex_con fun _ => rfl))) (gx_lst (gxs_cons gx_name (gxs_cons gx_name (gxs_cons gx_name (gxs_cons gx_name (gxs_cons gx_name gxs_nil)))))))
      (sx_seq (sx_if (tx_test (ex_op (ex_cD (ax_cons (ex_var (i := 0)) ax_nil)) (ex_con fun _ => rfl)))
      (sx_ret (ex_op (ex_lst (ax_cons (ex_call (ao_cons (ex_var (i := 4)) (ao_cons (ex_var (i := 5)) (ao_cons (ex_var (i := 6)) (ao_cons (ex_var (i := 7)) (ao_cons (ex_var (i := 8)) ao_nil)))))) (ax_cons (ex_call (ao_cons (ex_var (i := 4)) (ao_cons (ex_var (i := 5)) (ao_cons (ex_var (i := 6)) (ao_cons (ex_var (i := 7)) (ao_cons (ex_var (i := 8)) ao_nil)))))) ax_nil))) (ex_lst (ax_cons (ex_var (i := 1)) (ax_cons (ex_var (i := 2)) ax_nil)))))
      sx_next)
      (sx_seq (sx_asg (ex_sl (ex_var (i := 0)) (ox_part (ex_con fun _ => rfl)) ox_no) (gx_lst (gxs_cons gx_name (gxs_cons gx_name gxs_nil))))
      (sx_seq (sx_asg (ex_lst (ax_cons (ex_call (ao_cons (ex_var (i := 4)) (ao_cons (ex_var (i := 5)) (ao_cons (ex_var (i := 6)) (ao_cons (ex_var (i := 7)) (ao_cons (ex_var (i := 8)) (ao_cons (ex_var (i := 9)) (ao_cons (ex_var (i := 10)) ao_nil)))))))) (ax_cons (ex_call (ao_cons (ex_var (i := 4)) (ao_cons (ex_var (i := 5)) (ao_cons (ex_var (i := 6)) (ao_cons (ex_var (i := 7)) (ao_cons (ex_var (i := 8)) (ao_cons (ex_var (i := 9)) (ao_cons (ex_var (i := 10)) ao_nil)))))))) ax_nil))) gx_name)
      (sx_ret (ex_op (ex_var (i := 11)) (ex_lst (ax_cons (ex_var (i := 1)) (ax_cons (ex_var (i := 2)) ax_nil)))))))))))))⟩
def m_law_all_right : S := (sSeq (sAsg (nmD 0) (eLst (aCons (eCon (.str (Str.ofString "restart"))) (aCons (eCon (.str (Str.ofString "free"))) (aCons (eCon (.str (Str.ofString "paid"))) (aCons (eCon (.str (Str.ofString "dear"))) (aCons (eCon (.str (Str.ofString "none"))) aNil)))))))
      (sSeq (sIf (tOrB (tTru isBl (eOp neD (eFr (eN listD (aCons (eCon (.tup tab_GRADES)) aNil))) (eVar 0))) (tOrB (tTru isBl (eOp neD (callM f_choice aoNil) (eCon (.str (Str.ofString "none"))))) (tTru isBl (eOp neD (callM f_sequence aoNil) (eCon (.str (Str.ofString "free")))))))
      (sRet (eCon (.bl false)))
      sNext)
      (sSeq (sFor (itBy asLst (eVar 0)) (nmD 1)
      (sSeq (sIf (tOrB (tTru isBl (eOp neD (callM f_choice (aoCons (eVar 1) aoNil)) (eVar 1))) (tTru isBl (eOp neD (callM f_sequence (aoCons (eVar 1) aoNil)) (eVar 1))))
      (sRet (eCon (.bl false)))
      sNext)
      (sFor (itBy asLst (eVar 0)) (nmD 2)
      (sSeq (sIf (tNotB (tTru isBl (callM f_law_right (aoCons (eLst (aCons (eVar 1) (aCons (eVar 2) aNil))) aoNil))))
      (sRet (eCon (.bl false)))
      sNext)
      (sFor (itBy asLst (eVar 0)) (nmD 3)
      (sSeq (sAsg (nmD 4) (eLst (aCons (callM f_sequence (aoCons (eVar 1) (aoCons (callM f_choice (aoCons (eVar 2) (aoCons (eVar 3) aoNil))) aoNil))) (aCons (callM f_sequence (aoCons (callM f_choice (aoCons (eVar 2) (aoCons (eVar 3) aoNil))) (aoCons (eVar 1) aoNil))) aNil))))
      (sSeq (sNew 5 (eNew (aCons (callM f_choice (aoCons (callM f_sequence (aoCons (eVar 1) (aoCons (eVar 2) aoNil))) (aoCons (callM f_sequence (aoCons (eVar 1) (aoCons (eVar 3) aoNil))) aoNil))) aNil)))
      (sSeq (sAppL 5 (callM f_choice (aoCons (callM f_sequence (aoCons (eVar 2) (aoCons (eVar 1) aoNil))) (aoCons (callM f_sequence (aoCons (eVar 3) (aoCons (eVar 1) aoNil))) aoNil))))
      (sFz 5 (sIf (tOrB (tTru isBl (eOp neD (eVar 4) (eVar 5))) (tNotB (tTru isBl (callM f_law_right (aoCons (eLst (aCons (eVar 1) (aCons (eVar 2) (aCons (eVar 3) aNil)))) aoNil)))))
      (sRet (eCon (.bl false)))
      sNext))))))))))
      (sRet (eCon (.bl true))))))
def f_law_all_right : FnM := runBody 0 6 m_law_all_right
theorem sc_law_all_right : FnScope ["order", "one", "other", "third", "both", "due"] [] (defScope s_law_all_right) := ⟨rfl, rfl, rfl, by decide +kernel, rfl, by decide +kernel, by decide +kernel⟩
theorem ok_law_all_right {a_GRADES : Addr} (g_list : mg "list" = none) (g_GRADES : mg "GRADES" = some (.ref a_GRADES)) (t_GRADES : ConT K a_GRADES tab_GRADES) (c_choice : HasS b P w K mg base "choice" 3 (spM ⟨K, mg, T⟩ f_choice)) (c_sequence : HasS b P w K mg base "sequence" 3 (spM ⟨K, mg, T⟩ f_sequence)) (c_law_right : HasG b P w K mg base "_law_right" 4 ["grades"] (spM ⟨K, mg, T⟩ f_law_right)) (F : Fun K "_law_all_right" "_law_all_right" s_law_all_right f fd) : FnG b P w K mg base (4 + 1) f fd [] (spM ⟨K, mg, T⟩ f_law_all_right) :=
  fn_body F sc_law_all_right rfl fun cdv A outer s H E hr hgu => ⟨_, (pss_cons (ps_set (i := 0) sc_law_all_right.nd rfl (by first | exact Or.inl rfl | exact Or.inr rfl) (pe_lst (pa_cons pe_str (pa_cons pe_str (pa_cons pe_str (pa_cons pe_str (pa_cons pe_str pa_nil)))))))
      (pss_cons (ps_if (PW.pt (pw_or (pt_cmpR (op_neX (hr_u hr)) (pe_callTy (call_listX rfl) (by rfl) g_list (by decide +kernel) (pa_cons (pe_glob (v := .ref a_GRADES) (by rfl) g_GRADES (by rfl)) pa_nil)) (pv 0) (nomark _)) (pw_or (pt_cmpR (op_neX (hr_u hr)) (pe_callHS0 c_choice (hr.mono (by decide)) hgu (by rfl) (takes_of rfl rfl rfl rfl)) pe_str (nomark _)) (pw_or1 (pt_cmpR (op_neX (hr_u hr)) (pe_callHS0 c_sequence (hr.mono (by decide)) hgu (by rfl) (takes_of rfl rfl rfl rfl)) pe_str (nomark _))))))
      (pss_one (ps_ret pe_bl))
      pss_nil)
      (pss_cons (ps_for (passes_of rfl) rfl (pi_list (pv 0)) (pg_name (i := 1) sc_law_all_right.nd rfl (by first | exact Or.inl rfl | exact Or.inr rfl))
      (pss_cons (ps_if (PW.pt (pw_or (pt_cmpR (op_neX (hr_u hr)) (pe_callHS c_choice (hr.mono (by decide)) hgu (by rfl) (takes_of rfl rfl rfl rfl) (pa_cons (pv 1) pa_nil)) (pv 1) (nomark _)) (pw_or1 (pt_cmpR (op_neX (hr_u hr)) (pe_callHS c_sequence (hr.mono (by decide)) hgu (by rfl) (takes_of rfl rfl rfl rfl) (pa_cons (pv 1) pa_nil)) (pv 1) (nomark _)))))
      (pss_one (ps_ret pe_bl))
      pss_nil)
      (pss_one (ps_for (passes_of rfl) rfl (pi_list (pv 0)) (pg_name (i := 2) sc_law_all_right.nd rfl (by first | exact Or.inl rfl | exact Or.inr rfl))
      (pss_cons (ps_if (pt_not (pt_val (pe_callHG c_law_right (hr.mono (by decide)) hgu (by rfl) (takes_of rfl rfl rfl rfl) (pa_cons (pe_lst (pa_cons (pv 1) (pa_cons (pv 2) pa_nil))) pa_nil))))
      (pss_one (ps_ret pe_bl))
      pss_nil)
      (pss_one (ps_for (passes_of rfl) rfl (pi_list (pv 0)) (pg_name (i := 3) sc_law_all_right.nd rfl (by first | exact Or.inl rfl | exact Or.inr rfl))
      (pss_cons (ps_set (i := 4) sc_law_all_right.nd rfl (by first | exact Or.inl rfl | exact Or.inr rfl) (pe_lst (pa_cons (pe_callHS c_sequence (hr.mono (by decide)) hgu (by rfl) (takes_of rfl rfl rfl rfl) (pa_cons (pv 1) (pa_cons (pe_callHS c_choice (hr.mono (by decide)) hgu (by rfl) (takes_of rfl rfl rfl rfl) (pa_cons (pv 2) (pa_cons (pv 3) pa_nil))) pa_nil))) (pa_cons (pe_callHS c_sequence (hr.mono (by decide)) hgu (by rfl) (takes_of rfl rfl rfl rfl) (pa_cons (pe_callHS c_choice (hr.mono (by decide)) hgu (by rfl) (takes_of rfl rfl rfl rfl) (pa_cons (pv 2) (pa_cons (pv 3) pa_nil))) (pa_cons (pv 1) pa_nil))) pa_nil))))
      (pss_cons (ps_set (i := 5) sc_law_all_right.nd rfl (by first | exact Or.inl rfl | exact Or.inr rfl) (pe_lst (pa_cons (pe_callHS c_choice (hr.mono (by decide)) hgu (by rfl) (takes_of rfl rfl rfl rfl) (pa_cons (pe_callHS c_sequence (hr.mono (by decide)) hgu (by rfl) (takes_of rfl rfl rfl rfl) (pa_cons (pv 1) (pa_cons (pv 2) pa_nil))) (pa_cons (pe_callHS c_sequence (hr.mono (by decide)) hgu (by rfl) (takes_of rfl rfl rfl rfl) (pa_cons (pv 1) (pa_cons (pv 3) pa_nil))) pa_nil))) pa_nil)))
      (pss_cons (ps_expr (pe_bm PySem.F.plainAttrs_list PySem.F.slot_list_append PySem.F.type_list_append mt_append (pv 5) (pa_cons (pe_callHS c_choice (hr.mono (by decide)) hgu (by rfl) (takes_of rfl rfl rfl rfl) (pa_cons (pe_callHS c_sequence (hr.mono (by decide)) hgu (by rfl) (takes_of rfl rfl rfl rfl) (pa_cons (pv 2) (pa_cons (pv 1) pa_nil))) (pa_cons (pe_callHS c_sequence (hr.mono (by decide)) hgu (by rfl) (takes_of rfl rfl rfl rfl) (pa_cons (pv 3) (pa_cons (pv 1) pa_nil))) pa_nil))) pa_nil)))
      (pss_one (ps_if (PW.pt (pw_or (pt_cmpR (op_neX (hr_u hr)) (pv 4) (pv 5) (nomark _)) (pw_or1 (pt_not (pt_val (pe_callHG c_law_right (hr.mono (by decide)) hgu (by rfl) (takes_of rfl rfl rfl rfl) (pa_cons (pe_lst (pa_cons (pv 1) (pa_cons (pv 2) (pa_cons (pv 3) pa_nil)))) pa_nil)))))))
      (pss_one (ps_ret pe_bl))
      pss_nil))))))))))))
      (pss_one (ps_ret pe_bl))))),
    (sx_seq (sx_asg (ex_lst (ax_cons (ex_con fun _ => rfl) (ax_cons (ex_con fun _ => rfl) (ax_cons (ex_con fun _ => rfl) (ax_cons (ex_con fun _ => rfl) (ax_cons (ex_con fun _ => rfl) ax_nil)))))) gx_name)
      (sx_seq (sx_if (tx_or (tx_test (ex_op (ex_fr (ef_n (ax_cons (ex_con t_GRADES.rep) ax_nil))) (ex_var (i := 0)))) (tx_or (tx_test (ex_op (ex_call ao_nil) (ex_con fun _ => rfl))) (tx_test (ex_op (ex_call ao_nil) (ex_con fun _ => rfl)))))
      (sx_ret (ex_con fun _ => rfl))
      sx_next)
      (sx_seq (sx_for (ix_list (ex_var (i := 0))) gx_name
      (sx_seq (sx_if (tx_or (tx_test (ex_op (ex_call (ao_cons (ex_var (i := 1)) ao_nil)) (ex_var (i := 1)))) (tx_test (ex_op (ex_call (ao_cons (ex_var (i := 1)) ao_nil)) (ex_var (i := 1)))))
      (sx_ret (ex_con fun _ => rfl))
      sx_next)
      (sx_for (ix_list (ex_var (i := 0))) gx_name
      (sx_seq (sx_if (tx_not (tx_bool (ex_call (ao_cons (ex_lst (ax_cons (ex_var (i := 1)) (ax_cons (ex_var (i := 2)) ax_nil))) ao_nil))))
      (sx_ret (ex_con fun _ => rfl))
      sx_next)
      (sx_for (ix_list (ex_var (i := 0))) gx_name
      (sx_seq (sx_asg (ex_lst (ax_cons (ex_call (ao_cons (ex_var (i := 1)) (ao_cons (ex_call (ao_cons (ex_var (i := 2)) (ao_cons (ex_var (i := 3)) ao_nil))) ao_nil))) (ax_cons (ex_call (ao_cons (ex_call (ao_cons (ex_var (i := 2)) (ao_cons (ex_var (i := 3)) ao_nil))) (ao_cons (ex_var (i := 1)) ao_nil))) ax_nil))) gx_name)
      (sx_seq (sx_new (ef_lst (ax_cons (ex_call (ao_cons (ex_call (ao_cons (ex_var (i := 1)) (ao_cons (ex_var (i := 2)) ao_nil))) (ao_cons (ex_call (ao_cons (ex_var (i := 1)) (ao_cons (ex_var (i := 3)) ao_nil))) ao_nil))) ax_nil)) (by decide))
      (sx_seq (sx_app (ex_call (ao_cons (ex_call (ao_cons (ex_var (i := 2)) (ao_cons (ex_var (i := 1)) ao_nil))) (ao_cons (ex_call (ao_cons (ex_var (i := 3)) (ao_cons (ex_var (i := 1)) ao_nil))) ao_nil))))
      (sx_fz (by decide) (sx_if (tx_or (tx_test (ex_op (ex_var (i := 4)) (ex_var (i := 5)))) (tx_not (tx_bool (ex_call (ao_cons (ex_lst (ax_cons (ex_var (i := 1)) (ax_cons (ex_var (i := 2)) (ax_cons (ex_var (i := 3)) ax_nil)))) ao_nil)))))
      (sx_ret (ex_con fun _ => rfl))
      sx_next))))))))))
      (sx_ret (ex_con fun _ => rfl)))))⟩
end
end Pl
namespace Pl
open PySem PySem.Spec PyProof.Rows L2
abbrev s_law_refused : Stmt := top 19
abbrev s_law_odd_right : Stmt := top 22
abbrev s_law : Stmt := top 23
theorem gdF {A : Around} : Gd false A := fun h => by cases h
/-- kinds of errors -/
def tab_err (x y : Str) : Option Bool := if x = Str.ofString "InvalidOperation" then (if y = Str.ofString "InvalidOperation" ∨ y = Str.ofString "LimitError" ∨ y = Str.ofString "ValueError" then some true else none) else none
theorem sc_law_refused : FnScope ["call", "e"] ["call"] (defScope s_law_refused) := ⟨rfl, rfl, rfl, by decide +kernel, rfl, by decide +kernel, by decide +kernel⟩
def hd_refused : List HdM := [(Str.ofString "InvalidOperation", some 1, fun e => sRet (eAnd (eIsE tab_err e (Str.ofString "LimitError")) (eIsE tab_err e (Str.ofString "ValueError")))), (Str.ofString "LimitError", none, fun _ => sRet (eCon (.bl false)))]
def gm_law_refused : Rs An → Rs An := gmDo tab_err hd_refused (sRet (eCon (.bl false))) 2
theorem gives_law_refused {X : Cx} {T : List (Addr × Str)} {g aI aL : Addr} {cdg : Value} {q : Str} (g_InvalidOperation : X.mg "InvalidOperation" = some (.ref aI)) (g_LimitError : X.mg "LimitError" = some (.ref aL)) (g_ValueError : X.mg "ValueError" = none) (g_isinstance : X.mg "isinstance" = none) (Te : ErrTab X.K X.mg tab_err) :
    LamX.GivesTo X ["call", "e"] "_law_refused" (defScope s_law_refused) g cdg (defBody s_law_refused) "call" q (LamGo ⟨X.K, X.mg, T⟩ gm_law_refused) :=
  gives_do Te (l := [(.ref aI, some 1, fun ad cls d => tRet (tAndV (tIsE X.K ad cls d 1 (.ref aL)) (tIsE X.K ad cls d 1 (.type "ValueError")))), (.ref aL, none, fun _ _ _ => tRet (tC (.bl false)))])
    (fun s H => .cons ⟨rfl, by decide, .inl g_InvalidOperation⟩ (And.intro rfl rfl)
      (fun ad ob cls d ps hz hf => pss_one (ps_ret (pe_and (pe_isE hz hf (pv 1) (pe_glob (v := .ref aL) rfl g_LimitError rfl) (fun _ r => r) rfl g_isinstance) (pe_one (pe_isE hz hf (pv 1) (pe_bltn (v := .ty "ValueError") rfl g_ValueError (by decide +kernel) rfl) (fun _ r => r) rfl g_isinstance)))))
      (.cons ⟨rfl, by decide, .inl g_LimitError⟩ trivial (fun ad ob cls d ps hz hf => pss_one (ps_ret pe_bl)) .nil))
    (.cons (.inl g_InvalidOperation) (su_ret fun ad cls d e => ev_and (ev_isE Te (.inl g_LimitError)) (ev_isE Te (.inr ⟨g_ValueError, by decide +kernel⟩))) (.cons (.inl g_LimitError) (su_of (sx_ret (ex_con fun _ => rfl))) .nil))
    (fun s H => pss_one (ps_ret pe_bl)) (sx_ret (ex_con fun _ => rfl)) (by decide) (fun _ => rfl) fun _ => rfl
section
variable {P : Program} {w : World} {K : PySem.W.Frag} {mg : Str → Option Value} {base : Heap} {f : Addr} {fd : FuncData} {T : List (Addr × Str)}
def m_law_odd_right : S := (sSeq (sAsg (nmD 2) (eOp ixD (eCon (.tup tab_GRADES)) (callM f_law_draw (aoOwn 0 (aoCons (eCon (.int 5)) aoNil)))))
      (sSeq (sNew 3 (eNew (aCons (eLam gm_law_refused (callM f_choice (aoCons (eVar 1) aoNil))) aNil)))
      (sSeq (sAppL 3 (eLam gm_law_refused (callM f_sequence (aoCons (eVar 1) aoNil))))
      (sSeq (sAppL 3 (eLam gm_law_refused (callM f_choice (aoCons (eVar 2) (aoCons (eVar 1) aoNil)))))
      (sSeq (sAppL 3 (eLam gm_law_refused (callM f_sequence (aoCons (eCon (.str (Str.ofString "none"))) (aoCons (eVar 2) (aoCons (eVar 1) aoNil))))))
      (sSeq (sAppL 3 (eLam gm_law_refused (callM f_choice (aoCons (eVar 1) (aoCons (eCon .non) (aoCons (eVar 2) aoNil))))))
      (sFz 3 (sRet (eOp eqD (eVar 3) (eOp mulD (eLst (aCons (eCon (.bl true)) aNil)) (eCon (.int 5))))))))))))
def f_law_odd_right : FnM := runBody 2 2 m_law_odd_right
theorem sc_law_odd_right : FnScope ["stream", "odd", "grade", "found"] ["stream", "odd"] (defScope s_law_odd_right) := ⟨rfl, rfl, rfl, by decide +kernel, rfl, by decide +kernel, by decide +kernel⟩
theorem ok_law_odd_right {a_GRADES g_law_refused cLam pLam : Addr} {fdg : FuncData} (g_GRADES : mg "GRADES" = some (.ref a_GRADES)) (t_GRADES : ConT K a_GRADES tab_GRADES) (c_law_draw : HasG false P w K mg base "_law_draw" 1 ["stream", "total"] (spM ⟨K, mg, T⟩ f_law_draw)) (c_choice : HasS false P w K mg base "choice" 3 (spM ⟨K, mg, T⟩ f_choice)) (c_sequence : HasS false P w K mg base "sequence" 3 (spM ⟨K, mg, T⟩ f_sequence)) (F_law_refused : Fun K "_law_refused" "_law_refused" s_law_refused g_law_refused fdg) (b_law_refused : Binds K fdg ["call"] []) (h_law_refused : mg "_law_refused" = some (.ref g_law_refused)) (gives_law_refused : ∀ {X : Cx} {cdg : Value} {q : Str}, X.mg = mg → X.K = K → LamX.GivesTo X ["call", "e"] "_law_refused" (defScope s_law_refused) g_law_refused cdg (defBody s_law_refused) "call" q (LamGo ⟨X.K, X.mg, T⟩ gm_law_refused)) (TB : LamX.TabB base mg cLam pLam) (hmT : (pLam, ("_law_odd_right" : Str) ++ ".<locals>." ++ "<lambda>") ∈ T) (hu : ∀ p ∈ T, p.1 = pLam → p.2 = ("_law_odd_right" : Str) ++ ".<locals>." ++ "<lambda>") (F : FunC K "_law_odd_right" "_law_odd_right" s_law_odd_right f fd (.ref cLam)) : FnG false P w K mg base (5 + 1) f fd ["stream", "odd"] (spM ⟨K, mg, T⟩ f_law_odd_right) :=
  fn_bodyC F sc_law_odd_right rfl fun A outer s H E hr hgu => ⟨_, (pss_cons (ps_set (i := 2) sc_law_odd_right.nd rfl (by first | exact Or.inl rfl | exact Or.inr rfl) (pe_ix ix_X (pe_glob (v := .ref a_GRADES) (by rfl) g_GRADES (by rfl)) (pe_callHG c_law_draw (hr.mono (by decide)) hgu (by rfl) (takes_of rfl rfl rfl rfl) (pa_cons (pv 0) (pa_cons pe_int pa_nil))) (fun _ _ => rfl)))
      (pss_cons (ps_set (i := 3) sc_law_odd_right.nd rfl (by first | exact Or.inl rfl | exact Or.inr rfl) (pe_lst (pa_cons (pe_lamG (k := 3) F_law_refused b_law_refused h_law_refused sc_law_refused (fun cdg => gives_law_refused rfl rfl) TB rfl hmT hu (hr.mono (by decide)) (fun A outer s H E f c' hr => (pe_callHS c_choice (hr.mono (by decide)) gdF (by rfl) (takes_of rfl rfl rfl rfl) (pa_cons (pv 1) pa_nil))) (by rfl) rfl (Or.inl rfl) (LamX.lamS_by (sc := defScope s_law_odd_right) (by decide +kernel)) rfl (fun _ _ _ _ _ => rfl)) pa_nil)))
      (pss_cons (ps_expr (pe_bm PySem.F.plainAttrs_list PySem.F.slot_list_append PySem.F.type_list_append mt_append (pv 3) (pa_cons (pe_lamG (k := 3) F_law_refused b_law_refused h_law_refused sc_law_refused (fun cdg => gives_law_refused rfl rfl) TB rfl hmT hu (hr.mono (by decide)) (fun A outer s H E f c' hr => (pe_callHS c_sequence (hr.mono (by decide)) gdF (by rfl) (takes_of rfl rfl rfl rfl) (pa_cons (pv 1) pa_nil))) (by rfl) rfl (Or.inl rfl) (LamX.lamS_by (sc := defScope s_law_odd_right) (by decide +kernel)) rfl (fun _ _ _ _ _ => rfl)) pa_nil)))
      (pss_cons (ps_expr (pe_bm PySem.F.plainAttrs_list PySem.F.slot_list_append PySem.F.type_list_append mt_append (pv 3) (pa_cons (pe_lamG (k := 3) F_law_refused b_law_refused h_law_refused sc_law_refused (fun cdg => gives_law_refused rfl rfl) TB rfl hmT hu (hr.mono (by decide)) (fun A outer s H E f c' hr => (pe_callHS c_choice (hr.mono (by decide)) gdF (by rfl) (takes_of rfl rfl rfl rfl) (pa_cons (pv 2) (pa_cons (pv 1) pa_nil)))) (by rfl) rfl (Or.inl rfl) (LamX.lamS_by (sc := defScope s_law_odd_right) (by decide +kernel)) rfl (fun _ _ _ _ _ => rfl)) pa_nil)))
      (pss_cons (ps_expr (pe_bm PySem.F.plainAttrs_list PySem.F.slot_list_append PySem.F.type_list_append mt_append (pv 3) (pa_cons (pe_lamG (k := 3) F_law_refused b_law_refused h_law_refused sc_law_refused (fun cdg => gives_law_refused rfl rfl) TB rfl hmT hu (hr.mono (by decide)) (fun A outer s H E f c' hr => (pe_callHS c_sequence (hr.mono (by decide)) gdF (by rfl) (takes_of rfl rfl rfl rfl) (pa_cons pe_str (pa_cons (pv 2) (pa_cons (pv 1) pa_nil))))) (by rfl) rfl (Or.inl rfl) (LamX.lamS_by (sc := defScope s_law_odd_right) (by decide +kernel)) rfl (fun _ _ _ _ _ => rfl)) pa_nil)))
      (pss_cons (ps_expr (pe_bm PySem.F.plainAttrs_list PySem.F.slot_list_append PySem.F.type_list_append mt_append (pv 3) (pa_cons (pe_lamG (k := 3) F_law_refused b_law_refused h_law_refused sc_law_refused (fun cdg => gives_law_refused rfl rfl) TB rfl hmT hu (hr.mono (by decide)) (fun A outer s H E f c' hr => (pe_callHS c_choice (hr.mono (by decide)) gdF (by rfl) (takes_of rfl rfl rfl rfl) (pa_cons (pv 1) (pa_cons pe_non (pa_cons (pv 2) pa_nil))))) (by rfl) rfl (Or.inl rfl) (LamX.lamS_by (sc := defScope s_law_odd_right) (by decide +kernel)) rfl (fun _ _ _ _ _ => rfl)) pa_nil)))
      (pss_one (ps_ret (pe_cmpR (op_eqX (hr_u hr)) (pv 3) (pe_op op_mulX (pe_lst (pa_cons pe_bl pa_nil)) pe_int) (nomark _)))))))))),
    (sx_seq (sx_asg (ex_op (ex_con t_GRADES.rep) (ex_call (ao_own (ao_cons (ex_con fun _ => rfl) ao_nil)))) gx_name)
      (sx_seq (sx_new (ef_lst (ax_cons (ex_lam fun E' => (ex_call (ao_cons (ex_var (i := 1)) ao_nil))) ax_nil)) (by decide))
      (sx_seq (sx_app (ex_lam fun E' => (ex_call (ao_cons (ex_var (i := 1)) ao_nil))))
      (sx_seq (sx_app (ex_lam fun E' => (ex_call (ao_cons (ex_var (i := 2)) (ao_cons (ex_var (i := 1)) ao_nil)))))
      (sx_seq (sx_app (ex_lam fun E' => (ex_call (ao_cons (ex_con fun _ => rfl) (ao_cons (ex_var (i := 2)) (ao_cons (ex_var (i := 1)) ao_nil))))))
      (sx_seq (sx_app (ex_lam fun E' => (ex_call (ao_cons (ex_var (i := 1)) (ao_cons (ex_con fun _ => rfl) (ao_cons (ex_var (i := 2)) ao_nil))))))
      (sx_fz (by decide) (sx_ret (ex_op (ex_var (i := 3)) (ex_op (ex_lst (ax_cons (ex_con fun _ => rfl) ax_nil)) (ex_con fun _ => rfl)))))))))))⟩
def m_law : S := (sSeq (sFor (itBs rng1D (aCons (eCall max2D (aCons (eCon (.int 1)) (aCons (eCall min2D (aCons (eCon (.int 6)) (aCons (eCall lenD (aCons (eVar 0) aNil)) aNil))) aNil))) aNil)) (nmD 1)
      (sSeq (sNew 2 (callN f_law_stream (aoCons (eVar 0) (aoCons (eVar 1) aoNil))))
      (sSeq (sFor (itBs rng1D (aCons (eCon (.int 2)) aNil)) (nmD 3)
      (sIf (tNotB (tTru isBl (callM f_law_right (aoCons (eFr (eLc (itBs rng1D (aCons (eOp ixD (eLst (aCons (eCon (.int 5)) (aCons (eCon (.int 7)) aNil))) (eVar 3)) aNil)) (nmD 4) (M.pure true) (eOp ixD (eCon (.tup tab_GRADES)) (callM f_law_draw (aoOwn 2 (aoCons (eCon (.int 5)) aoNil)))) [4])) aoNil))))
      (sRet (eCon (.bl false)))
      sNext))
      (sSeq (sAsg (nmD 5) (eLst (aCons (eCon .non) (aCons (eCon (.int 0)) (aCons (eCon (.bl true)) (aCons (eCon (.str (Str.ofString ""))) (aCons (eCon (.str (Str.ofString "Free"))) (aCons (eCon (.str (Str.ofString "nothing"))) (aCons (eCon (.str (Str.ofString "free "))) (aCons (eTup (aCons (eCon (.str (Str.ofString "free"))) aNil)) (aCons (eLst (aCons (eCon (.str (Str.ofString "free"))) aNil)) (aCons (eDct []) (aCons (eCon (.tup tab_GRADES)) (aCons (eOp powD (eCon (.int 10)) (eCon (.int 39))) aNil))))))))))))))
      (sSeq (sIf (tNotB (tTru isBl (callM f_law_odd_right (aoOwn 2 (aoCons (eOp ixD (eVar 5) (callM f_law_draw (aoOwn 2 (aoCons (eCall lenD (aCons (eVar 5) aNil)) aoNil)))) aoNil)))))
      (sRet (eCon (.bl false)))
      sNext)
      (sSeq (sAsg (nmD 6) (callM f_law_other (aoOwn 2 aoNil)))
      (sIf (tAndB (tNotB (tTru isBl (eCall isiD (aCons (eVar 6) (aCons (eCon (.rf (.ty "str"))) aNil))))) (tNotB (tTru isBl (callM f_law_odd_right (aoOwn 2 (aoCons (eVar 6) aoNil))))))
      (sRet (eCon (.bl false)))
      sNext)))))))
      (sRet (callM f_law_all_right aoNil)))
def f_law : FnM := runBody 1 6 m_law
theorem sc_law : FnScope ["script", "at", "stream", "turn", "place", "odd", "other"] ["script"] (defScope s_law) := ⟨rfl, rfl, rfl, by decide +kernel, rfl, by decide +kernel, by decide +kernel⟩
theorem ok_law (g_range : mg "range" = none) (g_max : mg "max" = none) (g_min : mg "min" = none) (g_len : mg "len" = none) (g_str : mg "str" = none) (g_isinstance : mg "isinstance" = none) {a_GRADES : Addr} (g_GRADES : mg "GRADES" = some (.ref a_GRADES)) (t_GRADES : ConT K a_GRADES tab_GRADES) (c_law_stream : HasG false P w K mg base "_law_stream" 1 ["script", "at"] (spM ⟨K, mg, T⟩ f_law_stream)) (c_law_draw : HasG false P w K mg base "_law_draw" 1 ["stream", "total"] (spM ⟨K, mg, T⟩ f_law_draw)) (c_law_right : HasG false P w K mg base "_law_right" 4 ["grades"] (spM ⟨K, mg, T⟩ f_law_right)) (c_law_odd_right : HasG false P w K mg base "_law_odd_right" 6 ["stream", "odd"] (spM ⟨K, mg, T⟩ f_law_odd_right)) (c_law_other : HasG false P w K mg base "_law_other" 2 ["stream"] (spM ⟨K, mg, T⟩ f_law_other)) (c_law_all_right : HasG false P w K mg base "_law_all_right" 5 [] (spM ⟨K, mg, T⟩ f_law_all_right)) (F : Fun K "law" "law" s_law f fd) : FnG false P w K mg base (6 + 1) f fd ["script"] (spM ⟨K, mg, T⟩ f_law) :=
  fn_body F sc_law rfl fun cdv A outer s H E hr hgu => ⟨_, (pss_cons (ps_for (passes_of rfl) rfl (pi_range1 rfl g_range (pa_cons (pe_callB (call_max2X rfl) (by rfl) g_max (by decide +kernel) (pa_cons pe_int (pa_cons (pe_callB (call_min2X rfl) (by rfl) g_min (by decide +kernel) (pa_cons pe_int (pa_cons (pe_callB call_lenX (by rfl) g_len (by decide +kernel) (pa_cons (pv 0) pa_nil)) pa_nil))) pa_nil))) pa_nil)) (pg_name (i := 1) sc_law.nd rfl (by first | exact Or.inl rfl | exact Or.inr rfl))
      (pss_cons (ps_set (i := 2) sc_law.nd rfl (by first | exact Or.inl rfl | exact Or.inr rfl) (pe_callHG c_law_stream (hr.mono (by decide)) hgu (by rfl) (takes_of rfl rfl rfl rfl) (pa_cons (pv 0) (pa_cons (pv 1) pa_nil))))
      (pss_cons (ps_for (passes_of rfl) rfl (pi_range1 rfl g_range (pa_cons pe_int pa_nil)) (pg_name (i := 3) sc_law.nd rfl (by first | exact Or.inl rfl | exact Or.inr rfl))
      (pss_one (ps_if (pt_not (pt_val (pe_callHG c_law_right (hr.mono (by decide)) hgu (by rfl) (takes_of rfl rfl rfl rfl) (pa_cons (pe_lc (own := [("place", 4)]) (by rfl) sc_law.nd (pi_range1 rfl g_range (pa_cons (pe_ix ix_X (pe_lst (pa_cons pe_int (pa_cons pe_int pa_nil))) (pv 3) (fun _ _ => rfl)) pa_nil)) (blkOk_by (own := [("place", 4)]) (N := ["script", "at", "stream", "turn", "place", "odd", "other"]) (sc := defScope s_law) (by decide +kernel)) (fun _ _ _ _ _ => (pg_name (i := 4) sc_law.nd rfl (by first | exact Or.inl rfl | exact Or.inr rfl))) (fun _ _ _ _ _ => pts_nil) (fun _ _ _ _ _ => (pe_ix ix_X (pe_glob (v := .ref a_GRADES) (by rfl) g_GRADES (by rfl)) (pe_callHG c_law_draw (hr.mono (by decide)) hgu (by rfl) Pl.takes0w (pa_cons (pv 2) (pa_cons pe_int pa_nil))) (fun _ _ => rfl)))) pa_nil))))
      (pss_one (ps_ret pe_bl))
      pss_nil)))
      (pss_cons (ps_set (i := 5) sc_law.nd rfl (by first | exact Or.inl rfl | exact Or.inr rfl) (pe_lst (pa_cons pe_non (pa_cons pe_int (pa_cons pe_bl (pa_cons pe_str (pa_cons pe_str (pa_cons pe_str (pa_cons pe_str (pa_cons (pe_tup (pa_cons pe_str pa_nil)) (pa_cons (pe_lst (pa_cons pe_str pa_nil)) (pa_cons pe_dnewK (pa_cons (pe_glob (v := .ref a_GRADES) (by rfl) g_GRADES (by rfl)) (pa_cons (pe_op op_powX pe_int pe_int) pa_nil))))))))))))))
      (pss_cons (ps_if (pt_not (pt_val (pe_callHG c_law_odd_right (hr.mono (by decide)) hgu (by rfl) (takes_of rfl rfl rfl rfl) (pa_cons (pv 2) (pa_cons (pe_ix ix_X (pv 5) (pe_callHG c_law_draw (hr.mono (by decide)) hgu (by rfl) (takes_of rfl rfl rfl rfl) (pa_cons (pv 2) (pa_cons (pe_callB call_lenX (by rfl) g_len (by decide +kernel) (pa_cons (pv 5) pa_nil)) pa_nil))) (fun _ _ => rfl)) pa_nil)))))
      (pss_one (ps_ret pe_bl))
      pss_nil)
      (pss_cons (ps_set (i := 6) sc_law.nd rfl (by first | exact Or.inl rfl | exact Or.inr rfl) (pe_callHG c_law_other (hr.mono (by decide)) hgu (by rfl) (takes_of rfl rfl rfl rfl) (pa_cons (pv 2) pa_nil)))
      (pss_one (ps_if (PW.pt (pw_and (pt_not (pt_val (pe_callB call_isiX (by rfl) g_isinstance (by decide +kernel) (pa_cons (pv 6) (pa_cons (pe_bltn (v := .ty "str") rfl g_str (by decide +kernel) rfl) pa_nil))))) (pw_and1 (pt_not (pt_val (pe_callHG c_law_odd_right (hr.mono (by decide)) hgu (by rfl) (takes_of rfl rfl rfl rfl) (pa_cons (pv 2) (pa_cons (pv 6) pa_nil))))))))
      (pss_one (ps_ret pe_bl))
      pss_nil))))))))
      (pss_one (ps_ret (pe_callHG0 c_law_all_right (hr.mono (by decide)) hgu (by rfl) (takes_of rfl rfl rfl rfl))))),
    (sx_seq (sx_for (ix_rng1 (ax_cons (ex_cD (ax_cons (ex_con fun _ => rfl) (ax_cons (ex_cD (ax_cons (ex_con fun _ => rfl) (ax_cons (ex_cD (ax_cons (ex_var (i := 0)) ax_nil)) ax_nil))) ax_nil))) ax_nil)) gx_name
      (sx_seq (sx_new (ef_call (ao_cons (ex_var (i := 0)) (ao_cons (ex_var (i := 1)) ao_nil))) (by decide))
      (sx_seq (sx_for (ix_rng1 (ax_cons (ex_con fun _ => rfl) ax_nil)) gx_name
      (sx_if (tx_not (tx_bool (ex_call (ao_cons (ex_fr (ef_lc (ix_rng1 (ax_cons (ex_op (ex_lst (ax_cons (ex_con fun _ => rfl) (ax_cons (ex_con fun _ => rfl) ax_nil))) (ex_var (i := 3))) ax_nil)) gx_name (by decide) tx_yes (ex_op (ex_con t_GRADES.rep) (ex_call (ao_own (ao_cons (ex_con fun _ => rfl) ao_nil)))))) ao_nil))))
      (sx_ret (ex_con fun _ => rfl))
      sx_next))
      (sx_seq (sx_asg (ex_lst (ax_cons (ex_con fun _ => rfl) (ax_cons (ex_con fun _ => rfl) (ax_cons (ex_con fun _ => rfl) (ax_cons (ex_con fun _ => rfl) (ax_cons (ex_con fun _ => rfl) (ax_cons (ex_con fun _ => rfl) (ax_cons (ex_con fun _ => rfl) (ax_cons (ex_tup (ax_cons (ex_con fun _ => rfl) ax_nil)) (ax_cons (ex_lst (ax_cons (ex_con fun _ => rfl) ax_nil)) (ax_cons ex_d0 (ax_cons (ex_con t_GRADES.rep) (ax_cons (ex_op (ex_con fun _ => rfl) (ex_con fun _ => rfl)) ax_nil))))))))))))) gx_name)
      (sx_seq (sx_if (tx_not (tx_bool (ex_call (ao_own (ao_cons (ex_op (ex_var (i := 5)) (ex_call (ao_own (ao_cons (ex_cD (ax_cons (ex_var (i := 5)) ax_nil)) ao_nil)))) ao_nil)))))
      (sx_ret (ex_con fun _ => rfl))
      sx_next)
      (sx_seq (sx_asg (ex_call (ao_own ao_nil)) gx_name)
      (sx_if (tx_and (tx_not (tx_bool (ex_cD (ax_cons (ex_var (i := 6)) (ax_cons (ex_con fun _ => rfl) ax_nil))))) (tx_not (tx_bool (ex_call (ao_own (ao_cons (ex_var (i := 6)) ao_nil))))))
      (sx_ret (ex_con fun _ => rfl))
      sx_next)))))))
      (sx_ret (ex_call ao_nil)))⟩
end
end Pl
namespace Pl
open PySem PySem.Spec PyProof.Rows L2
def isT : Rs An → Bool
  | .ok (.v (.bl true)) _ => true
  | _ => false
theorem isT_of {r : Rs An} (h : isT r = true) : ∃ outs, r = .ok (.v (.bl true)) outs := by
  cases r with
  | ok a outs =>
    cases a with
    | v d =>
      cases d with
      | bl b => cases b with
        | true => exact ⟨outs, rfl⟩
        | false => cases h
      | _ => cases h
    | n _ => cases h
  | _ => cases h
theorem t_all : isT (f_law_all_right []) = true := by decide +kernel
end Pl
namespace Pl
open PySem PySem.Spec PyProof.Rows L2
/-! ## grades -/
def gr : Fin 5 → Str
  | 0 => Str.ofString "restart"
  | 1 => Str.ofString "free"
  | 2 => Str.ofString "paid"
  | 3 => Str.ofString "dear"
  | 4 => Str.ofString "none"
def sr : Fin 5 → Str
  | 0 => Str.ofString "free"
  | 1 => Str.ofString "paid"
  | 2 => Str.ofString "restart"
  | 3 => Str.ofString "dear"
  | 4 => Str.ofString "none"
/-- from the one order to the other -/
def si : Fin 5 → Fin 5
  | 0 => 2
  | 1 => 0
  | 2 => 1
  | 3 => 3
  | 4 => 4
def code : Fin 5 → Int
  | 0 => 16843009
  | 1 => 65793
  | 2 => 257
  | 3 => 1
  | 4 => 0
def mn (i j : Fin 5) : Fin 5 := if j < i then j else i
def mx (i j : Fin 5) : Fin 5 := if i < j then j else i
def G (i : Fin 5) : D := .str (gr i)
theorem sr_si (i : Fin 5) : sr (si i) = gr i := by
  match i with
  | 0 => rfl
  | 1 => rfl
  | 2 => rfl
  | 3 => rfl
  | 4 => rfl
def Ret (r : Rs An) (d : D) : Prop := ∃ outs, r = .ok (.v d) outs
theorem putBack_data {ρ : Env} : ∀ {as : List Arg} {outs : List Slot}, ownIx as = [] → putBack ρ as outs = ρ
  | [], _, _ => by cases ‹List Slot› <;> rfl
  | .d x :: r, [], _ => rfl
  | .d x :: r, s :: ss, h => putBack_data (as := r) (outs := ss) h
  | .o i :: r, _, h => by cases h
theorem call_ret {m : FnM} {args : M (List Arg)} {ρ ρ' : Env} {as : List Arg} {ps : List Slot} {d : D} (h1 : args ρ = .ok as ρ') (h2 : slotsOf ρ' as = some ps) (h3 : ownIx as = []) (h4 : Ret (m ps) d) : callM m args ρ = .ok d ρ' := by
  obtain ⟨outs, h4⟩ := h4
  unfold callM M.bind
  rw [h1]
  dsimp only
  rw [h2, h3]
  dsimp only
  rw [h4]
  show Rs.ok d (putBack ρ' as outs) = _
  rw [putBack_data h3]
theorem bind_ok {α β : Type} {m : M α} {f : α → M β} {ρ ρ' : Env} {a : α} (h : m ρ = .ok a ρ') : M.bind m f ρ = f a ρ' := by
  unfold M.bind
  rw [h]
theorem seq_nx {s t : S} {ρ ρ' : Env} (h : s ρ = .ok .nx ρ') : sSeq s t ρ = t ρ' := bind_ok h
def isS (r : Rs An) (s : Str) : Bool := match r with
  | .ok (.v (.str z)) _ => decide (z = s)
  | _ => false
theorem isS_of {r : Rs An} {s : Str} (h : isS r s = true) : Ret r (.str s) := by
  cases r with
  | ok a outs =>
    cases a with
    | v d =>
      cases d with
      | str z => exact ⟨outs, by rw [of_decide_eq_true h]⟩
      | _ => cases h
    | n _ => cases h
  | _ => cases h
theorem t_better : ∀ i j : Fin 5, isS (f_law_better [.d (G i), .d (G j)]) (gr (mn i j)) = true := by decide +kernel
theorem t_joined : ∀ i j : Fin 5, isS (f_law_joined [.d (.str (sr i)), .d (G j)]) (sr (mx i (si j))) = true := by decide +kernel
/-! ### check_grades, choice, sequence -/
theorem t_is : ∀ i : Fin 5, (match f_is_grade [.d (G i)] with | .ok (.v (.bl true)) _ => true | _ => false) = true := by decide +kernel
theorem is_ret (i : Fin 5) : Ret (f_is_grade [.d (G i)]) (.bl true) := by
  have h := t_is i
  revert h
  cases f_is_grade [.d (G i)] with
  | ok a outs =>
    cases a with
    | v d =>
      cases d with
      | bl b => cases b with
        | true => exact fun _ => ⟨outs, rfl⟩
        | false => exact fun h => by cases h
      | _ => exact fun h => by cases h
    | n _ => exact fun h => by cases h
  | _ => exact fun h => by cases h
def ck : S := sIf (tNotB (tTru isBl (callM f_is_grade (aoCons (eVar 1) aoNil)))) (sRaise (Str.ofString "InvalidOperation")) sNext
theorem ck_one (s0 : Slot) (i : Fin 5) : ck [s0, .d (G i)] = .ok .nx [s0, .d (G i)] := by
  have h : callM f_is_grade (aoCons (eVar 1) aoNil) [s0, .d (G i)] = .ok (.bl true) [s0, .d (G i)] := call_ret (as := [.d (G i)]) (ps := [.d (G i)]) rfl rfl rfl (is_ret i)
  have h2 : tNotB (tTru isBl (callM f_is_grade (aoCons (eVar 1) aoNil))) [s0, .d (G i)] = .ok false [s0, .d (G i)] := by
    unfold tNotB tTru
    rw [bind_ok (bind_ok (f := fun x => M.lift (isBl x)) h |>.trans rfl)]
    rfl
  unfold ck sIf
  rw [bind_ok h2]
  rfl
theorem ck_all (s0 : Slot) : ∀ (gs : List (Fin 5)) (s1 : Slot), ∃ s2, forL (nmD 1) ck (gs.map G) [s0, s1] = .ok .nx [s0, s2]
  | [], s1 => ⟨s1, rfl⟩
  | i :: r, s1 => by
    obtain ⟨s2, h⟩ := ck_all s0 r (.d (G i))
    refine ⟨s2, ?_⟩
    show again (ck [s0, .d (G i)]) (forL (nmD 1) ck (r.map G)) = _
    rw [ck_one s0 i]
    exact h
theorem check_ret (gs : List (Fin 5)) : Ret (f_check_grades [.d (.tup (gs.map G))]) .non := by
  obtain ⟨s2, h⟩ := ck_all (.d (.tup (gs.map G))) gs .u
  have e : m_check_grades [.d (.tup (gs.map G)), .u] = .ok .nx [.d (.tup (gs.map G)), s2] := h
  refine ⟨[.d (.tup (gs.map G))], ?_⟩
  unfold f_check_grades runBody
  show (match m_check_grades [.d (.tup (gs.map G)), .u] with
    | .ok .nx ρ => if keepOk [.d (.tup (gs.map G))] ρ = true then Rs.ok (An.v .non) (ρ.take 1) else .bad
    | .ok (.rt d) ρ => if keepOk [.d (.tup (gs.map G))] ρ = true then .ok (.v d) (ρ.take 1) else .bad
    | .ok (.rn ds) ρ => if keepOk [.d (.tup (gs.map G))] ρ = true then .ok (.n ds) (ρ.take 1) else .bad
    | .ex e ρ => if keepOk [.d (.tup (gs.map G))] ρ = true then .ex e (ρ.take 1) else .bad
    | _ => .bad) = _
  rw [e]
  rfl
end Pl
namespace Pl
open PySem PySem.Spec PyProof.Rows L2
theorem data_of (gs : List (Fin 5)) : runStar.dataOf (gs.map fun i => Slot.d (G i)) = some (gs.map G) := by
  induction gs with
  | nil => rfl
  | cons i r ih =>
    show (runStar.dataOf (r.map fun i => Slot.d (G i))).map (G i :: ·) = _
    rw [ih]
    rfl
theorem star_of {n : Nat} {g : S} {gs : List (Fin 5)} (hl : gs.length ≤ 1000) : runStar n g (gs.map fun i => Slot.d (G i)) = runBody 1 n g [.d (.tup (gs.map G))] := by
  unfold runStar
  rw [if_pos, data_of]
  · show (if (gs.map G).length ≤ 100000 then _ else _) = _
    rw [if_pos (by rw [List.length_map]; omega)]
  · rw [List.all_map]
    exact List.all_eq_true.mpr fun _ _ => rfl
theorem body_ret {n : Nat} {g : S} {x d : D} {ρ : Env} (h : g ([.d x] ++ List.replicate n .u) = .ok (.rt d) ρ) (hk : keepOk [.d x] ρ = true) : Ret (runBody 1 n g [.d x]) d := by
  refine ⟨ρ.take 1, ?_⟩
  unfold runBody
  rw [if_pos (show [Slot.d x].length = 1 from rfl), h]
  dsimp only
  rw [if_pos hk]
/-! choice -/
def cs : S := sAsg (nmD 1) (eOp orD (eVar 1) (eUn (lookS tab_CODES) (eVar 2)))
theorem t_or : ∀ i j : Fin 5, (lookS tab_CODES (G j)).bind (orD (.int (code i))) = some (.int (code (mn i j))) := by
  intro i j
  match i, j with
  | 0, 0 => rfl
  | 0, 1 => rfl
  | 0, 2 => rfl
  | 0, 3 => rfl
  | 0, 4 => rfl
  | 1, 0 => rfl
  | 1, 1 => rfl
  | 1, 2 => rfl
  | 1, 3 => rfl
  | 1, 4 => rfl
  | 2, 0 => rfl
  | 2, 1 => rfl
  | 2, 2 => rfl
  | 2, 3 => rfl
  | 2, 4 => rfl
  | 3, 0 => rfl
  | 3, 1 => rfl
  | 3, 2 => rfl
  | 3, 3 => rfl
  | 3, 4 => rfl
  | 4, 0 => rfl
  | 4, 1 => rfl
  | 4, 2 => rfl
  | 4, 3 => rfl
  | 4, 4 => rfl
theorem cs_one (s0 : Slot) (i j : Fin 5) : cs [s0, .d (.int (code i)), .d (G j)] = .ok .nx [s0, .d (.int (code (mn i j))), .d (G j)] := by
  have h := t_or i j
  cases e : lookS tab_CODES (G j) with
  | none => rw [e] at h; cases h
  | some y =>
    rw [e] at h
    have h : orD (.int (code i)) y = some (.int (code (mn i j))) := h
    have h1 : eUn (lookS tab_CODES) (eVar 2) [s0, .d (.int (code i)), .d (G j)] = .ok y [s0, .d (.int (code i)), .d (G j)] := by
      show M.lift (lookS tab_CODES (G j)) _ = _
      rw [e]
      rfl
    have h2 : eOp orD (eVar 1) (eUn (lookS tab_CODES) (eVar 2)) [s0, .d (.int (code i)), .d (G j)] = .ok (.int (code (mn i j))) [s0, .d (.int (code i)), .d (G j)] := by
      show M.bind (eUn (lookS tab_CODES) (eVar 2)) (fun y => M.lift (orD (.int (code i)) y)) _ = _
      rw [bind_ok h1, h]
      rfl
    unfold cs sAsg
    rw [bind_ok h2]
    rfl
theorem cs_all (s0 : Slot) : ∀ (gs : List (Fin 5)) (i : Fin 5) (s2 : Slot), ∃ s3, forL (nmD 2) cs (gs.map G) [s0, .d (.int (code i)), s2] = .ok .nx [s0, .d (.int (code (gs.foldl mn i))), s3]
  | [], i, s2 => ⟨s2, rfl⟩
  | j :: r, i, s2 => by
    obtain ⟨s3, h⟩ := cs_all s0 r (mn i j) (.d (G j))
    refine ⟨s3, ?_⟩
    show again (cs [s0, .d (.int (code i)), .d (G j)]) (forL (nmD 2) cs (r.map G)) = _
    rw [cs_one s0 i j]
    exact h
theorem look_code (i : Fin 5) : lookI tab_NAMES (.int (code i)) = some (G i) := by
  match i with
  | 0 => rfl
  | 1 => rfl
  | 2 => rfl
  | 3 => rfl
  | 4 => rfl
theorem choice_ret {gs : List (Fin 5)} (hl : gs.length ≤ 1000) : Ret (f_choice (gs.map fun i => Slot.d (G i))) (G (gs.foldl mn 4)) := by
  unfold f_choice
  rw [star_of hl]
  obtain ⟨s3, h⟩ := cs_all (.d (.tup (gs.map G))) gs 4 .u
  refine body_ret (ρ := [.d (.tup (gs.map G)), .d (.int (code (gs.foldl mn 4))), s3]) ?_ rfl
  have h0 : callM f_check_grades (aoCons (eVar 0) aoNil) [.d (.tup (gs.map G)), .u, .u] = .ok .non [.d (.tup (gs.map G)), .u, .u] := call_ret (as := [.d (.tup (gs.map G))]) (ps := [.d (.tup (gs.map G))]) rfl rfl rfl (check_ret gs)
  have h1 : sDrop (callM f_check_grades (aoCons (eVar 0) aoNil)) [.d (.tup (gs.map G)), .u, .u] = .ok .nx [.d (.tup (gs.map G)), .u, .u] := bind_ok h0
  show sSeq (sDrop (callM f_check_grades (aoCons (eVar 0) aoNil))) _ [.d (.tup (gs.map G)), .u, .u] = _
  rw [seq_nx h1]
  rw [seq_nx (s := sAsg (nmD 1) (eCon (.int 0))) (ρ' := [.d (.tup (gs.map G)), .d (.int (code 4)), .u]) rfl]
  have h2 : sFor (itBy asTup (eVar 0)) (nmD 2) (sAsg (nmD 1) (eOp orD (eVar 1) (eUn (lookS tab_CODES) (eVar 2)))) [.d (.tup (gs.map G)), .d (.int (code 4)), .u] = .ok .nx [.d (.tup (gs.map G)), .d (.int (code (gs.foldl mn 4))), s3] := h
  rw [seq_nx h2]
  show (M.bind (M.lift (lookI tab_NAMES (.int (code (gs.foldl mn 4))))) fun d => M.pure (Ct.rt d)) _ = _
  rw [look_code]
  rfl
/-! sequence -/
theorem ix_G (i : Fin 5) : indexD tab_SERIES [G i] = some (.int ((si i).val : Nat)) := by
  match i with
  | 0 => rfl
  | 1 => rfl
  | 2 => rfl
  | 3 => rfl
  | 4 => rfl
def N5 (i : Fin 5) : D := .int ((si i).val : Nat)
def el : M D := eCall (indexD tab_SERIES) (aCons (eVar 1) aNil)
theorem el_one (s0 : Slot) (i : Fin 5) : el [s0, .d (G i)] = .ok (N5 i) [s0, .d (G i)] := by
  show M.lift (indexD tab_SERIES [G i]) _ = _
  rw [ix_G]
  rfl
theorem lc_all (s0 : Slot) : ∀ (gs : List (Fin 5)) (s1 : Slot), ∃ s2, lcL (nmD 1) (M.pure true) el [1] (gs.map G) [s0, s1] = .ok (gs.map N5) [s0, s2]
  | [], s1 => ⟨_, rfl⟩
  | i :: r, s1 => by
    obtain ⟨s2, h⟩ := lc_all s0 r (.d (G i))
    refine ⟨s2, ?_⟩
    show (match el [s0, .d (G i)] with
        | .ok d ρ3 => match lcL (nmD 1) (M.pure true) el [1] (r.map G) ρ3 with
          | .ok ds ρ4 => Rs.ok (d :: ds) ρ4
          | _ => .bad
        | _ => .bad) = _
    rw [el_one s0 i]
    dsimp only
    rw [h]
    rfl
theorem int5 : ∀ gs : List (Fin 5), allInt (gs.map N5) = true
  | [] => rfl
  | i :: r => int5 r
theorem toP5 : ∀ gs : List (Fin 5), toPL (gs.map N5) = gs.map fun i => PyData.int ((si i).val : Nat)
  | [] => by rw [List.map_nil, toPL]; rfl
  | i :: r => by
    rw [List.map_cons, toPL, toP5 r, N5, toP]
    rfl
theorem lt5 : ∀ i j : Fin 5, PySem.W.dataLt (.int (i.val : Nat)) (.int (j.val : Nat)) = decide (i < j) := by decide +kernel
theorem max5 : ∀ (gs : List (Fin 5)) (i : Fin 5), PySem.W.maxD (.int (i.val : Nat)) (gs.map fun i => PyData.int ((si i).val : Nat)) = .int (((gs.map si).foldl mx i).val : Nat)
  | [], i => rfl
  | j :: r, i => by
    show PySem.W.maxD (if PySem.W.dataLt (.int (i.val : Nat)) (.int ((si j).val : Nat)) = true then (.int ((si j).val : Nat)) else (.int (i.val : Nat))) (r.map fun i => PyData.int ((si i).val : Nat)) = .int (((r.map si).foldl mx (mx i (si j))).val : Nat)
    rw [lt5, ← max5 r (mx i (si j))]
    unfold mx
    by_cases h : i < si j
    · rw [if_pos (decide_eq_true h), if_pos h]
    · rw [if_neg (by rw [decide_eq_false h]; exact Bool.false_ne_true), if_neg h]
theorem at_ser (i : Fin 5) : ixD (.tup tab_SERIES) (.int (i.val : Nat)) = some (.str (sr i)) := by
  match i with
  | 0 => rfl
  | 1 => rfl
  | 2 => rfl
  | 3 => rfl
  | 4 => rfl
theorem maxdef5 {i : Fin 5} {gs : List (Fin 5)} (hl : gs.length ≤ 1000) : maxDefD [.lst ((i :: gs).map N5)] [.int 0] = some (.int (((gs.map si).foldl mx (si i)).val : Nat)) := by
  show (if (allInt ((i :: gs).map N5) && decide (((i :: gs).map N5).length ≤ 100000)) = true then (match toPL ((i :: gs).map N5) with | [] => some (D.int 0) | y :: ys => intP (PySem.W.maxD y ys)) else none) = _
  rw [if_pos (by rw [int5, Bool.true_and, List.length_map, List.length_cons]; exact decide_eq_true (by omega)), toP5]
  show intP (PySem.W.maxD (.int ((si i).val : Nat)) (gs.map fun i => PyData.int ((si i).val : Nat))) = _
  rw [max5]
  rfl
theorem sequence_ret {i : Fin 5} {gs : List (Fin 5)} (hl : gs.length ≤ 900) : Ret (f_sequence ((i :: gs).map fun i => Slot.d (G i))) (.str (sr ((gs.map si).foldl mx (si i)))) := by
  unfold f_sequence
  rw [star_of (gs := i :: gs) (by rw [List.length_cons]; omega)]
  obtain ⟨s2, h⟩ := lc_all (.d (.tup ((i :: gs).map G))) (i :: gs) .u
  refine body_ret (ρ := [.d (.tup ((i :: gs).map G)), .u]) ?_ rfl
  have h0 : callM f_check_grades (aoCons (eVar 0) aoNil) [.d (.tup ((i :: gs).map G)), .u] = .ok .non [.d (.tup ((i :: gs).map G)), .u] := call_ret (as := [.d (.tup ((i :: gs).map G))]) (ps := [.d (.tup ((i :: gs).map G))]) rfl rfl rfl (check_ret (i :: gs))
  have h1 : sDrop (callM f_check_grades (aoCons (eVar 0) aoNil)) [.d (.tup ((i :: gs).map G)), .u] = .ok .nx [.d (.tup ((i :: gs).map G)), .u] := bind_ok h0
  show sSeq (sDrop (callM f_check_grades (aoCons (eVar 0) aoNil))) _ [.d (.tup ((i :: gs).map G)), .u] = _
  rw [seq_nx h1]
  have h2 : eLc (itBy asTup (eVar 0)) (nmD 1) (M.pure true) el [1] [.d (.tup ((i :: gs).map G)), .u] = .ok ((i :: gs).map N5) [.d (.tup ((i :: gs).map G)), .u] := by
    show (match lcL (nmD 1) (M.pure true) el [1] ((i :: gs).map G) [.d (.tup ((i :: gs).map G)), .u] with
      | .ok ds ρ' => if ds.length ≤ 100000 then Rs.ok ds (restE [.d (.tup ((i :: gs).map G)), .u] ρ' [1]) else .bad
      | _ => .bad) = _
    rw [h]
    show (if ((i :: gs).map N5).length ≤ 100000 then _ else _) = _
    rw [if_pos (by rw [List.length_map, List.length_cons]; omega)]
    rfl
  have h3 : aCons (eFr (eLc (itBy asTup (eVar 0)) (nmD 1) (M.pure true) el [1])) aNil [.d (.tup ((i :: gs).map G)), .u] = .ok [.lst ((i :: gs).map N5)] [.d (.tup ((i :: gs).map G)), .u] := by
    have h5 : eFr (eLc (itBy asTup (eVar 0)) (nmD 1) (M.pure true) el [1]) [.d (.tup ((i :: gs).map G)), .u] = .ok (.lst ((i :: gs).map N5)) [.d (.tup ((i :: gs).map G)), .u] := by
      unfold eFr
      rw [bind_ok h2]
      rfl
    unfold aCons
    rw [bind_ok h5]
    rfl
  have h4 : eCallK maxDefD (aCons (eFr (eLc (itBy asTup (eVar 0)) (nmD 1) (M.pure true) el [1])) aNil) (aCons (eCon (.int 0)) aNil) [.d (.tup ((i :: gs).map G)), .u] = .ok (.int (((gs.map si).foldl mx (si i)).val : Nat)) [.d (.tup ((i :: gs).map G)), .u] := by
    unfold eCallK
    rw [bind_ok h3]
    show M.lift (maxDefD [.lst ((i :: gs).map N5)] [.int 0]) _ = _
    rw [maxdef5 (by omega)]
    rfl
  show M.bind (M.bind (eCallK maxDefD (aCons (eFr (eLc (itBy asTup (eVar 0)) (nmD 1) (M.pure true) el [1])) aNil) (aCons (eCon (.int 0)) aNil)) fun y => M.lift (ixD (.tup tab_SERIES) y)) (fun d => M.pure (Ct.rt d)) _ = _
  rw [bind_ok (ρ' := [.d (.tup ((i :: gs).map G)), .u]) (a := .str (sr ((gs.map si).foldl mx (si i)))) (by
    rw [bind_ok h4, at_ser]
    rfl)]
  rfl
end Pl
namespace Pl
open PySem PySem.Spec PyProof.Rows L2
def rb : S := sPar 1 2 (aCons (callM f_law_better (aoCons (eVar 1) (aoCons (eVar 3) aoNil))) (aCons (callM f_law_joined (aoCons (eVar 2) (aoCons (eVar 3) aoNil))) aNil))
theorem rb_one (s0 : Slot) (a c j : Fin 5) (R : Env) : rb (s0 :: .d (G a) :: .d (.str (sr c)) :: .d (G j) :: R) = .ok .nx (s0 :: .d (G (mn a j)) :: .d (.str (sr (mx c (si j)))) :: .d (G j) :: R) := by
  have h1 : callM f_law_better (aoCons (eVar 1) (aoCons (eVar 3) aoNil)) (s0 :: .d (G a) :: .d (.str (sr c)) :: .d (G j) :: R) = .ok (G (mn a j)) (s0 :: .d (G a) :: .d (.str (sr c)) :: .d (G j) :: R) :=
    call_ret (as := [.d (G a), .d (G j)]) (ps := [.d (G a), .d (G j)]) rfl rfl rfl (isS_of (t_better a j))
  have h2 : callM f_law_joined (aoCons (eVar 2) (aoCons (eVar 3) aoNil)) (s0 :: .d (G a) :: .d (.str (sr c)) :: .d (G j) :: R) = .ok (.str (sr (mx c (si j)))) (s0 :: .d (G a) :: .d (.str (sr c)) :: .d (G j) :: R) :=
    call_ret (as := [.d (.str (sr c)), .d (G j)]) (ps := [.d (.str (sr c)), .d (G j)]) rfl rfl rfl (isS_of (t_joined c j))
  unfold rb sPar
  have h3 : aCons (callM f_law_better (aoCons (eVar 1) (aoCons (eVar 3) aoNil))) (aCons (callM f_law_joined (aoCons (eVar 2) (aoCons (eVar 3) aoNil))) aNil) (s0 :: .d (G a) :: .d (.str (sr c)) :: .d (G j) :: R) = .ok [G (mn a j), .str (sr (mx c (si j)))] (s0 :: .d (G a) :: .d (.str (sr c)) :: .d (G j) :: R) := by
    unfold aCons
    rw [bind_ok h1]
    show M.bind (M.bind (callM f_law_joined (aoCons (eVar 2) (aoCons (eVar 3) aoNil))) fun x => M.bind aNil fun xs => M.pure (x :: xs)) (fun xs => M.pure (G (mn a j) :: xs)) _ = _
    rw [bind_ok (ρ' := (s0 :: .d (G a) :: .d (.str (sr c)) :: .d (G j) :: R)) (a := [.str (sr (mx c (si j)))]) (by rw [bind_ok h2]; rfl)]
    rfl
  rw [bind_ok h3]
  rfl
theorem rb_all (s0 : Slot) (R : Env) : ∀ (gs : List (Fin 5)) (a c : Fin 5) (s3 : Slot), ∃ s4, forL (nmD 3) rb (gs.map G) (s0 :: .d (G a) :: .d (.str (sr c)) :: s3 :: R) = .ok .nx (s0 :: .d (G (gs.foldl mn a)) :: .d (.str (sr ((gs.map si).foldl mx c))) :: s4 :: R)
  | [], a, c, s3 => ⟨s3, rfl⟩
  | j :: r, a, c, s3 => by
    obtain ⟨s4, h⟩ := rb_all s0 R r (mn a j) (mx c (si j)) (.d (G j))
    refine ⟨s4, ?_⟩
    show again (rb (s0 :: .d (G a) :: .d (.str (sr c)) :: .d (G j) :: R)) (forL (nmD 3) rb (r.map G)) = _
    rw [rb_one]
    exact h
theorem mn4 (i : Fin 5) : mn 4 i = i := by
  match i with
  | 0 => rfl
  | 1 => rfl
  | 2 => rfl
  | 3 => rfl
  | 4 => rfl
theorem t_eq : ∀ A B : Fin 5, (match eqD (.lst [G A, .str (sr B)]) (.lst [G A, .str (sr B)]) with | some (.bl true) => true | _ => false) = true := by decide +kernel
theorem eq_AB (A B : Fin 5) : eqD (.lst [G A, .str (sr B)]) (.lst [G A, .str (sr B)]) = some (.bl true) := by
  have h := t_eq A B
  revert h
  cases eqD (.lst [G A, .str (sr B)]) (.lst [G A, .str (sr B)]) with
  | none => exact fun h => by cases h
  | some d =>
    cases d with
    | bl b => cases b with
      | true => exact fun _ => rfl
      | false => exact fun h => by cases h
    | _ => exact fun h => by cases h
/-- the last row: [choice(..), sequence(..)] == [best, last] -/
theorem last_row {ρ : Env} {a1 : M (List Arg)} {as : List Arg} {ps : List Slot} {A B : Fin 5} (h1 : a1 ρ = .ok as ρ) (h2 : slotsOf ρ as = some ps) (h3 : ownIx as = []) (hc : Ret (f_choice ps) (G A)) (hs : Ret (f_sequence ps) (.str (sr B))) (hA : eVar 1 ρ = .ok (G A) ρ) (hB : eVar 2 ρ = .ok (.str (sr B)) ρ) :
    eLst (aCons (callM f_choice a1) (aCons (callM f_sequence a1) aNil)) ρ = .ok (.lst [G A, .str (sr B)]) ρ ∧ eLst (aCons (eVar 1) (aCons (eVar 2) aNil)) ρ = .ok (.lst [G A, .str (sr B)]) ρ := by
  have c1 : callM f_choice a1 ρ = .ok (G A) ρ := call_ret h1 h2 h3 hc
  have c2 : callM f_sequence a1 ρ = .ok (.str (sr B)) ρ := call_ret h1 h2 h3 hs
  have two : ∀ {e1 e2 : M D} {x y : D}, e1 ρ = .ok x ρ → e2 ρ = .ok y ρ → eLst (aCons e1 (aCons e2 aNil)) ρ = .ok (.lst [x, y]) ρ := fun {e1 e2 x y} g1 g2 => by
    have g3 : aCons e2 aNil ρ = .ok [y] ρ := by
      unfold aCons
      rw [bind_ok g2]
      rfl
    have g4 : aCons e1 (aCons e2 aNil) ρ = .ok [x, y] ρ := by
      show M.bind e1 (fun x => M.bind (aCons e2 aNil) fun xs => M.pure (x :: xs)) ρ = _
      rw [bind_ok g1, bind_ok g3]
      rfl
    unfold eLst
    rw [bind_ok g4]
    rfl
  exact ⟨two c1 c2, two hA hB⟩
theorem ret_eq {ρ : Env} {e1 e2 : M D} {A B : Fin 5} (h : e1 ρ = .ok (.lst [G A, .str (sr B)]) ρ ∧ e2 ρ = .ok (.lst [G A, .str (sr B)]) ρ) : sRet (eOp eqD e1 e2) ρ = .ok (.rt (.bl true)) ρ := by
  have h3 : eOp eqD e1 e2 ρ = .ok (.bl true) ρ := by
    unfold eOp
    rw [bind_ok h.1, bind_ok h.2, eq_AB]
    rfl
  unfold sRet
  rw [bind_ok h3]
  rfl
theorem seq_rt {s t : S} {ρ ρ' : Env} {d : D} (h : s ρ = .ok (.rt d) ρ') : sSeq s t ρ = .ok (.rt d) ρ' := by
  unfold sSeq
  rw [bind_ok h]
  rfl
theorem if_yes {t : M Bool} {a b : S} {ρ ρ' : Env} (h : t ρ = .ok true ρ') : sIf t a b ρ = a ρ' := by
  unfold sIf
  rw [bind_ok h]
  rfl
theorem if_no {t : M Bool} {a b : S} {ρ ρ' : Env} (h : t ρ = .ok false ρ') : sIf t a b ρ = b ρ' := by
  unfold sIf
  rw [bind_ok h]
  rfl
theorem right5 (i1 i2 i3 i4 i5 : Fin 5) : Ret (f_law_right [.d (.lst [G i1, G i2, G i3, G i4, G i5])]) (.bl true) := by
  obtain ⟨s4, h⟩ := rb_all (.d (.lst [G i1, G i2, G i3, G i4, G i5])) [.u, .u, .u, .u, .u, .u, .u, .u] [i2, i3, i4, i5] i1 (si i1) .u
  have hc := choice_ret (gs := [i1, i2, i3, i4, i5]) (Nat.le_of_ble_eq_true rfl)
  have hs := sequence_ret (i := i1) (gs := [i2, i3, i4, i5]) (Nat.le_of_ble_eq_true rfl)
  rw [show [i1, i2, i3, i4, i5].foldl mn 4 = [i2, i3, i4, i5].foldl mn i1 from by rw [List.foldl_cons, mn4]] at hc
  revert h hc hs
  generalize [i2, i3, i4, i5].foldl mn i1 = A
  generalize ([i2, i3, i4, i5].map si).foldl mx (si i1) = B
  intro h hc hs
  unfold f_law_right
  refine body_ret (ρ := [.d (.lst [G i1, G i2, G i3, G i4, G i5]), .d (G A), .d (.str (sr B)), s4, .d (G i1), .d (G i2), .d (G i3), .d (G i4), .d (G i5), .u, .u, .u]) ?_ rfl
  unfold m_law_right
  refine (seq_nx (ρ' := [.d (.lst [G i1, G i2, G i3, G i4, G i5]), .d (G i1), .d (.str (sr (si i1))), .u, .u, .u, .u, .u, .u, .u, .u, .u]) (by rw [sr_si]; rfl)).trans ?_
  refine (seq_nx (ρ' := [.d (.lst [G i1, G i2, G i3, G i4, G i5]), .d (G A), .d (.str (sr B)), s4, .u, .u, .u, .u, .u, .u, .u, .u]) h).trans ?_
  refine (seq_nx (ρ' := [.d (.lst [G i1, G i2, G i3, G i4, G i5]), .d (G A), .d (.str (sr B)), s4, .u, .u, .u, .u, .u, .u, .u, .u]) rfl).trans ?_
  refine (seq_nx (ρ' := [.d (.lst [G i1, G i2, G i3, G i4, G i5]), .d (G A), .d (.str (sr B)), s4, .u, .u, .u, .u, .u, .u, .u, .u]) rfl).trans ?_
  refine (seq_nx (ρ' := [.d (.lst [G i1, G i2, G i3, G i4, G i5]), .d (G A), .d (.str (sr B)), s4, .d (G i1), .d (G i2), .d (G i3), .d (G i4), .d (G i5), .u, .u, .u]) rfl).trans ?_
  refine seq_rt ((if_yes (ρ' := [.d (.lst [G i1, G i2, G i3, G i4, G i5]), .d (G A), .d (.str (sr B)), s4, .d (G i1), .d (G i2), .d (G i3), .d (G i4), .d (G i5), .u, .u, .u]) rfl).trans ?_)
  exact ret_eq (last_row (as := [.d (G i1), .d (G i2), .d (G i3), .d (G i4), .d (G i5)]) rfl rfl rfl hc hs rfl rfl)
theorem right7 (i1 i2 i3 i4 i5 i6 i7 : Fin 5) : Ret (f_law_right [.d (.lst [G i1, G i2, G i3, G i4, G i5, G i6, G i7])]) (.bl true) := by
  obtain ⟨s4, h⟩ := rb_all (.d (.lst [G i1, G i2, G i3, G i4, G i5, G i6, G i7])) [.u, .u, .u, .u, .u, .u, .u, .u] [i2, i3, i4, i5, i6, i7] i1 (si i1) .u
  have hc := choice_ret (gs := [i1, i2, i3, i4, i5, i6, i7]) (Nat.le_of_ble_eq_true rfl)
  have hs := sequence_ret (i := i1) (gs := [i2, i3, i4, i5, i6, i7]) (Nat.le_of_ble_eq_true rfl)
  rw [show [i1, i2, i3, i4, i5, i6, i7].foldl mn 4 = [i2, i3, i4, i5, i6, i7].foldl mn i1 from by rw [List.foldl_cons, mn4]] at hc
  revert h hc hs
  generalize [i2, i3, i4, i5, i6, i7].foldl mn i1 = A
  generalize ([i2, i3, i4, i5, i6, i7].map si).foldl mx (si i1) = B
  intro h hc hs
  unfold f_law_right
  refine body_ret (ρ := [.d (.lst [G i1, G i2, G i3, G i4, G i5, G i6, G i7]), .d (G A), .d (.str (sr B)), s4, .d (G i1), .d (G i2), .d (G i3), .d (G i4), .d (G i5), .d (G i6), .d (G i7), .d (.lst [G A, .str (sr B)])]) ?_ rfl
  unfold m_law_right
  refine (seq_nx (ρ' := [.d (.lst [G i1, G i2, G i3, G i4, G i5, G i6, G i7]), .d (G i1), .d (.str (sr (si i1))), .u, .u, .u, .u, .u, .u, .u, .u, .u]) (by rw [sr_si]; rfl)).trans ?_
  refine (seq_nx (ρ' := [.d (.lst [G i1, G i2, G i3, G i4, G i5, G i6, G i7]), .d (G A), .d (.str (sr B)), s4, .u, .u, .u, .u, .u, .u, .u, .u]) h).trans ?_
  refine (seq_nx (ρ' := [.d (.lst [G i1, G i2, G i3, G i4, G i5, G i6, G i7]), .d (G A), .d (.str (sr B)), s4, .u, .u, .u, .u, .u, .u, .u, .u]) rfl).trans ?_
  refine (seq_nx (ρ' := [.d (.lst [G i1, G i2, G i3, G i4, G i5, G i6, G i7]), .d (G A), .d (.str (sr B)), s4, .u, .u, .u, .u, .u, .u, .u, .u]) rfl).trans ?_
  refine (seq_nx (ρ' := [.d (.lst [G i1, G i2, G i3, G i4, G i5, G i6, G i7]), .d (G A), .d (.str (sr B)), s4, .d (G i1), .d (G i2), .d (G i3), .d (G i4), .d (G i5), .u, .u, .u]) rfl).trans ?_
  refine (seq_nx (ρ' := [.d (.lst [G i1, G i2, G i3, G i4, G i5, G i6, G i7]), .d (G A), .d (.str (sr B)), s4, .d (G i1), .d (G i2), .d (G i3), .d (G i4), .d (G i5), .u, .u, .u]) rfl).trans ?_
  refine (seq_nx (ρ' := [.d (.lst [G i1, G i2, G i3, G i4, G i5, G i6, G i7]), .d (G A), .d (.str (sr B)), s4, .d (G i1), .d (G i2), .d (G i3), .d (G i4), .d (G i5), .d (G i6), .d (G i7), .u]) rfl).trans ?_
  have lr := last_row (ρ := [.d (.lst [G i1, G i2, G i3, G i4, G i5, G i6, G i7]), .d (G A), .d (.str (sr B)), s4, .d (G i1), .d (G i2), .d (G i3), .d (G i4), .d (G i5), .d (G i6), .d (G i7), .u]) (a1 := aoCons (eVar 4) (aoCons (eVar 5) (aoCons (eVar 6) (aoCons (eVar 7) (aoCons (eVar 8) (aoCons (eVar 9) (aoCons (eVar 10) aoNil)))))))
    (as := [.d (G i1), .d (G i2), .d (G i3), .d (G i4), .d (G i5), .d (G i6), .d (G i7)]) rfl rfl rfl hc hs rfl rfl
  refine (seq_nx (ρ' := [.d (.lst [G i1, G i2, G i3, G i4, G i5, G i6, G i7]), .d (G A), .d (.str (sr B)), s4, .d (G i1), .d (G i2), .d (G i3), .d (G i4), .d (G i5), .d (G i6), .d (G i7), .d (.lst [G A, .str (sr B)])]) ?_).trans ?_
  · unfold sAsg
    rw [bind_ok lr.1]
    rfl
  · exact ret_eq ⟨rfl, rfl⟩
end Pl
namespace Pl
open PySem PySem.Spec PyProof.Rows L2
theorem op_ok {g : D → D → Option D} {e1 e2 : M D} {x y z : D} {ρ ρ1 ρ2 : Env} (h1 : e1 ρ = .ok x ρ1) (h2 : e2 ρ1 = .ok y ρ2) (h : g x y = some z) : eOp g e1 e2 ρ = .ok z ρ2 := by
  unfold eOp
  rw [bind_ok h1, bind_ok h2, h]
  rfl
theorem asg_ok {gd : D → Env → Option Env} {e : M D} {d : D} {ρ ρ1 ρ2 : Env} (h1 : e ρ = .ok d ρ1) (h : gd d ρ1 = some ρ2) : sAsg gd e ρ = .ok .nx ρ2 := by
  unfold sAsg
  rw [bind_ok h1]
  show (match gd d ρ1 with | some ρ' => Rs.ok Ct.nx ρ' | none => .bad) = _
  rw [h]
theorem ret_ok {e : M D} {d : D} {ρ ρ1 : Env} (h : e ρ = .ok d ρ1) : sRet e ρ = .ok (.rt d) ρ1 := bind_ok h
theorem tru_ok {e : M D} {b : Bool} {ρ ρ1 : Env} (h : e ρ = .ok (.bl b) ρ1) : tTru isBl e ρ = .ok b ρ1 := by
  unfold tTru
  rw [bind_ok h]
  rfl
theorem mod_ok {i j : Int} (h : 0 < j) : modD (.int i) (.int j) = some (.int (i % j)) := if_pos (decide_eq_true h)
theorem fdiv_ok {i j : Int} (h : 0 < j ∧ j < 1073741824) : fdivD (.int i) (.int j) = some (.int (i / j)) := if_pos (decide_eq_true h)
theorem lg {n k : Nat} (h : n < 2 ^ k) : n.log2 ≤ k := by
  by_cases z : n = 0
  · subst z
    rw [Nat.log2_zero]
    exact Nat.zero_le _
  · exact Nat.le_of_lt ((Nat.log2_lt z).mpr h)
theorem mul_ok {i j : Int} (hi : i.natAbs < 2 ^ 100) (hj : j.natAbs < 2 ^ 100) : mulD (.int i) (.int j) = some (.int (i * j)) := if_pos (by have := lg hi; have := lg hj; omega)
/-- the law's stream -/
structure Stm (x : Slot) (n : Nat) : Prop where
  ex : ∃ a b c : Int, x = .o [.int a, .int b, .int c] ∧ 0 ≤ a ∧ 0 ≤ b ∧ b < 2147483647 ∧ 0 ≤ c ∧ c ≤ n
theorem draw_ok {x : Slot} {n : Nat} {t : Int} (hx : Stm x n) (hn : n ≤ 1000000) (h0 : 0 < t) (h1 : t < 1000) : ∃ r y, f_law_draw [x, .d (.int t)] = .ok (.v (.int r)) [y, .d (.int t)] ∧ 0 ≤ r ∧ r < t ∧ Stm y (n + 1) := by
  obtain ⟨a, b, c, rfl, ha, hb, hb2, hc, hc2⟩ := hx.ex
  have run : ∀ {r : D} {y : List D} {s2 s3 s4 : Slot}, m_law_draw [.o [.int a, .int b, .int c], .d (.int t), .u, .u, .u] = .ok (.rt r) [.o y, .d (.int t), s2, s3, s4] → f_law_draw [.o [.int a, .int b, .int c], .d (.int t)] = .ok (.v r) [.o y, .d (.int t)] := fun {r y s2 s3 s4} h => by
    unfold f_law_draw runBody
    rw [if_pos (show [Slot.o [.int a, .int b, .int c], .d (.int t)].length = 2 from rfl)]
    show (match m_law_draw [.o [.int a, .int b, .int c], .d (.int t), .u, .u, .u] with
      | .ok .nx ρ => if keepOk [.o [.int a, .int b, .int c], .d (.int t)] ρ = true then Rs.ok (An.v .non) (ρ.take 2) else .bad
      | .ok (.rt d) ρ => if keepOk [.o [.int a, .int b, .int c], .d (.int t)] ρ = true then .ok (.v d) (ρ.take 2) else .bad
      | .ok (.rn ds) ρ => if keepOk [.o [.int a, .int b, .int c], .d (.int t)] ρ = true then .ok (.n ds) (ρ.take 2) else .bad
      | .ex e ρ => if keepOk [.o [.int a, .int b, .int c], .d (.int t)] ρ = true then .ex e (ρ.take 2) else .bad
      | _ => .bad) = _
    rw [h]
    rfl
  have t0 : tTru isBl (eOp gtD (eIxO 0 (eCon (.int 0))) (eCon (.int 0))) [.o [.int a, .int b, .int c], .d (.int t), .u, .u, .u] = .ok (decide (0 < a)) [.o [.int a, .int b, .int c], .d (.int t), .u, .u, .u] := rfl
  by_cases pos : 0 < a
  · rw [decide_eq_true pos] at t0
    refine ⟨a % t, .o [.int (a / t), .int b, .int c], run (s2 := .d (.int (a % t))) (s3 := .u) (s4 := .u) ?_, Int.emod_nonneg _ (by omega), Int.emod_lt_of_pos _ h0, ⟨_, _, _, rfl, Int.ediv_nonneg ha (by omega), hb, hb2, hc, by omega⟩⟩
    unfold m_law_draw
    refine seq_rt ((if_yes t0).trans ?_)
    refine (seq_nx (ρ' := [.o [.int a, .int b, .int c], .d (.int t), .d (.int (a % t)), .u, .u]) ?_).trans ?_
    · exact asg_ok (op_ok (x := .int a) (y := .int t) rfl rfl (mod_ok h0)) rfl
    refine (seq_nx (ρ' := [.o [.int (a / t), .int b, .int c], .d (.int t), .d (.int (a % t)), .u, .u]) ?_).trans rfl
    have hdiv : eOp fdivD (eIxO 0 (eCon (.int 0))) (eVar 1) [.o [.int a, .int b, .int c], .d (.int t), .d (.int (a % t)), .u, .u] = .ok (.int (a / t)) [.o [.int a, .int b, .int c], .d (.int t), .d (.int (a % t)), .u, .u] := op_ok (x := .int a) (y := .int t) rfl rfl (fdiv_ok ⟨h0, by omega⟩)
    unfold sSetO
    rw [bind_ok hdiv]
    rfl
  · rw [decide_eq_false pos] at t0
    have e1 : (b + 1000003 * (c + 1)) % 2305843009213693951 < 2305843009213693951 := Int.emod_lt_of_pos _ (by decide)
    have e2 : 0 ≤ (b + 1000003 * (c + 1)) % 2305843009213693951 := Int.emod_nonneg _ (by decide)
    generalize hz : (b + 1000003 * (c + 1)) % 2305843009213693951 = z at e1 e2
    have e3 : z * z % 2305843009213693921 < 2305843009213693921 := Int.emod_lt_of_pos _ (by decide)
    have e4 : 0 ≤ z * z % 2305843009213693921 := Int.emod_nonneg _ (by decide)
    refine ⟨(z * z % 2305843009213693921 * z + 8191 * (c + 1)) % 2305843009213693907 / 4096 % t, .o [.int a, .int b, .int (c + 1)], run (s2 := .u) (s3 := .d (.int z)) (s4 := .d (.int ((z * z % 2305843009213693921 * z + 8191 * (c + 1)) % 2305843009213693907))) ?_, Int.emod_nonneg _ (by omega), Int.emod_lt_of_pos _ h0, ⟨_, _, _, rfl, ha, hb, hb2, by omega, by omega⟩⟩
    unfold m_law_draw
    refine (seq_nx (ρ' := [.o [.int a, .int b, .int c], .d (.int t), .u, .u, .u]) ((if_no t0).trans rfl)).trans ?_
    refine (seq_nx (ρ' := [.o [.int a, .int b, .int (c + 1)], .d (.int t), .u, .u, .u]) rfl).trans ?_
    refine (seq_nx (ρ' := [.o [.int a, .int b, .int (c + 1)], .d (.int t), .u, .d (.int z), .u]) ?_).trans ?_
    · rw [← hz]
      exact asg_ok (op_ok (x := .int (b + 1000003 * (c + 1))) (y := .int 2305843009213693951) (op_ok (x := .int b) (y := .int (1000003 * (c + 1))) rfl (op_ok (x := .int 1000003) (y := .int (c + 1)) rfl rfl (mul_ok (by decide) (by omega))) rfl) rfl (mod_ok (by decide))) rfl
    refine (seq_nx (ρ' := [.o [.int a, .int b, .int (c + 1)], .d (.int t), .u, .d (.int z), .d (.int ((z * z % 2305843009213693921 * z + 8191 * (c + 1)) % 2305843009213693907))]) ?_).trans ?_
    · exact asg_ok (op_ok (x := .int (z * z % 2305843009213693921 * z + 8191 * (c + 1))) (y := .int 2305843009213693907)
      (op_ok (x := .int (z * z % 2305843009213693921 * z)) (y := .int (8191 * (c + 1))) (op_ok (x := .int (z * z % 2305843009213693921)) (y := .int z) (op_ok (x := .int (z * z)) (y := .int 2305843009213693921) (op_ok (x := .int z) (y := .int z) rfl rfl (mul_ok (by omega) (by omega))) rfl (mod_ok (by decide))) rfl (mul_ok (by omega) (by omega)))
        (op_ok (x := .int 8191) (y := .int (c + 1)) rfl rfl (mul_ok (by decide) (by omega))) rfl) rfl (mod_ok (by decide))) rfl
    exact ret_ok (op_ok (x := .int ((z * z % 2305843009213693921 * z + 8191 * (c + 1)) % 2305843009213693907 / 4096)) (y := .int t) (op_ok (x := .int ((z * z % 2305843009213693921 * z + 8191 * (c + 1)) % 2305843009213693907)) (y := .int 4096) rfl rfl (fdiv_ok ⟨by decide, by decide⟩)) rfl (mod_ok h0))
end Pl
namespace Pl
open PySem PySem.Spec PyProof.Rows L2
def P60 : Int := 10 ^ 60
def PP : Int := P60 ^ 12
theorem pow1 : powD (.int 10) (.int 60) = some (.int P60) := by kernel_rfl
theorem pow2 : powD (.int P60) (.int 12) = some (.int PP) := by kernel_rfl
theorem pow3 : powD (.int 10) (.int 18) = some (.int 1000000000000000000) := by kernel_rfl
theorem PPpos : 0 < PP := by decide +kernel
theorem at_scr {ns : List Int} {i : Int} (h0 : 0 ≤ i) (h1 : i < ns.length) : ∃ v, ixD (.scr ns) (.int i) = some (.int v) := by
  have hn : i.toNat < ns.length := by omega
  refine ⟨ns[i.toNat], ?_⟩
  show (atI ns i).map D.int = _
  unfold atI ixN
  rw [if_pos h0, if_pos h1]
  show (ns[i.toNat]?).map D.int = _
  rw [List.getElem?_eq_getElem hn]
  rfl
theorem un_ok {g : D → Option D} {e : M D} {x z : D} {ρ ρ1 : Env} (h1 : e ρ = .ok x ρ1) (h : g x = some z) : eUn g e ρ = .ok z ρ1 := by
  unfold eUn
  rw [bind_ok h1, h]
  rfl
theorem cons_ok {e : M D} {r : M (List D)} {x : D} {xs : List D} {ρ ρ1 ρ2 : Env} (h1 : e ρ = .ok x ρ1) (h2 : r ρ1 = .ok xs ρ2) : aCons e r ρ = .ok (x :: xs) ρ2 := by
  unfold aCons
  rw [bind_ok h1, bind_ok h2]
  rfl
theorem call_ok {g : List D → Option D} {a : M (List D)} {xs : List D} {z : D} {ρ ρ1 : Env} (h1 : a ρ = .ok xs ρ1) (h : g xs = some z) : eCall g a ρ = .ok z ρ1 := by
  unfold eCall
  rw [bind_ok h1, h]
  rfl
theorem seq_inv {s t : S} {ρ ρ' : Env} (h : sSeq s t ρ = .ok .nx ρ') : ∃ ρ1, s ρ = .ok .nx ρ1 ∧ t ρ1 = .ok .nx ρ' := by
  unfold sSeq M.bind at h
  revert h
  cases s ρ with
  | ok k ρ1 =>
    cases k with
    | nx => exact fun h => ⟨ρ1, rfl, h⟩
    | _ => exact fun h => by cases h
  | ex e ρ1 => exact fun h => by cases h
  | bad => exact fun h => by cases h
theorem stream_ok {ns : List Int} {i : Int} (hl : ns.length ≤ 63) (h0 : 0 ≤ i) (h1 : i < 64) : ∃ l, f_law_stream [.d (.scr ns), .d (.int i)] = .ok (.n l) [.d (.scr ns), .d (.int i)] ∧ Stm (.o l) 0 := by
  -- behind the first rows
  obtain ⟨cell, hcell⟩ : ∃ cell : Int, sSeq (sAsg (nmD 2) (eOp addD (eOp mulD (eCon (.int 7)) (eVar 1)) (eCon (.int 3)))) (sIf (tTru isBl (eOp ltD (eVar 1) (eCall lenD (aCons (eVar 0) aNil)))) (sAsg (nmD 2) (eOp ixD (eVar 0) (eVar 1))) sNext) [.d (.scr ns), .d (.int i), .u, .u, .u] = .ok .nx [.d (.scr ns), .d (.int i), .d (.int cell), .u, .u] := by
    have a1 : sAsg (nmD 2) (eOp addD (eOp mulD (eCon (.int 7)) (eVar 1)) (eCon (.int 3))) [.d (.scr ns), .d (.int i), .u, .u, .u] = .ok .nx [.d (.scr ns), .d (.int i), .d (.int (7 * i + 3)), .u, .u] :=
      asg_ok (op_ok (x := .int (7 * i)) (y := .int 3) (op_ok (x := .int 7) (y := .int i) rfl rfl (mul_ok (by decide) (by omega))) rfl rfl) rfl
    have a2 : tTru isBl (eOp ltD (eVar 1) (eCall lenD (aCons (eVar 0) aNil))) [.d (.scr ns), .d (.int i), .d (.int (7 * i + 3)), .u, .u] = .ok (decide (i < ns.length)) [.d (.scr ns), .d (.int i), .d (.int (7 * i + 3)), .u, .u] := rfl
    by_cases hi : i < ns.length
    · obtain ⟨v, hv⟩ := at_scr h0 hi
      refine ⟨v, (seq_nx a1).trans ?_⟩
      rw [decide_eq_true hi] at a2
      refine (if_yes a2).trans ?_
      exact asg_ok (op_ok (x := .scr ns) (y := .int i) rfl rfl hv) rfl
    · refine ⟨7 * i + 3, (seq_nx a1).trans ?_⟩
      rw [decide_eq_false hi] at a2
      exact (if_no a2).trans rfl
  -- great
  obtain ⟨great, hg, hgr⟩ : ∃ great : Int, 0 ≤ great ∧ sAsg (nmD 3) (eOp modD (eCall absD (aCons (eVar 2) aNil)) (eOp powD (eOp powD (eCon (.int 10)) (eCon (.int 60))) (eCon (.int 12)))) [.d (.scr ns), .d (.int i), .d (.int cell), .u, .u] = .ok .nx [.d (.scr ns), .d (.int i), .d (.int cell), .d (.int great), .u] := by
    refine ⟨(if cell < 0 then -cell else cell) % PP, Int.emod_nonneg _ (Int.ne_of_gt PPpos), ?_⟩
    exact asg_ok (op_ok (x := .int (if cell < 0 then -cell else cell)) (y := .int PP) rfl (op_ok (x := .int P60) (y := .int 12) (op_ok (x := .int 10) (y := .int 60) rfl rfl pow1) rfl pow2) (mod_ok PPpos)) rfl
  -- mixed
  obtain ⟨b, hb0, hb1, hbr⟩ : ∃ b : Int, 0 ≤ b ∧ b < 2147483647 ∧ sAsg (nmD 4) (eOp modD (eOp addD (eOp addD (eOp addD (eOp mulD (eOp modD (eVar 3) (eCon (.int 2147483629))) (eCon (.int 48271))) (eOp mulD (eCon (.int 977)) (eVar 1))) (eOp mulD (eCon (.int 2)) (eCall intD (aCons (eOp ltD (eVar 2) (eCon (.int 0))) aNil)))) (eCon (.int 11))) (eCon (.int 2147483647))) [.d (.scr ns), .d (.int i), .d (.int cell), .d (.int great), .u] = .ok .nx [.d (.scr ns), .d (.int i), .d (.int cell), .d (.int great), .d (.int b)] := by
    have k1 : great % 2147483629 < 2147483629 := Int.emod_lt_of_pos _ (by decide)
    have k2 : 0 ≤ great % 2147483629 := Int.emod_nonneg _ (by decide)
    obtain ⟨u, hu, hu1, hu2⟩ : ∃ u : Int, eCall intD (aCons (eOp ltD (eVar 2) (eCon (.int 0))) aNil) [.d (.scr ns), .d (.int i), .d (.int cell), .d (.int great), .u] = .ok (.int u) [.d (.scr ns), .d (.int i), .d (.int cell), .d (.int great), .u] ∧ 0 ≤ u ∧ u ≤ 1 := by
      refine ⟨if decide (cell < 0) = true then 1 else 0, ?_, ?_, ?_⟩
      · refine call_ok (xs := [.bl (decide (cell < 0))]) rfl ?_
        cases decide (cell < 0) <;> rfl
      · split <;> omega
      · split <;> omega
    refine ⟨(great % 2147483629 * 48271 + 977 * i + 2 * u + 11) % 2147483647, Int.emod_nonneg _ (by decide), Int.emod_lt_of_pos _ (by decide), ?_⟩
    exact asg_ok (op_ok (x := .int (great % 2147483629 * 48271 + 977 * i + 2 * u + 11)) (y := .int 2147483647)
      (op_ok (x := .int (great % 2147483629 * 48271 + 977 * i + 2 * u)) (y := .int 11) (op_ok (x := .int (great % 2147483629 * 48271 + 977 * i)) (y := .int (2 * u)) (op_ok (x := .int (great % 2147483629 * 48271)) (y := .int (977 * i)) (op_ok (x := .int (great % 2147483629)) (y := .int 48271) (op_ok (x := .int great) (y := .int 2147483629) rfl rfl (mod_ok (by decide))) rfl (mul_ok (by omega) (by decide))) (op_ok (x := .int 977) (y := .int i) rfl rfl (mul_ok (by decide) (by omega))) rfl)
        (op_ok (x := .int 2) (y := .int u) rfl hu (mul_ok (by decide) (by omega))) rfl) rfl rfl) rfl (mod_ok (by decide))) rfl
  obtain ⟨a, ha, har⟩ : ∃ a : Int, 0 ≤ a ∧ sRetN (eNew (aCons (eCall max2D (aCons (eCon (.int 0)) (aCons (eOp subD (eVar 3) (eOp powD (eCon (.int 10)) (eCon (.int 18)))) aNil))) (aCons (eVar 4) (aCons (eCon (.int 0)) aNil)))) [.d (.scr ns), .d (.int i), .d (.int cell), .d (.int great), .d (.int b)] = .ok (.rn [.int a, .int b, .int 0]) [.d (.scr ns), .d (.int i), .d (.int cell), .d (.int great), .d (.int b)] := by
    refine ⟨if great - 1000000000000000000 > 0 then great - 1000000000000000000 else 0, by split <;> omega, ?_⟩
    have l1 : aCons (eCall max2D (aCons (eCon (.int 0)) (aCons (eOp subD (eVar 3) (eOp powD (eCon (.int 10)) (eCon (.int 18)))) aNil))) (aCons (eVar 4) (aCons (eCon (.int 0)) aNil)) [.d (.scr ns), .d (.int i), .d (.int cell), .d (.int great), .d (.int b)] = .ok [.int (if great - 1000000000000000000 > 0 then great - 1000000000000000000 else 0), .int b, .int 0] [.d (.scr ns), .d (.int i), .d (.int cell), .d (.int great), .d (.int b)] :=
      cons_ok (call_ok (xs := [.int 0, .int (great - 1000000000000000000)]) (cons_ok rfl (cons_ok (op_ok (x := .int great) (y := .int 1000000000000000000) rfl (op_ok (x := .int 10) (y := .int 18) rfl rfl pow3) rfl) rfl)) rfl) rfl
    unfold sRetN eNew
    rw [bind_ok (ρ' := [.d (.scr ns), .d (.int i), .d (.int cell), .d (.int great), .d (.int b)]) (a := [.int (if great - 1000000000000000000 > 0 then great - 1000000000000000000 else 0), .int b, .int 0]) (by rw [bind_ok l1]; rfl)]
    rfl
  refine ⟨[.int a, .int b, .int 0], ?_, ⟨_, _, _, rfl, ha, hb0, hb1, by decide, by decide⟩⟩
  have all : m_law_stream [.d (.scr ns), .d (.int i), .u, .u, .u] = .ok (.rn [.int a, .int b, .int 0]) [.d (.scr ns), .d (.int i), .d (.int cell), .d (.int great), .d (.int b)] := by
    unfold m_law_stream
    obtain ⟨ρ1, q1, q2⟩ := seq_inv hcell
    refine (seq_nx q1).trans ((seq_nx q2).trans ?_)
    refine (seq_nx hgr).trans ((seq_nx hbr).trans har)
  unfold f_law_stream runBody
  rw [if_pos (show [Slot.d (.scr ns), .d (.int i)].length = 2 from rfl)]
  show (match m_law_stream [.d (.scr ns), .d (.int i), .u, .u, .u] with
      | .ok .nx ρ => if keepOk [.d (.scr ns), .d (.int i)] ρ = true then Rs.ok (An.v .non) (ρ.take 2) else .bad
      | .ok (.rt d) ρ => if keepOk [.d (.scr ns), .d (.int i)] ρ = true then .ok (.v d) (ρ.take 2) else .bad
      | .ok (.rn ds) ρ => if keepOk [.d (.scr ns), .d (.int i)] ρ = true then .ok (.n ds) (ρ.take 2) else .bad
      | .ex e ρ => if keepOk [.d (.scr ns), .d (.int i)] ρ = true then .ex e (ρ.take 2) else .bad
      | _ => .bad) = _
  rw [all]
  rfl
end Pl
namespace Pl
open PySem PySem.Spec PyProof.Rows L2
theorem Stm.own {x : Slot} {n : Nat} (h : Stm x n) : x.own = true := by
  obtain ⟨a, b, c, rfl, _⟩ := h.ex
  rfl
/-- a call that takes a list of the frame's own and one datum -/
theorem call_own1 {m : FnM} {i : Nat} {e : M D} {ρ : Env} {x y : Slot} {t r : D} (hx : ρ[i]? = some x) (ho : x.own = true) (he : e ρ = .ok t ρ) (h : m [x, .d t] = .ok (.v r) [y, .d t]) : callM m (aoOwn i (aoCons e aoNil)) ρ = .ok r (ρ.set i y) := by
  have h1 : aoCons e aoNil ρ = .ok [.d t] ρ := by
    unfold aoCons
    rw [bind_ok he]
    rfl
  have h2 : aoOwn i (aoCons e aoNil) ρ = .ok [.o i, .d t] ρ := by
    unfold aoOwn
    rw [if_pos (by unfold isOwn; rw [hx]; exact ho), bind_ok h1]
    rfl
  have h3 : slotsOf ρ [.o i, .d t] = some [x, .d t] := by
    unfold slotsOf
    rw [hx]
    show (if x.own = true then _ else _) = _
    rw [if_pos ho]
    rfl
  unfold callM
  rw [bind_ok h2]
  show (match slotsOf ρ [.o i, .d t] with
    | none => Rs.bad
    | some ps => if free2 (ownIx [.o i, .d t]) = true then match m ps with
      | .ok (.v d) outs => .ok d (putBack ρ [.o i, .d t] outs)
      | .ok (.n ds) outs => .ok (.lst ds) (putBack ρ [.o i, .d t] outs)
      | .ex e outs => .ex e (putBack ρ [.o i, .d t] outs)
      | .bad => .bad
      else .bad) = _
  rw [h3]
  dsimp only
  rw [if_pos (show free2 (ownIx [.o i, .d t]) = true from rfl), h]
  rfl
theorem call_own0 {m : FnM} {i : Nat} {ρ : Env} {x y : Slot} {r : D} (hx : ρ[i]? = some x) (ho : x.own = true) (h : m [x] = .ok (.v r) [y]) : callM m (aoOwn i aoNil) ρ = .ok r (ρ.set i y) := by
  have h2 : aoOwn i aoNil ρ = .ok [.o i] ρ := by
    unfold aoOwn
    rw [if_pos (by unfold isOwn; rw [hx]; exact ho)]
    rfl
  have h3 : slotsOf ρ [.o i] = some [x] := by
    unfold slotsOf
    rw [hx]
    show (if x.own = true then _ else _) = _
    rw [if_pos ho]
    rfl
  unfold callM
  rw [bind_ok h2]
  show (match slotsOf ρ [.o i] with
    | none => Rs.bad
    | some ps => if free2 (ownIx [.o i]) = true then match m ps with
      | .ok (.v d) outs => .ok d (putBack ρ [.o i] outs)
      | .ok (.n ds) outs => .ok (.lst ds) (putBack ρ [.o i] outs)
      | .ex e outs => .ex e (putBack ρ [.o i] outs)
      | .bad => .bad
      else .bad) = _
  rw [h3]
  dsimp only
  rw [if_pos (show free2 (ownIx [.o i]) = true from rfl), h]
  rfl
theorem at_grades {r : Int} (h0 : 0 ≤ r) (h1 : r < 5) : ∃ i : Fin 5, ixD (.tup tab_GRADES) (.int r) = some (G i) := by
  have e : r = 0 ∨ r = 1 ∨ r = 2 ∨ r = 3 ∨ r = 4 := by omega
  rcases e with rfl | rfl | rfl | rfl | rfl
  · exact ⟨0, rfl⟩
  · exact ⟨1, rfl⟩
  · exact ⟨2, rfl⟩
  · exact ⟨3, rfl⟩
  · exact ⟨4, rfl⟩
/-- GRADES[_law_draw(stream, 5)] -/
theorem pick_grade {i : Nat} {ρ : Env} {x : Slot} {n : Nat} (hx : ρ[i]? = some x) (hs : Stm x n) (hn : n ≤ 1000000) : ∃ (g : Fin 5) (y : Slot), eOp ixD (eCon (.tup tab_GRADES)) (callM f_law_draw (aoOwn i (aoCons (eCon (.int 5)) aoNil))) ρ = .ok (G g) (ρ.set i y) ∧ Stm y (n + 1) := by
  obtain ⟨r, y, h, r0, r1, hy⟩ := draw_ok (t := 5) hs hn (by decide) (by decide)
  obtain ⟨g, hg⟩ := at_grades r0 r1
  exact ⟨g, y, op_ok (x := .tup tab_GRADES) (y := .int r) rfl (call_own1 hx hs.own rfl h) hg, hy⟩
/-! values of other kinds -/
def lamT (m : M D) (odd : D) (g : Fin 5) : Bool := match gm_law_refused (lamAn (m [.u, .d odd, .d (G g), .u])) with
  | .ok (.v (.bl true)) _ => true
  | _ => false
def l1 : M D := callM f_choice (aoCons (eVar 1) aoNil)
def l2 : M D := callM f_sequence (aoCons (eVar 1) aoNil)
def l3 : M D := callM f_choice (aoCons (eVar 2) (aoCons (eVar 1) aoNil))
def l4 : M D := callM f_sequence (aoCons (eCon (.str (Str.ofString "none"))) (aoCons (eVar 2) (aoCons (eVar 1) aoNil)))
def l5 : M D := callM f_choice (aoCons (eVar 1) (aoCons (eCon .non) (aoCons (eVar 2) aoNil)))
def chk (odd : D) (g : Fin 5) : Bool := lamT l1 odd g && lamT l2 odd g && lamT l3 odd g && lamT l4 odd g && lamT l5 odd g
theorem lam_ok {m : M D} {odd : D} {g : Fin 5} {l : List D} {s : Slot} (hs : s = .u ∨ ∃ ds, s = .o ds) (h : lamT m odd g = true) : eLam gm_law_refused m [.o l, .d odd, .d (G g), s] = .ok (.bl true) [.o l, .d odd, .d (G g), s] := by
  have er : ro [.o l, .d odd, .d (G g), s] = [.u, .d odd, .d (G g), .u] := by
    rcases hs with rfl | ⟨ds, rfl⟩ <;> rfl
  unfold eLam
  rw [er]
  unfold lamT at h
  revert h
  cases gm_law_refused (lamAn (m [.u, .d odd, .d (G g), .u])) with
  | ok a outs =>
    cases a with
    | v d =>
      cases d with
      | bl b => cases b with
        | true => exact fun _ => rfl
        | false => exact fun h => by cases h
      | _ => exact fun h => by cases h
    | n _ => exact fun h => by cases h
  | ex e outs => exact fun h => by cases h
  | bad => exact fun h => by cases h
theorem app_ok {e : M D} {l : List D} {odd gr : D} {ds : List D} (hd : ds.length < 100000) (h : e [.o l, .d odd, .d gr, .o ds] = .ok (.bl true) [.o l, .d odd, .d gr, .o ds]) : sAppL 3 e [.o l, .d odd, .d gr, .o ds] = .ok .nx [.o l, .d odd, .d gr, .o (ds ++ [.bl true])] := by
  unfold sAppL
  rw [if_pos (show isLs [.o l, .d odd, .d gr, .o ds] 3 = true from rfl), bind_ok h]
  show (if ds.length < 100000 then _ else _) = _
  rw [if_pos hd]
  rfl
theorem odd_ok {x : Slot} {n : Nat} {odd : D} (hs : Stm x n) (hn : n ≤ 1000000) (hc : ∀ g, chk odd g = true) : ∃ y, f_law_odd_right [x, .d odd] = .ok (.v (.bl true)) [y, .d odd] ∧ Stm y (n + 1) := by
  obtain ⟨g, y, hp, hy⟩ := pick_grade (i := 0) (ρ := [x, .d odd, .u, .u]) rfl hs hn
  have hp : eOp ixD (eCon (.tup tab_GRADES)) (callM f_law_draw (aoOwn 0 (aoCons (eCon (.int 5)) aoNil))) [x, .d odd, .u, .u] = .ok (G g) [y, .d odd, .u, .u] := hp
  obtain ⟨a, b, c, rfl, ha⟩ := hs.ex
  obtain ⟨a', b', c', rfl, ha'⟩ := hy.ex
  have k := hc g
  unfold chk at k
  simp only [Bool.and_eq_true] at k
  obtain ⟨⟨⟨⟨k1, k2⟩, k3⟩, k4⟩, k5⟩ := k
  refine ⟨_, ?_, hy⟩
  have all : m_law_odd_right [.o [.int a, .int b, .int c], .d odd, .u, .u] = .ok (.rt (.bl true)) [.o [.int a', .int b', .int c'], .d odd, .d (G g), .d (.lst [.bl true, .bl true, .bl true, .bl true, .bl true])] := by
    unfold m_law_odd_right
    refine (seq_nx (ρ' := [.o [.int a', .int b', .int c'], .d odd, .d (G g), .u]) ?_).trans ?_
    · exact asg_ok hp rfl
    refine (seq_nx (ρ' := [.o [.int a', .int b', .int c'], .d odd, .d (G g), .o [.bl true]]) ?_).trans ?_
    · have h1 := lam_ok (l := [.int a', .int b', .int c']) (s := .u) (.inl rfl) k1
      have h2 : eNew (aCons (eLam gm_law_refused l1) aNil) [.o [.int a', .int b', .int c'], .d odd, .d (G g), .u] = .ok [.bl true] [.o [.int a', .int b', .int c'], .d odd, .d (G g), .u] := by
        have h12 : aCons (eLam gm_law_refused l1) aNil [.o [.int a', .int b', .int c'], .d odd, .d (G g), .u] = .ok [.bl true] [.o [.int a', .int b', .int c'], .d odd, .d (G g), .u] := cons_ok h1 rfl
        unfold eNew
        rw [bind_ok h12]
        rfl
      show sNew 3 (eNew (aCons (eLam gm_law_refused l1) aNil)) _ = _
      unfold sNew
      rw [bind_ok h2]
      rfl
    refine (seq_nx (ρ' := [.o [.int a', .int b', .int c'], .d odd, .d (G g), .o [.bl true, .bl true]]) (app_ok (by decide) (lam_ok (.inr ⟨_, rfl⟩) k2))).trans ?_
    refine (seq_nx (ρ' := [.o [.int a', .int b', .int c'], .d odd, .d (G g), .o [.bl true, .bl true, .bl true]]) (app_ok (by decide) (lam_ok (.inr ⟨_, rfl⟩) k3))).trans ?_
    refine (seq_nx (ρ' := [.o [.int a', .int b', .int c'], .d odd, .d (G g), .o [.bl true, .bl true, .bl true, .bl true]]) (app_ok (by decide) (lam_ok (.inr ⟨_, rfl⟩) k4))).trans ?_
    refine (seq_nx (ρ' := [.o [.int a', .int b', .int c'], .d odd, .d (G g), .o [.bl true, .bl true, .bl true, .bl true, .bl true]]) (app_ok (by decide) (lam_ok (.inr ⟨_, rfl⟩) k5))).trans ?_
    rfl
  unfold f_law_odd_right runBody
  rw [if_pos (show [Slot.o [.int a, .int b, .int c], .d odd].length = 2 from rfl)]
  show (match m_law_odd_right [.o [.int a, .int b, .int c], .d odd, .u, .u] with
      | .ok .nx ρ => if keepOk [.o [.int a, .int b, .int c], .d odd] ρ = true then Rs.ok (An.v .non) (ρ.take 2) else .bad
      | .ok (.rt d) ρ => if keepOk [.o [.int a, .int b, .int c], .d odd] ρ = true then .ok (.v d) (ρ.take 2) else .bad
      | .ok (.rn ds) ρ => if keepOk [.o [.int a, .int b, .int c], .d odd] ρ = true then .ok (.n ds) (ρ.take 2) else .bad
      | .ex e ρ => if keepOk [.o [.int a, .int b, .int c], .d odd] ρ = true then .ex e (ρ.take 2) else .bad
      | _ => .bad) = _
  rw [all]
  rfl
def L12 : List D := [.non, .int 0, .bl true, .str (Str.ofString ""), .str (Str.ofString "Free"), .str (Str.ofString "nothing"), .str (Str.ofString "free "), .tup [.str (Str.ofString "free")], .lst [.str (Str.ofString "free")], .dct [] [], .tup tab_GRADES, .int 1000000000000000000000000000000000000000]
def L19 : List D := [.non, .bl true, .int (-1), .int 0, .int 1, .str (Str.ofString ""), .str (Str.ofString "a"), .str (Str.ofString "ab"), .tup [], .lst [], .dct [] [], .tup [.int 0], .tup [.str (Str.ofString "a")], .int 1000000000000000000000000000000000000000, .str (Str.ofString "never"), .tup [.non], .tup [.tup []], .lst [.tup []], .dct [.inl 0] [.int 1]]
def isStr : D → Bool
  | .str _ => true
  | _ => false
theorem c12 : (L12.all fun d => [0, 1, 2, 3, 4].all fun g => chk d g) = true := by decide +kernel
theorem c19 : (L19.all fun d => isStr d || [0, 1, 2, 3, 4].all fun g => chk d g) = true := by decide +kernel
end Pl
namespace Pl
open PySem PySem.Spec PyProof.Rows L2
theorem pick_list {L : List D} {r : Int} (h0 : 0 ≤ r) (h1 : r < L.length) : ∃ d, ixD (.lst L) (.int r) = some d ∧ d ∈ L := by
  have hn : r.toNat < L.length := by omega
  refine ⟨L[r.toNat], ?_, List.getElem_mem hn⟩
  show atI L r = _
  unfold atI ixN
  rw [if_pos h0, if_pos h1]
  show L[r.toNat]? = _
  exact List.getElem?_eq_getElem hn
theorem pick_at {L : List D} {i j : Nat} {ρ : Env} {x : Slot} {n : Nat} (hx : ρ[i]? = some x) (hs : Stm x n) (hn : n ≤ 1000000) (hL : eVar j ρ = .ok (.lst L) ρ) (h1 : 0 < L.length) (h2 : L.length < 1000) :
    ∃ (d : D) (y : Slot), eOp ixD (eVar j) (callM f_law_draw (aoOwn i (aoCons (eCall lenD (aCons (eVar j) aNil)) aoNil))) ρ = .ok d (ρ.set i y) ∧ d ∈ L ∧ Stm y (n + 1) := by
  obtain ⟨r, y, h, r0, r1, hy⟩ := draw_ok (t := (L.length : Int)) hs hn (by omega) (by omega)
  obtain ⟨d, hd, hm⟩ := pick_list r0 r1
  have hl : eCall lenD (aCons (eVar j) aNil) ρ = .ok (.int L.length) ρ := call_ok (cons_ok hL rfl) rfl
  exact ⟨d, y, op_ok (x := .lst L) (y := .int r) hL (call_own1 hx hs.own hl h) hd, hm, hy⟩
def o1 : S := sAsg (nmD 1) (eLst (aCons (eCon .non) (aCons (eCon (.bl true)) (aCons (eUn negD (eCon (.int 1))) (aCons (eCon (.int 0)) (aCons (eCon (.int 1)) (aCons (eCon (.str (Str.ofString ""))) (aCons (eCon (.str (Str.ofString "a"))) (aCons (eCon (.str (Str.ofString "ab"))) (aCons (eTup aNil) (aCons (eLst aNil) (aCons (eDct []) (aCons (eTup (aCons (eCon (.int 0)) aNil)) (aCons (eTup (aCons (eCon (.str (Str.ofString "a"))) aNil)) (aCons (eOp powD (eCon (.int 10)) (eCon (.int 39))) aNil)))))))))))))))
def o2 : S := sAsg (nmD 1) (eOp addD (eVar 1) (eLst (aCons (eCon (.str (Str.ofString "never"))) (aCons (eTup (aCons (eCon .non) aNil)) (aCons (eTup (aCons (eTup aNil) aNil)) (aCons (eLst (aCons (eTup aNil) aNil)) (aCons (eDct [(.inl 0, .int (1))]) aNil)))))))
theorem o_ok (x : Slot) : sSeq o1 o2 [x, .u] = .ok .nx [x, .d (.lst L19)] := by kernel_rfl
theorem other_ok {x : Slot} {n : Nat} (hs : Stm x n) (hn : n ≤ 1000000) : ∃ d y, f_law_other [x] = .ok (.v d) [y] ∧ d ∈ L19 ∧ Stm y (n + 1) := by
  obtain ⟨d, y, hp, hm, hy⟩ := pick_at (L := L19) (i := 0) (j := 1) (ρ := [x, .d (.lst L19)]) rfl hs hn rfl (by decide) (by decide)
  obtain ⟨ρ1, q1, q2⟩ := seq_inv (o_ok x)
  have all : m_law_other [x, .u] = .ok (.rt d) [y, .d (.lst L19)] := (seq_nx q1).trans ((seq_nx q2).trans (ret_ok hp))
  obtain ⟨a, b, c, rfl, _⟩ := hs.ex
  obtain ⟨a', b', c', rfl, _⟩ := hy.ex
  refine ⟨d, _, ?_, hm, hy⟩
  unfold f_law_other runBody
  rw [if_pos (show [Slot.o [.int a, .int b, .int c]].length = 1 from rfl)]
  show (match m_law_other [.o [.int a, .int b, .int c], .u] with
      | .ok .nx ρ => if keepOk [.o [.int a, .int b, .int c]] ρ = true then Rs.ok (An.v .non) (ρ.take 1) else .bad
      | .ok (.rt d) ρ => if keepOk [.o [.int a, .int b, .int c]] ρ = true then .ok (.v d) (ρ.take 1) else .bad
      | .ok (.rn ds) ρ => if keepOk [.o [.int a, .int b, .int c]] ρ = true then .ok (.n ds) (ρ.take 1) else .bad
      | .ex e ρ => if keepOk [.o [.int a, .int b, .int c]] ρ = true then .ex e (ρ.take 1) else .bad
      | _ => .bad) = _
  rw [all]
  rfl
/-! ## the law -/
def te : M D := eOp ixD (eCon (.tup tab_GRADES)) (callM f_law_draw (aoOwn 2 (aoCons (eCon (.int 5)) aoNil)))
/-- so many grades drawn -/
theorem draws_ok (s0 s1 s3 s5 s6 : Slot) : ∀ (l : List D) (x : Slot) (n : Nat) (s4 : Slot), Stm x n → n + l.length ≤ 1000000 → ∃ (gs : List (Fin 5)) (y s4' : Slot), lcL (nmD 4) (M.pure true) te [4] l [s0, s1, x, s3, s4, s5, s6] = .ok (gs.map G) [s0, s1, y, s3, s4', s5, s6] ∧ gs.length = l.length ∧ Stm y (n + l.length)
  | [], x, n, s4, hs, _ => ⟨[], x, s4, rfl, rfl, hs⟩
  | v :: r, x, n, s4, hs, hn => by
    rw [List.length_cons] at hn
    obtain ⟨g, y, hp, hy⟩ := pick_grade (i := 2) (ρ := [s0, s1, x, s3, .d v, s5, s6]) rfl hs (by omega)
    obtain ⟨gs, z, s4', h, hl, hz⟩ := draws_ok s0 s1 s3 s5 s6 r y (n + 1) (.d v) hy (by omega)
    refine ⟨g :: gs, z, s4', ?_, by rw [List.length_cons, List.length_cons, hl], by rw [List.length_cons, show n + (r.length + 1) = n + 1 + r.length from by omega]; exact hz⟩
    have hp : te [s0, s1, x, s3, .d v, s5, s6] = .ok (G g) [s0, s1, y, s3, .d v, s5, s6] := hp
    show (match te [s0, s1, x, s3, .d v, s5, s6] with
        | .ok d ρ3 => match lcL (nmD 4) (M.pure true) te [4] r ρ3 with
          | .ok ds ρ4 => Rs.ok (d :: ds) ρ4
          | _ => .bad
        | _ => .bad) = _
    rw [hp]
    dsimp only
    rw [h]
    rfl
/-- the row of the inner loop -/
def inner : S := sIf (tNotB (tTru isBl (callM f_law_right (aoCons (eFr (eLc (itBs rng1D (aCons (eOp ixD (eLst (aCons (eCon (.int 5)) (aCons (eCon (.int 7)) aNil))) (eVar 3)) aNil)) (nmD 4) (M.pure true) te [4])) aoNil)))) (sRet (eCon (.bl false))) sNext
theorem right_any {gs : List (Fin 5)} (h : gs.length = 5 ∨ gs.length = 7) : Ret (f_law_right [.d (.lst (gs.map G))]) (.bl true) := by
  rcases h with h | h
  · match gs, h with
    | [a, b, c, d, e], _ => exact right5 a b c d e
  · match gs, h with
    | [a, b, c, d, e, f, g], _ => exact right7 a b c d e f g
theorem inner_ok (s0 s1 s5 s6 : Slot) {x : Slot} {n : Nat} {l : List D} {t : Int} (hs : Stm x n) (hn : n + l.length ≤ 1000000) (hr : itBs rng1D (aCons (eOp ixD (eLst (aCons (eCon (.int 5)) (aCons (eCon (.int 7)) aNil))) (eVar 3)) aNil) [s0, s1, x, .d (.int t), .u, s5, s6] = .ok l [s0, s1, x, .d (.int t), .u, s5, s6]) (hl : l.length = 5 ∨ l.length = 7) :
    ∃ y, inner [s0, s1, x, .d (.int t), .u, s5, s6] = .ok .nx [s0, s1, y, .d (.int t), .u, s5, s6] ∧ Stm y (n + l.length) := by
  obtain ⟨gs, y, s4', h, hg, hy⟩ := draws_ok s0 s1 (.d (.int t)) s5 s6 l x n .u hs hn
  refine ⟨y, ?_, hy⟩
  have e1 : eLc (itBs rng1D (aCons (eOp ixD (eLst (aCons (eCon (.int 5)) (aCons (eCon (.int 7)) aNil))) (eVar 3)) aNil)) (nmD 4) (M.pure true) te [4] [s0, s1, x, .d (.int t), .u, s5, s6] = .ok (gs.map G) [s0, s1, y, .d (.int t), .u, s5, s6] := by
    unfold eLc
    rw [bind_ok hr]
    show (match lcL (nmD 4) (M.pure true) te [4] l [s0, s1, x, .d (.int t), .u, s5, s6] with
      | .ok ds ρ' => if ds.length ≤ 100000 then Rs.ok ds (restE [s0, s1, x, .d (.int t), .u, s5, s6] ρ' [4]) else .bad
      | _ => .bad) = _
    rw [h]
    show (if (gs.map G).length ≤ 100000 then _ else _) = _
    rw [if_pos (by rw [List.length_map, hg]; omega)]
    rfl
  have e2 : eFr (eLc (itBs rng1D (aCons (eOp ixD (eLst (aCons (eCon (.int 5)) (aCons (eCon (.int 7)) aNil))) (eVar 3)) aNil)) (nmD 4) (M.pure true) te [4]) [s0, s1, x, .d (.int t), .u, s5, s6] = .ok (.lst (gs.map G)) [s0, s1, y, .d (.int t), .u, s5, s6] := by
    unfold eFr
    rw [bind_ok e1]
    rfl
  have e3 : aoCons (eFr (eLc (itBs rng1D (aCons (eOp ixD (eLst (aCons (eCon (.int 5)) (aCons (eCon (.int 7)) aNil))) (eVar 3)) aNil)) (nmD 4) (M.pure true) te [4])) aoNil [s0, s1, x, .d (.int t), .u, s5, s6] = .ok [.d (.lst (gs.map G))] [s0, s1, y, .d (.int t), .u, s5, s6] := by
    unfold aoCons
    rw [bind_ok e2]
    rfl
  have e4 := call_ret (m := f_law_right) e3 (ps := [.d (.lst (gs.map G))]) rfl rfl (right_any (by rw [hg]; exact hl))
  have e5 : tNotB (tTru isBl (callM f_law_right (aoCons (eFr (eLc (itBs rng1D (aCons (eOp ixD (eLst (aCons (eCon (.int 5)) (aCons (eCon (.int 7)) aNil))) (eVar 3)) aNil)) (nmD 4) (M.pure true) te [4])) aoNil))) [s0, s1, x, .d (.int t), .u, s5, s6] = .ok false [s0, s1, y, .d (.int t), .u, s5, s6] := by
    unfold tNotB
    rw [bind_ok (tru_ok e4)]
    rfl
  exact (if_no e5).trans rfl
end Pl
namespace Pl
open PySem PySem.Spec PyProof.Rows L2
theorem call_own2 {m : FnM} {i : Nat} {e : M D} {ρ ρ' : Env} {x x' y : Slot} {t r : D} (hx : ρ[i]? = some x) (ho : x.own = true) (he : e ρ = .ok t ρ') (hx' : ρ'[i]? = some x') (ho' : x'.own = true) (h : m [x', .d t] = .ok (.v r) [y, .d t]) : callM m (aoOwn i (aoCons e aoNil)) ρ = .ok r (ρ'.set i y) := by
  have h1 : aoCons e aoNil ρ = .ok [.d t] ρ' := by
    unfold aoCons
    rw [bind_ok he]
    rfl
  have h2 : aoOwn i (aoCons e aoNil) ρ = .ok [.o i, .d t] ρ' := by
    unfold aoOwn
    rw [if_pos (by unfold isOwn; rw [hx]; exact ho), bind_ok h1]
    rfl
  have h3 : slotsOf ρ' [.o i, .d t] = some [x', .d t] := by
    unfold slotsOf
    rw [hx']
    show (if x'.own = true then _ else _) = _
    rw [if_pos ho']
    rfl
  unfold callM
  rw [bind_ok h2]
  show (match slotsOf ρ' [.o i, .d t] with
    | none => Rs.bad
    | some ps => if free2 (ownIx [.o i, .d t]) = true then match m ps with
      | .ok (.v d) outs => .ok d (putBack ρ' [.o i, .d t] outs)
      | .ok (.n ds) outs => .ok (.lst ds) (putBack ρ' [.o i, .d t] outs)
      | .ex e outs => .ex e (putBack ρ' [.o i, .d t] outs)
      | .bad => .bad
      else .bad) = _
  rw [h3]
  dsimp only
  rw [if_pos (show free2 (ownIx [.o i, .d t]) = true from rfl), h]
  rfl
theorem not_ok {t : M Bool} {b : Bool} {ρ ρ' : Env} (h : t ρ = .ok b ρ') : tNotB t ρ = .ok (!b) ρ' := by
  unfold tNotB
  rw [bind_ok h]
  rfl
def odds : M D := eLst (aCons (eCon .non) (aCons (eCon (.int 0)) (aCons (eCon (.bl true)) (aCons (eCon (.str (Str.ofString ""))) (aCons (eCon (.str (Str.ofString "Free"))) (aCons (eCon (.str (Str.ofString "nothing"))) (aCons (eCon (.str (Str.ofString "free "))) (aCons (eTup (aCons (eCon (.str (Str.ofString "free"))) aNil)) (aCons (eLst (aCons (eCon (.str (Str.ofString "free"))) aNil)) (aCons (eDct []) (aCons (eCon (.tup tab_GRADES)) (aCons (eOp powD (eCon (.int 10)) (eCon (.int 39))) aNil))))))))))))
theorem odds_ok (s0 s1 s2 s3 s4 s5 s6 : Slot) : sAsg (nmD 5) odds [s0, s1, s2, s3, s4, s5, s6] = .ok .nx [s0, s1, s2, s3, s4, .d (.lst L12), s6] := by kernel_rfl
def body : S := sSeq (sNew 2 (callN f_law_stream (aoCons (eVar 0) (aoCons (eVar 1) aoNil)))) (sSeq (sFor (itBs rng1D (aCons (eCon (.int 2)) aNil)) (nmD 3) inner) (sSeq (sAsg (nmD 5) odds)
  (sSeq (sIf (tNotB (tTru isBl (callM f_law_odd_right (aoOwn 2 (aoCons (eOp ixD (eVar 5) (callM f_law_draw (aoOwn 2 (aoCons (eCall lenD (aCons (eVar 5) aNil)) aoNil)))) aoNil))))) (sRet (eCon (.bl false))) sNext)
  (sSeq (sAsg (nmD 6) (callM f_law_other (aoOwn 2 aoNil)))
  (sIf (tAndB (tNotB (tTru isBl (eCall isiD (aCons (eVar 6) (aCons (eCon (.rf (.ty "str"))) aNil))))) (tNotB (tTru isBl (callM f_law_odd_right (aoOwn 2 (aoCons (eVar 6) aoNil)))))) (sRet (eCon (.bl false))) sNext)))))
theorem all5 {d : D} (h : ([0, 1, 2, 3, 4].all fun g => chk d g) = true) (g : Fin 5) : chk d g = true := List.all_eq_true.mp h g (by
  match g with
  | 0 => decide
  | 1 => decide
  | 2 => decide
  | 3 => decide
  | 4 => decide)
theorem body_ok {ns : List Int} {i : Int} (hl : ns.length ≤ 63) (h0 : 0 ≤ i) (h1 : i < 64) (s2 s3 s5 s6 : Slot) : ∃ t2 t3 t5 t6, body [.d (.scr ns), .d (.int i), s2, s3, .u, s5, s6] = .ok .nx [.d (.scr ns), .d (.int i), t2, t3, .u, t5, t6] := by
  obtain ⟨l, hst, hs⟩ := stream_ok hl h0 h1
  have r1 : sNew 2 (callN f_law_stream (aoCons (eVar 0) (aoCons (eVar 1) aoNil))) [.d (.scr ns), .d (.int i), s2, s3, .u, s5, s6] = .ok .nx [.d (.scr ns), .d (.int i), .o l, s3, .u, s5, s6] := by
    have c1 : callN f_law_stream (aoCons (eVar 0) (aoCons (eVar 1) aoNil)) [.d (.scr ns), .d (.int i), s2, s3, .u, s5, s6] = .ok l [.d (.scr ns), .d (.int i), s2, s3, .u, s5, s6] := by
      show (match f_law_stream [.d (.scr ns), .d (.int i)] with
        | .ok (.n ds) outs => Rs.ok ds (putBack [.d (.scr ns), .d (.int i), s2, s3, .u, s5, s6] [.d (.scr ns), .d (.int i)] outs)
        | .ok (.v _) _ => .bad
        | .ex e outs => .ex e (putBack [.d (.scr ns), .d (.int i), s2, s3, .u, s5, s6] [.d (.scr ns), .d (.int i)] outs)
        | .bad => .bad) = _
      rw [hst]
      rfl
    unfold sNew
    rw [bind_ok c1]
    rfl
  obtain ⟨x1, r2, hx1⟩ := inner_ok (.d (.scr ns)) (.d (.int i)) s5 s6 (t := 0) (l := [.int 0, .int 1, .int 2, .int 3, .int 4]) hs (by decide) rfl (.inl rfl)
  obtain ⟨x2, r3, hx2⟩ := inner_ok (.d (.scr ns)) (.d (.int i)) s5 s6 (t := 1) (l := [.int 0, .int 1, .int 2, .int 3, .int 4, .int 5, .int 6]) hx1 (by decide) rfl (.inr rfl)
  have r4 : sFor (itBs rng1D (aCons (eCon (.int 2)) aNil)) (nmD 3) inner [.d (.scr ns), .d (.int i), .o l, s3, .u, s5, s6] = .ok .nx [.d (.scr ns), .d (.int i), x2, .d (.int 1), .u, s5, s6] := by
    show again (inner [.d (.scr ns), .d (.int i), .o l, .d (.int 0), .u, s5, s6]) (forL (nmD 3) inner [.int 1]) = _
    rw [r2]
    show again (inner [.d (.scr ns), .d (.int i), x1, .d (.int 1), .u, s5, s6]) (forL (nmD 3) inner []) = _
    rw [r3]
    rfl
  obtain ⟨d, x3, hp, hm, hx3⟩ := pick_at (L := L12) (i := 2) (j := 5) (ρ := [.d (.scr ns), .d (.int i), x2, .d (.int 1), .u, .d (.lst L12), s6]) rfl hx2 (by decide) rfl (by decide) (by decide)
  have hp : eOp ixD (eVar 5) (callM f_law_draw (aoOwn 2 (aoCons (eCall lenD (aCons (eVar 5) aNil)) aoNil))) [.d (.scr ns), .d (.int i), x2, .d (.int 1), .u, .d (.lst L12), s6] = .ok d [.d (.scr ns), .d (.int i), x3, .d (.int 1), .u, .d (.lst L12), s6] := hp
  obtain ⟨x4, ho, hx4⟩ := odd_ok hx3 (by decide) (all5 (List.all_eq_true.mp c12 d hm))
  have r5 := not_ok (tru_ok (call_own2 (i := 2) (x := x2) (x' := x3) rfl hx2.own hp rfl hx3.own ho))
  obtain ⟨d2, x5, hot, hm2, hx5⟩ := other_ok hx4 (by decide)
  have r6 : callM f_law_other (aoOwn 2 aoNil) [.d (.scr ns), .d (.int i), x4, .d (.int 1), .u, .d (.lst L12), s6] = .ok d2 [.d (.scr ns), .d (.int i), x5, .d (.int 1), .u, .d (.lst L12), s6] := call_own0 (i := 2) (x := x4) rfl hx4.own hot
  have fin : ∃ x6, sIf (tAndB (tNotB (tTru isBl (eCall isiD (aCons (eVar 6) (aCons (eCon (.rf (.ty "str"))) aNil))))) (tNotB (tTru isBl (callM f_law_odd_right (aoOwn 2 (aoCons (eVar 6) aoNil)))))) (sRet (eCon (.bl false))) sNext [.d (.scr ns), .d (.int i), x5, .d (.int 1), .u, .d (.lst L12), .d d2] = .ok .nx [.d (.scr ns), .d (.int i), x6, .d (.int 1), .u, .d (.lst L12), .d d2] := by
    have c := List.all_eq_true.mp c19 d2 hm2
    obtain ⟨k, hk, hk2⟩ : ∃ k, isiD [d2, .rf (.ty "str")] = some (.bl k) ∧ (k = false → ∀ g, chk d2 g = true) := by
      have kinds : ∀ e ∈ L19, isiD [e, .rf (.ty "str")] = some (.bl (isStr e)) := by
        intro e he
        simp only [L19, List.mem_cons, List.not_mem_nil, or_false] at he
        rcases he with rfl | rfl | rfl | rfl | rfl | rfl | rfl | rfl | rfl | rfl | rfl | rfl | rfl | rfl | rfl | rfl | rfl | rfl | rfl <;> rfl
      refine ⟨isStr d2, kinds d2 hm2, fun hf => ?_⟩
      rw [hf, Bool.false_or] at c
      exact all5 c
    have t1 : tNotB (tTru isBl (eCall isiD (aCons (eVar 6) (aCons (eCon (.rf (.ty "str"))) aNil)))) [.d (.scr ns), .d (.int i), x5, .d (.int 1), .u, .d (.lst L12), .d d2] = .ok (!k) [.d (.scr ns), .d (.int i), x5, .d (.int 1), .u, .d (.lst L12), .d d2] := not_ok (tru_ok (call_ok (xs := [d2, .rf (.ty "str")]) rfl hk))
    cases k with
    | true =>
      refine ⟨x5, (if_no ?_).trans rfl⟩
      unfold tAndB
      rw [bind_ok t1]
      rfl
    | false =>
      obtain ⟨x6, ho6, hx6⟩ := odd_ok hx5 (by decide) (hk2 rfl)
      have t2 := not_ok (tru_ok (call_own1 (i := 2) (e := eVar 6) (ρ := [.d (.scr ns), .d (.int i), x5, .d (.int 1), .u, .d (.lst L12), .d d2]) (x := x5) rfl hx5.own rfl ho6))
      refine ⟨x6, (if_no (ρ' := [.d (.scr ns), .d (.int i), x6, .d (.int 1), .u, .d (.lst L12), .d d2]) ?_).trans rfl⟩
      unfold tAndB
      rw [bind_ok t1]
      exact t2
  obtain ⟨x6, r7⟩ := fin
  refine ⟨x6, .d (.int 1), .d (.lst L12), .d d2, ?_⟩
  unfold body
  refine (seq_nx r1).trans ((seq_nx r4).trans ((seq_nx (odds_ok _ _ _ _ _ _ _)).trans ?_))
  refine (seq_nx (ρ' := [.d (.scr ns), .d (.int i), x4, .d (.int 1), .u, .d (.lst L12), s6]) ((if_no r5).trans rfl)).trans ?_
  refine (seq_nx (ρ' := [.d (.scr ns), .d (.int i), x5, .d (.int 1), .u, .d (.lst L12), .d d2]) ?_).trans r7
  exact asg_ok r6 rfl
theorem loop_ok {ns : List Int} (hl : ns.length ≤ 63) : ∀ (l : List Int), (∀ i ∈ l, 0 ≤ i ∧ i < 64) → ∀ s1 s2 s3 s5 s6 : Slot, ∃ t1 t2 t3 t5 t6, forL (nmD 1) body (l.map D.int) [.d (.scr ns), s1, s2, s3, .u, s5, s6] = .ok .nx [.d (.scr ns), t1, t2, t3, .u, t5, t6]
  | [], _, s1, s2, s3, s5, s6 => ⟨s1, s2, s3, s5, s6, rfl⟩
  | i :: r, h, s1, s2, s3, s5, s6 => by
    obtain ⟨a, b⟩ := h i List.mem_cons_self
    obtain ⟨t2, t3, t5, t6, hb⟩ := body_ok hl a b s2 s3 s5 s6
    obtain ⟨u1, u2, u3, u5, u6, hr⟩ := loop_ok hl r (fun j hj => h j (List.mem_cons_of_mem _ hj)) (.d (.int i)) t2 t3 t5 t6
    refine ⟨u1, u2, u3, u5, u6, ?_⟩
    show again (body [.d (.scr ns), .d (.int i), s2, s3, .u, s5, s6]) (forL (nmD 1) body (r.map D.int)) = _
    rw [hb]
    exact hr
theorem law_true (ns : List Int) (hl : ns.length ≤ 63) : ∃ outs, f_law [.d (.scr ns)] = .ok (.v (.bl true)) outs := by
  obtain ⟨m, hm0, hm1, hr⟩ : ∃ m : Nat, m ≤ 6 ∧ 0 ≤ m ∧ itBs rng1D (aCons (eCall max2D (aCons (eCon (.int 1)) (aCons (eCall min2D (aCons (eCon (.int 6)) (aCons (eCall lenD (aCons (eVar 0) aNil)) aNil))) aNil))) aNil) [.d (.scr ns), .u, .u, .u, .u, .u, .u] = .ok ((List.range m).map fun k => .int (k : Nat)) [.d (.scr ns), .u, .u, .u, .u, .u, .u] := by
    have k1 : eCall min2D (aCons (eCon (.int 6)) (aCons (eCall lenD (aCons (eVar 0) aNil)) aNil)) [.d (.scr ns), .u, .u, .u, .u, .u, .u] = .ok (.int (if (ns.length : Int) < 6 then (ns.length : Int) else 6)) [.d (.scr ns), .u, .u, .u, .u, .u, .u] := rfl
    generalize hk : (if (ns.length : Int) < 6 then (ns.length : Int) else 6) = k at k1
    have hk1 : 0 ≤ k ∧ k ≤ 6 := by
      rw [← hk]
      split <;> omega
    have k2 : eCall max2D (aCons (eCon (.int 1)) (aCons (eCall min2D (aCons (eCon (.int 6)) (aCons (eCall lenD (aCons (eVar 0) aNil)) aNil))) aNil)) [.d (.scr ns), .u, .u, .u, .u, .u, .u] = .ok (.int (if k > 1 then k else 1)) [.d (.scr ns), .u, .u, .u, .u, .u, .u] := call_ok (xs := [.int 1, .int k]) (cons_ok rfl (cons_ok k1 rfl)) rfl
    generalize hj : (if k > 1 then k else 1) = j at k2
    have hj1 : 0 ≤ j ∧ j ≤ 6 := by
      rw [← hj]
      split <;> omega
    refine ⟨j.toNat, by omega, Nat.zero_le _, ?_⟩
    have k3 : aCons (eCall max2D (aCons (eCon (.int 1)) (aCons (eCall min2D (aCons (eCon (.int 6)) (aCons (eCall lenD (aCons (eVar 0) aNil)) aNil))) aNil))) aNil [.d (.scr ns), .u, .u, .u, .u, .u, .u] = .ok [.int j] [.d (.scr ns), .u, .u, .u, .u, .u, .u] := cons_ok k2 rfl
    unfold itBs
    rw [bind_ok k3]
    show M.lift (if -(2 ^ 62) ≤ j ∧ j < 2 ^ 62 then some ((List.range j.toNat).map fun k => D.int (k : Nat)) else none) _ = _
    rw [if_pos (by omega)]
    rfl
  obtain ⟨t1, t2, t3, t5, t6, hf⟩ := loop_ok hl ((List.range m).map fun k : Nat => (k : Int)) (fun i hi => by
    obtain ⟨k, hk, rfl⟩ := List.mem_map.mp hi
    have := List.mem_range.mp hk
    omega) .u .u .u .u .u
  rw [List.map_map] at hf
  have r1 : sFor (itBs rng1D (aCons (eCall max2D (aCons (eCon (.int 1)) (aCons (eCall min2D (aCons (eCon (.int 6)) (aCons (eCall lenD (aCons (eVar 0) aNil)) aNil))) aNil))) aNil)) (nmD 1) body [.d (.scr ns), .u, .u, .u, .u, .u, .u] = .ok .nx [.d (.scr ns), t1, t2, t3, .u, t5, t6] := by
    unfold sFor
    rw [bind_ok hr]
    exact hf
  obtain ⟨outs, ha⟩ := isT_of t_all
  have r2 : callM f_law_all_right aoNil [.d (.scr ns), t1, t2, t3, .u, t5, t6] = .ok (.bl true) [.d (.scr ns), t1, t2, t3, .u, t5, t6] := call_ret (as := []) (ps := []) rfl rfl rfl ⟨outs, ha⟩
  have all : m_law [.d (.scr ns), .u, .u, .u, .u, .u, .u] = .ok (.rt (.bl true)) [.d (.scr ns), t1, t2, t3, .u, t5, t6] := (seq_nx r1).trans (ret_ok r2)
  obtain ⟨o, hb⟩ := body_ret (n := 6) (g := m_law) (x := .scr ns) all rfl
  exact ⟨o, hb⟩
end Pl
namespace Pl
open PySem PySem.Spec PyProof.Rows L2 He
variable {K : PySem.W.Frag} {w : World} {mg : Str → Option Value}
/-! ## what the top has written, by looking at it -/
theorem FnG.ok {P : Program} {base : Heap} {k : Nat} {f : Addr} {fd : FuncData} {ps : List Str} {sp : Sp} (F : FnG false P w K mg base k f fd ps sp) : FnOk P w K mg base (L2.CX P w) k f fd ps sp :=
  ⟨F.many, fun A outer s H args us vs Q E hr e0 hb r hsp => F.goes A outer s H args us vs Q E hr (fun h => by cases h) e0 hb r hsp⟩
theorem fun_of {x q : Str} {st : Stmt} {f : Addr} {fd : FuncData} (F : FunD K x q (defArgs st) (defBody st) (defScope st) [] [] f fd) : Fun K x q st f fd := by
  obtain ⟨oc, od, dV, kV, doc, pm, an, cdv, ct, osl, e, l, c, d, _⟩ := F.ex
  rcases d with ⟨_, d⟩ | ⟨d, _⟩
  · subst d
    exact ⟨⟨oc, od, kV, doc, pm, an, cdv, ct, osl, e, l, c⟩, F.kp⟩
  · exact absurd rfl d
theorem funC_of {x q : Str} {st : Stmt} {p : Str × Option Str} {fd : FuncData} (F : FunD K x q (defArgs st) (defBody st) (defScope st) [] [] (fAd K p) fd) : FunC K x q st (fAd K p) fd (.ref (codeOf K p)) := by
  obtain ⟨oc, od, dV, kV, doc, pm, an, cdv, ct, osl, e, l, c, d, _⟩ := F.ex
  rcases d with ⟨_, d⟩ | ⟨d, _⟩
  · subst d
    obtain ⟨cc, ec⟩ := codeIn_ref c
    subst ec
    have z := codeOf_eq (K := K) (p := p) l (c := cc) (by rw [e] <;> rfl)
    rw [z]
    exact ⟨oc, od, kV, doc, pm, an, ct, osl, e, l, c⟩
  · exact absurd rfl d
/-- a tuple of texts -/
def conTB (K : PySem.W.Frag) (a : Addr) (zs : List Str) : Bool := match K.lookup a with
  | some ⟨.type c, none, .seq its _, _⟩ => decide (c = "tuple") && (decide (its.size ≤ sizeLine) && relAll (zs.map V.str) its.toList)
  | _ => false
theorem repL_strs {F : Hp} : ∀ zs : List Str, RepL K F (zs.map D.str) (zs.map V.str)
  | [] => rfl
  | z :: r => .cons rfl (repL_strs r)
theorem conT_of {a : Addr} {zs : List Str} (h : conTB K a zs = true) : ConT K a (zs.map D.str) := by
  unfold conTB at h
  cases q : K.lookup a with
  | none => rw [q] at h; cases h
  | some o =>
    obtain ⟨oc, od, dt, osl⟩ := o
    rw [q] at h
    cases oc with
    | type c =>
      cases od with
      | some d => cases dt <;> cases h
      | none =>
        cases dt with
        | seq its n =>
          obtain ⟨h1, h2⟩ := ba (show (decide (c = "tuple") && (decide (its.size ≤ sizeLine) && relAll (zs.map V.str) its.toList)) = true from h)
          obtain ⟨h3, h4⟩ := ba h2
          have ec : (Value.type c) = .type "tuple" := congrArg Value.type (of_decide_eq_true h1)
          exact ⟨⟨_, q, ec, rfl⟩, fun F => ⟨a, zs.map V.str, rfl, .inr ⟨_, its, n, q, ec, rfl, of_decide_eq_true h3, relAll_ok h4⟩, repL_strs zs⟩⟩
        | _ => cases h
    | _ => cases od <;> cases dt <;> cases h
/-- a dict of texts to whole numbers -/
def keyIs (e : DictEntry) (z : Str) : Bool := match e.key with
  | .str y _ => decide (y = z)
  | _ => false
def keysAre : List DictEntry → List Str → Bool
  | [], [] => true
  | e :: r, z :: zs => keyIs e z && keysAre r zs
  | _, _ => false
def tabSB (K : PySem.W.Frag) (a : Addr) (tab : List (Str × Int)) : Bool := (match K.lookup a with
  | some ⟨_, _, .dict es _, _⟩ => keysAre es.toList (tab.map (·.1))
  | _ => false) && valsB K a (tab.map fun q => (q.1, Dv.int q.2))
def tabSI (tab : List (Str × Int)) : List (Str × D) := tab.map fun q => (q.1, D.int q.2)
theorem keys_none : ∀ {es : List DictEntry} {zs : List Str} {z : Str}, keysAre es zs = true → z ∉ zs → es.find? (fun e => e.key.isStr z) = none ∧ es.any (fun e => e.refKey) = false
  | [], [], _, _, _ => ⟨rfl, rfl⟩
  | [], _ :: _, _, h, _ => by cases h
  | _ :: _, [], _, h, _ => by cases h
  | e :: r, y :: ys, z, h, hn => by
    obtain ⟨h1, h2⟩ := ba (show (keyIs e y && keysAre r ys) = true from h)
    obtain ⟨i1, i2⟩ := keys_none h2 (z := z) fun m => hn (List.mem_cons_of_mem _ m)
    obtain ⟨t, et⟩ : ∃ t, e.key = .str y t := by
      unfold keyIs at h1
      cases q : e.key with
      | str x t => rw [q] at h1; rw [of_decide_eq_true h1]; exact ⟨t, rfl⟩
      | _ => rw [q] at h1; cases h1
    have ne : e.key.isStr z = false := by
      rw [et]
      show (y == z) = false
      exact beq_eq_false_iff_ne.mpr fun q => hn (by rw [q]; exact List.mem_cons_self)
    have rk : e.refKey = false := by
      unfold DictEntry.refKey
      rw [et]
    exact ⟨by rw [List.find?_cons, ne]; exact i1, by rw [List.any_cons, rk, i2]; rfl⟩
theorem lookup_of : ∀ {tab : List (Str × Int)} {z : Str} {d : D}, (tabSI tab).lookup z = some d → ∃ i, (z, i) ∈ tab ∧ d = .int i
  | [], _, _, h => by cases h
  | q :: r, z, d, h => by
    have h : (match z == q.1 with | true => some (D.int q.2) | false => (tabSI r).lookup z) = some d := h
    cases e : z == q.1 with
    | true =>
      rw [e] at h
      cases h
      exact ⟨q.2, by rw [eq_of_beq e]; exact List.mem_cons_self, rfl⟩
    | false =>
      rw [e] at h
      obtain ⟨i, m, ed⟩ := lookup_of (tab := r) h
      exact ⟨i, List.mem_cons_of_mem _ m, ed⟩
theorem lookup_no : ∀ {tab : List (Str × Int)} {z : Str}, (tabSI tab).lookup z = none → z ∉ tab.map (·.1)
  | [], _, _ => by simp
  | q :: r, z, h => by
    have h : (match z == q.1 with | true => some (D.int q.2) | false => (tabSI r).lookup z) = none := h
    cases e : z == q.1 with
    | true => rw [e] at h; cases h
    | false =>
      rw [e] at h
      have := lookup_no (tab := r) h
      intro m
      rw [List.map_cons] at m
      rcases List.mem_cons.mp m with m | m
      · rw [m] at e; simp at e
      · exact this m
theorem tabS_of {a : Addr} {tab : List (Str × Int)} (hd : ∃ es n, KDict K w a es n) (h : tabSB K a tab = true) : Pl.TabS K w a (tabSI tab) := by
  obtain ⟨h1, h2⟩ := ba h
  refine ⟨hd, fun z d e => ?_, fun z e => ?_⟩
  · obtain ⟨i, m, rfl⟩ := lookup_of e
    obtain ⟨u, e1, e2⟩ := valsB_ok h2 (q := (z, Dv.int i)) (List.mem_map.mpr ⟨(z, i), m, rfl⟩)
    exact ⟨u, .int i, e1, e2, fun F => rfl⟩
  · obtain ⟨es, n, D⟩ := hd
    rw [D.at_] at h1
    obtain ⟨k1, k2⟩ := keys_none h1 (lookup_no e)
    unfold PySem.W.nsIn
    rw [D.at_]
    dsimp only
    rw [k1]
    dsimp only
    rw [if_neg]
    · rw [k2]; exact Bool.false_ne_true
/-- a dict of whole numbers to texts -/
def tabIB (K : PySem.W.Frag) (a : Addr) (tab : List (Int × Str)) : Bool := match K.lookup a with
  | some ⟨.type c, none, .dict es _, sl⟩ => decide (c = "dict") && (sl.isEmpty && (es.toList.all (fun e => match e.key with
    | .int k _ => decide (e.hash = hashInt k)
    | _ => false) && tab.all fun q => match findBy Value.isInt es q.1 with
      | some (.str y _) => decide (y = q.2)
      | _ => false))
  | _ => false
def tabIS (tab : List (Int × Str)) : List (Int × D) := tab.map fun q => (q.1, D.str q.2)
theorem lookupI_of : ∀ {tab : List (Int × Str)} {z : Int} {d : D}, (tabIS tab).lookup z = some d → ∃ i, (z, i) ∈ tab ∧ d = .str i
  | [], _, _, h => by cases h
  | q :: r, z, d, h => by
    have h : (match z == q.1 with | true => some (D.str q.2) | false => (tabIS r).lookup z) = some d := h
    cases e : z == q.1 with
    | true =>
      rw [e] at h
      cases h
      exact ⟨q.2, by rw [eq_of_beq e]; exact List.mem_cons_self, rfl⟩
    | false =>
      rw [e] at h
      obtain ⟨i, m, ed⟩ := lookupI_of (tab := r) h
      exact ⟨i, List.mem_cons_of_mem _ m, ed⟩
theorem tabI_of {a : Addr} {tab : List (Int × Str)} (h : tabIB K a tab = true) : TabI K a (tabIS tab) := by
  unfold tabIB at h
  cases q : K.lookup a with
  | none => rw [q] at h; cases h
  | some o =>
    obtain ⟨oc, od, dt, osl⟩ := o
    rw [q] at h
    cases oc with
    | type c =>
      cases od with
      | some d => cases dt <;> cases h
      | none =>
        cases dt with
        | dict es n =>
          obtain ⟨h1, h⟩ := ba h
          obtain ⟨h2, h⟩ := ba h
          obtain ⟨h3, h4⟩ := ba h
          have e1 : c = "dict" := of_decide_eq_true h1
          have e2 : osl = #[] := by
            cases osl with
            | mk l => cases l with
              | nil => rfl
              | cons a b => cases h2
          subst e1 e2
          refine ⟨⟨es, n, q, fun e he => ?_, fun i d hd => ?_⟩⟩
          · have := List.all_eq_true.mp h3 e (Array.mem_toList_iff.mpr he)
            cases ek : e.key with
            | int k t => rw [ek] at this; exact ⟨k, t, rfl, of_decide_eq_true this⟩
            | _ => rw [ek] at this; cases this
          · obtain ⟨z, m, rfl⟩ := lookupI_of hd
            have := List.all_eq_true.mp h4 (i, z) m
            cases ef : findBy Value.isInt es i with
            | none => rw [show findBy Value.isInt es (i, z).1 = none from ef] at this; cases this
            | some u =>
              rw [show findBy Value.isInt es (i, z).1 = some u from ef] at this
              cases u with
              | str y t =>
                have ey : y = z := of_decide_eq_true this
                subst ey
                exact ⟨_, .str y, rfl, ⟨t, rfl⟩, fun F => rfl⟩
              | _ => cases this
        | _ => cases h
    | _ => cases od <;> cases dt <;> cases h
/-- a class of errors as isinstance looks at it -/
def excCB (K : PySem.W.Frag) (D : Addr) : Bool := decide (PySem.W.findIn K (.ref D) "__getattribute__" = some (some (.builtin "BaseException.__getattribute__"))) && (decide (PySem.W.findIn K (.ref D) "__getattr__" = some none) && (decide (PySem.W.subIn K (.ref D) (.type "BaseException") = some true) && (PySem.W.hasDictIn K D &&
  (decide (PySem.W.findIn K (.ref D) "__class__" = some (some (.builtin "object.__class__"))) && (decide (PySem.W.specialIn K (.builtin "object.__class__") "__get__" = some (some (.builtin "getset_descriptor.__get__"))) && (decide (PySem.W.takesIn K (.builtin "object.__class__") = some true) && decide (PySem.W.mroIn K D (.type "object") = some true)))))))
theorem excC_of {D : Addr} (h : excCB K D = true) : ExcC K D := by
  obtain ⟨h1, h⟩ := ba h
  obtain ⟨h2, h⟩ := ba h
  obtain ⟨h3, h⟩ := ba h
  obtain ⟨h4, h⟩ := ba h
  obtain ⟨h5, h⟩ := ba h
  obtain ⟨h6, h⟩ := ba h
  obtain ⟨h7, h8⟩ := ba h
  exact ⟨of_decide_eq_true h1, of_decide_eq_true h2, of_decide_eq_true h3, h4, of_decide_eq_true h5, of_decide_eq_true h6, of_decide_eq_true h7, of_decide_eq_true h8⟩
/-- a class without __init__ over bases that end in ValueError -/
def xOwnB (K : PySem.W.Frag) (C : Addr) : Bool := PySem.W.keepIn K (.ref C) && (PySem.W.excIn K C veBase "ValueError.__new__" && (decide (PySem.W.subIn K (.ref C) (.type "BaseException") = some true) && decide (PySem.W.typeIn K (.ref C) = some (.type "type"))))
theorem xOwn_of {x : Str} {C : Addr} (g : mg x = some (.ref C)) (h : xOwnB K C = true) : XOwn K mg x C := by
  obtain ⟨h1, h⟩ := ba h
  obtain ⟨h2, h⟩ := ba h
  obtain ⟨h3, h4⟩ := ba h
  exact ⟨g, h1, ⟨_, _, _, _, PySem.F.excBase_ValueError, h2⟩, of_decide_eq_true h3, of_decide_eq_true h4⟩
def errB (K : PySem.W.Frag) (D : Addr) (c : Value) (b : Bool) : Bool := decide (PySem.W.exmOne K (.ref D) c = some b) && decide (PySem.W.kitOne K (.ref D) c = some b)
/-! ## the law's own call -/
theorem sqL_bl {H : Hp} {a : Addr} {xs : List V} (h : SqL K H a xs) : SqL K (bl H) a xs := by
  rcases h with (h | ⟨o, h⟩) | h
  · exact .inl (.inl (bl_of h fun _ z => by cases z))
  · exact .inl (.inr ⟨o, bl_of h fun _ z => by cases z⟩)
  · exact .inr h
theorem fz_bl (H : Hp) : Fz (bl H) H := ⟨fun a o e => (bl_at e).1, fun a ps e => (bl_at e).2 ps rfl⟩
theorem law_sp {T : List (Addr × Str)} {m : FnM} {H : Hp} {a : Addr} {ns : List Int} {outs : List Slot} (tab : LamX.Tabs T H) (hs : SqL K H a (ns.map V.int)) (h : m [.d (.scr ns)] = .ok (.v (.bl true)) outs) : spM ⟨K, mg, T⟩ m [.ref a] H (fun v _ => v = .bl true) fun _ _ _ => False := by
  refine ⟨bl H, [.d (.scr ns)], fz_bl H, tab, ⟨rfl, fun j d e => ?_, fun j s e o => ?_, fun j k s t p e1 _ o1 => ?_⟩, ?_⟩
  · cases j with
    | zero => cases e; exact ⟨_, rfl, a, rfl, sqL_bl hs⟩
    | succ j => simp at e
  · cases j with
    | zero => cases e; cases o
    | succ j => simp at e
  · cases j with
    | zero => cases e1; cases o1
    | succ j => simp at e1
  · rw [h]
    exact fun F' H' v _ r => r
end Pl
namespace Pl
open PySem PySem.Spec PyProof.Rows L2
/-! ### the head -/
def dd (x : Str) (st : Stmt) : He.DefD := ⟨(x, none), x, x, defArgs st, defBody st, defScope st, [], []⟩
def fn17 : List He.DefD := [dd "is_grade" s_is_grade, dd "check_grades" s_check_grades, dd "choice" s_choice, dd "sequence" s_sequence, dd "_law_stream" s_law_stream, dd "_law_draw" s_law_draw, dd "_law_better" s_law_better, dd "_law_joined" s_law_joined, dd "_law_other" s_law_other, dd "_law_refused" s_law_refused, dd "_law_right" s_law_right, dd "_law_all_right" s_law_all_right, dd "_law_odd_right" s_law_odd_right, dd "law" s_law]
def glo17 : List Str := ["is_grade", "check_grades", "choice", "sequence", "_law_stream", "_law_draw", "_law_better", "_law_joined", "_law_other", "_law_refused", "_law_right", "_law_all_right", "_law_odd_right", "law", "CODES", "NAMES", "GRADES", "SERIES", "InvalidOperation", "LimitError"]
def free17 : List Str := ["len", "abs", "int", "max", "min", "str", "list", "isinstance", "range", "ValueError"]
def fa17 : List He.Fa := glo17.map He.Fa.glo ++ free17.map He.Fa.free
def codes17 : List (Str × Int) := [("restart", 16843009), ("free", 65793), ("paid", 257), ("dear", 1), ("none", 0)]
def names17 : List (Int × Str) := [(16843009, "restart"), (65793, "free"), (257, "paid"), (1, "dear"), (0, "none")]
def series17 : List Str := ["free", "paid", "restart", "dear", "none"]
def grades17 : List Str := ["restart", "free", "paid", "dear", "none"]
def ts17 : List He.Tab := [(fun K => He.ga K "CODES", codes17.map (·.1))]
def tf17 : List He.Defn := [("_law_odd_right", none)]
def ex17 (K : PySem.W.Frag) : Bool := tabSB K (He.ga K "CODES") codes17 && (tabIB K (He.ga K "NAMES") names17 && (conTB K (He.ga K "SERIES") series17 && (conTB K (He.ga K "GRADES") grades17 && (xOwnB K (He.ga K "InvalidOperation") && (excCB K (He.ga K "InvalidOperation") &&
  (errB K (He.ga K "InvalidOperation") (.ref (He.ga K "InvalidOperation")) true && (errB K (He.ga K "InvalidOperation") (.ref (He.ga K "LimitError")) true && errB K (He.ga K "InvalidOperation") (.type "ValueError") true)))))))
abbrev R17 : PySem.W.OpenRow := PySem.W.OpenLaw.row PySem.Challenge.rw_openlimit_k17_choice_and_sequence
abbrev hk17 : PySem.W.Hook := He.hookX 8 fa17 fn17 ts17 tf17 ex17
def ob17 (s : PySem.W.SharedT) : He.AlX := He.obsX 8 fa17 fn17 ts17 tf17 ex17 (HandSHeadRun.getT s)
theorem ob17_eq (s : PySem.W.SharedT) : ob17 s = hk17.obs s.abs := He.obsX_eq (HandSHeadRun.getT_eq s)
def loose17 : List Str := ["LimitError", "InvalidOperation", "CODES", "NAMES", "is_grade", "GRADES", "SERIES", "check_grades", "choice", "sequence", "_law_stream", "_law_draw", "_law_better", "_law_joined", "_law_other", "_law_refused", "_law_right", "_law_all_right", "_law_odd_right"]
theorem run17 (w : World) : HandSHeadRun.RunEq R17 (PySem.W.view R17.prog [23]) hk17 ob17 20000 loose17 w :=
  PySem.W.byRow2 "special-get-raises" (P := fun w => HandSHeadRun.RunEq R17 (PySem.W.view R17.prog [23]) hk17 ob17 20000 loose17 w) (fun w os => by kernel_rfl) (fun w os => by kernel_rfl) w
end Pl
namespace Pl
open PySem PySem.Spec PyProof.Rows L2
section
variable {P : Program} {w : World} {K : PySem.W.Frag} {mg : Str → Option Value} {base : Heap} {b : Bool}
theorem hasG {x : Str} {st : Stmt} {f : Addr} {fd : FuncData} {k : Nat} {ps : List Str} {sp : Sp} (F : Fun K x x st f fd) (g : mg x = some (.ref f)) (bi : Binds K fd ps []) (ok : FnG b P w K mg base k f fd ps sp) : HasG b P w K mg base x k ps sp := ⟨f, fd, ok, g, F.kp, bi⟩
theorem hasS {x : Str} {st : Stmt} {f : Addr} {fd : FuncData} {k : Nat} {sp : Sp} (F : Fun K x x st f fd) (g : mg x = some (.ref f)) (ok : FnS b P w K mg base k f sp) : HasS b P w K mg base x k sp := ⟨f, ok, g, F.kp⟩
end
def q17 : Str := ("_law_odd_right" : Str) ++ ".<locals>." ++ "<lambda>"
theorem at17 {w : World} {K : PySem.W.Frag} {h : Heap} {mg : Str → Option Value} {f : Addr} (X : K.In h) (G : h.Ns mainGlobals mg) (hfa : mg "law" = some (.ref f)) (c : He.SaysX fa17 fn17 ts17 tf17 ex17 w h K) :
    LamX.LawAtS PySem.Challenge.rw_openlimit_k17_choice_and_sequence w K (L2.CX PySem.Challenge.rw_openlimit_k17_choice_and_sequence.prog w) 7 63 "script" mg f h := by
  have gl : ∀ x ∈ glo17, mg x = some (.ref (He.ga K x)) := fun x hx => He.glo_ok X G (c.t.d.facts (List.mem_append_left _ (List.mem_map.mpr ⟨x, hx, rfl⟩)))
  have fr : ∀ x ∈ free17, mg x = none := fun x hx => He.free_ok X G (c.t.d.facts (List.mem_append_right _ (List.mem_map.mpr ⟨x, hx, rfl⟩)))
  obtain ⟨fd0, D0⟩ := c.t.d.def_ 0 (d := dd "is_grade" s_is_grade) rfl
  obtain ⟨fd1, D1⟩ := c.t.d.def_ 1 (d := dd "check_grades" s_check_grades) rfl
  obtain ⟨fd2, D2⟩ := c.t.d.def_ 2 (d := dd "choice" s_choice) rfl
  obtain ⟨fd3, D3⟩ := c.t.d.def_ 3 (d := dd "sequence" s_sequence) rfl
  obtain ⟨fd4, D4⟩ := c.t.d.def_ 4 (d := dd "_law_stream" s_law_stream) rfl
  obtain ⟨fd5, D5⟩ := c.t.d.def_ 5 (d := dd "_law_draw" s_law_draw) rfl
  obtain ⟨fd6, D6⟩ := c.t.d.def_ 6 (d := dd "_law_better" s_law_better) rfl
  obtain ⟨fd7, D7⟩ := c.t.d.def_ 7 (d := dd "_law_joined" s_law_joined) rfl
  obtain ⟨fd8, D8⟩ := c.t.d.def_ 8 (d := dd "_law_other" s_law_other) rfl
  obtain ⟨fd9, D9⟩ := c.t.d.def_ 9 (d := dd "_law_refused" s_law_refused) rfl
  obtain ⟨fd10, D10⟩ := c.t.d.def_ 10 (d := dd "_law_right" s_law_right) rfl
  obtain ⟨fd11, D11⟩ := c.t.d.def_ 11 (d := dd "_law_all_right" s_law_all_right) rfl
  obtain ⟨fd12, D12⟩ := c.t.d.def_ 12 (d := dd "_law_odd_right" s_law_odd_right) rfl
  obtain ⟨fd13, D13⟩ := c.t.d.def_ 13 (d := dd "law" s_law) rfl
  have F0 : Fun K "is_grade" "is_grade" s_is_grade (He.ga K "is_grade") fd0 := fun_of D0
  have F1 : Fun K "check_grades" "check_grades" s_check_grades (He.ga K "check_grades") fd1 := fun_of D1
  have F2 : Fun K "choice" "choice" s_choice (He.ga K "choice") fd2 := fun_of D2
  have F3 : Fun K "sequence" "sequence" s_sequence (He.ga K "sequence") fd3 := fun_of D3
  have F4 : Fun K "_law_stream" "_law_stream" s_law_stream (He.ga K "_law_stream") fd4 := fun_of D4
  have F5 : Fun K "_law_draw" "_law_draw" s_law_draw (He.ga K "_law_draw") fd5 := fun_of D5
  have F6 : Fun K "_law_better" "_law_better" s_law_better (He.ga K "_law_better") fd6 := fun_of D6
  have F7 : Fun K "_law_joined" "_law_joined" s_law_joined (He.ga K "_law_joined") fd7 := fun_of D7
  have F8 : Fun K "_law_other" "_law_other" s_law_other (He.ga K "_law_other") fd8 := fun_of D8
  have F9 : Fun K "_law_refused" "_law_refused" s_law_refused (He.ga K "_law_refused") fd9 := fun_of D9
  have F10 : Fun K "_law_right" "_law_right" s_law_right (He.ga K "_law_right") fd10 := fun_of D10
  have F11 : Fun K "_law_all_right" "_law_all_right" s_law_all_right (He.ga K "_law_all_right") fd11 := fun_of D11
  have F12 : Fun K "_law_odd_right" "_law_odd_right" s_law_odd_right (He.ga K "_law_odd_right") fd12 := fun_of D12
  have F13 : Fun K "law" "law" s_law (He.ga K "law") fd13 := fun_of D13
  have C12 : FunC K "_law_odd_right" "_law_odd_right" s_law_odd_right (He.ga K "_law_odd_right") fd12 (.ref (He.codeOf K ("_law_odd_right", none))) := funC_of (p := ("_law_odd_right", none)) D12
  obtain ⟨e1, more⟩ := He.ba c.more
  obtain ⟨e2, more⟩ := He.ba more
  obtain ⟨e3, more⟩ := He.ba more
  obtain ⟨e4, more⟩ := He.ba more
  obtain ⟨e5, more⟩ := He.ba more
  obtain ⟨e6, more⟩ := He.ba more
  obtain ⟨e7, more⟩ := He.ba more
  obtain ⟨e8, e9⟩ := He.ba more
  have tC : Pl.TabS K w (He.ga K "CODES") tab_CODES := tabS_of (c.t.tab 0) e1
  have tN : TabI K (He.ga K "NAMES") tab_NAMES := tabI_of e2
  have tS : ConT K (He.ga K "SERIES") tab_SERIES := conT_of e3
  have tG : ConT K (He.ga K "GRADES") tab_GRADES := conT_of e4
  have xI : XOwn K mg "InvalidOperation" (He.ga K "InvalidOperation") := xOwn_of (gl _ (by decide)) e5
  have Te : ErrTab K mg tab_err := by
    refine ⟨fun x y b e => ?_⟩
    unfold tab_err at e
    split at e
    · rename_i hx
      split at e
      · rename_i hy
        cases e
        subst hx
        have go : ∀ cv, NameV mg y cv → errB K (He.ga K "InvalidOperation") cv true = true → ∃ (D : Addr) (cv : Value), mg (Str.ofString "InvalidOperation") = some (.ref D) ∧ NameV mg y cv ∧ ExcC K D ∧ PySem.W.exmOne K (.ref D) cv = some true ∧ PySem.W.kitOne K (.ref D) cv = some true := fun cv n eb => by
          obtain ⟨k1, k2⟩ := He.ba eb
          exact ⟨_, cv, gl _ (by decide), n, excC_of e6, of_decide_eq_true k1, of_decide_eq_true k2⟩
        rcases hy with rfl | rfl | rfl
        · exact go _ (.inl (gl _ (by decide))) e7
        · exact go _ (.inl (gl _ (by decide))) e8
        · exact go _ (.inr ⟨fr _ (by decide), by decide +kernel⟩) e9
      · cases e
    · cases e
  have eL := hfa.symm.trans (gl "law" (by decide))
  cases eL
  refine ⟨fd13, [He.cT K ("_law_odd_right", none)], spM ⟨K, mg, [((He.cT K ("_law_odd_right", none)).2, q17)]⟩ f_law, fun p hp => ?_, fun p hp => ?_, fun p hp => ?_, fun s u => ?_, fun H a ns hl hb hT hS => ?_, fun base KB GB TB => ?_⟩
  · rw [List.mem_singleton.mp hp]; exact c.empty _ List.mem_cons_self
  · rw [List.mem_singleton.mp hp]; exact c.out _ List.mem_cons_self
  · rw [List.mem_singleton.mp hp]; exact PySem.W.codeHd_of_K X (c.hd _ List.mem_cons_self)
  · obtain ⟨oc, od, kV, doc, pm, an, cdv, ct, osl, e, l, cc⟩ := F13.ex
    rw [e]
    exact .of_eq rfl
  · obtain ⟨outs, ht⟩ := law_true ns hl
    exact law_sp (fun p hp => by rw [List.mem_singleton.mp hp]; exact .nil (hT _ List.mem_cons_self)) hS ht
  · have T12 := TB _ List.mem_cons_self
    have h4 := hasG (b := false) (P := PySem.Challenge.rw_openlimit_k17_choice_and_sequence.prog) (w := w) (base := base) F4 (gl _ (by decide)) (F4.binds (ps := ["script", "at"]) fun _ _ _ _ _ _ us hl => match us, hl with | [_, _], _ => rfl) (ok_law_stream (T := [((He.cT K ("_law_odd_right", none)).2, q17)]) (fr _ (by decide)) (fr _ (by decide)) (fr _ (by decide)) (fr _ (by decide)) F4)
    have h5 := hasG (b := false) (P := PySem.Challenge.rw_openlimit_k17_choice_and_sequence.prog) (w := w) (base := base) F5 (gl _ (by decide)) (F5.binds (ps := ["stream", "total"]) fun _ _ _ _ _ _ us hl => match us, hl with | [_, _], _ => rfl) (ok_law_draw (T := [((He.cT K ("_law_odd_right", none)).2, q17)]) F5)
    have h6 := hasG (b := false) (P := PySem.Challenge.rw_openlimit_k17_choice_and_sequence.prog) (w := w) (base := base) F6 (gl _ (by decide)) (F6.binds (ps := ["one", "other"]) fun _ _ _ _ _ _ us hl => match us, hl with | [_, _], _ => rfl) (ok_law_better (T := [((He.cT K ("_law_odd_right", none)).2, q17)]) (fr _ (by decide)) F6)
    have h7 := hasG (b := false) (P := PySem.Challenge.rw_openlimit_k17_choice_and_sequence.prog) (w := w) (base := base) F7 (gl _ (by decide)) (F7.binds (ps := ["one", "other"]) fun _ _ _ _ _ _ us hl => match us, hl with | [_, _], _ => rfl) (ok_law_joined (T := [((He.cT K ("_law_odd_right", none)).2, q17)]) (fr _ (by decide)) F7)
    have h8 := hasG F8 (gl _ (by decide)) (F8.binds (ps := ["stream"]) fun _ _ _ _ _ _ us hl => match us, hl with | [_], _ => rfl) (ok_law_other (fr _ (by decide)) h5 F8)
    have h0 := hasG (b := false) (P := PySem.Challenge.rw_openlimit_k17_choice_and_sequence.prog) (w := w) (base := base) F0 (gl _ (by decide)) (F0.binds (ps := ["value"]) fun _ _ _ _ _ _ us hl => match us, hl with | [_], _ => rfl) (ok_is_grade (T := [((He.cT K ("_law_odd_right", none)).2, q17)]) (fr _ (by decide)) (fr _ (by decide)) (gl _ (by decide)) tC F0)
    have h1 := hasG F1 (gl _ (by decide)) (F1.binds (ps := ["grades"]) fun _ _ _ _ _ _ us hl => match us, hl with | [_], _ => rfl) (ok_check_grades xI h0 F1)
    have h2 := hasS F2 (gl _ (by decide)) (ok_choice (gl _ (by decide)) tC (gl _ (by decide)) tN h1 F2 (by
      obtain ⟨oc, od, kV, doc, pm, an, cdv, ct, osl, e, l, cc⟩ := F2.ex
      rw [e]
      intro rest
      cases rest <;> rfl))
    have h3 := hasS F3 (gl _ (by decide)) (ok_sequence (fr _ (by decide)) (gl _ (by decide)) tS h1 F3 (by
      obtain ⟨oc, od, kV, doc, pm, an, cdv, ct, osl, e, l, cc⟩ := F3.ex
      rw [e]
      intro rest
      cases rest <;> rfl))
    have h10 := hasG F10 (gl _ (by decide)) (F10.binds (ps := ["grades"]) fun _ _ _ _ _ _ us hl => match us, hl with | [_], _ => rfl) (ok_law_right (fr _ (by decide)) h6 h7 h2 h3 F10)
    have h11 := hasG F11 (gl _ (by decide)) (F11.binds (ps := []) fun _ _ _ _ _ _ us hl => match us, hl with | [], _ => rfl) (ok_law_all_right (fr _ (by decide)) (gl _ (by decide)) tG h2 h3 h10 F11)
    have h12 := hasG F12 (gl _ (by decide)) (F12.binds (ps := ["stream", "odd"]) fun _ _ _ _ _ _ us hl => match us, hl with | [_, _], _ => rfl) (ok_law_odd_right (gl _ (by decide)) tG h5 h2 h3 F9 (F9.binds (ps := ["call"]) fun _ _ _ _ _ _ us hl => match us, hl with | [_], _ => rfl) (gl _ (by decide))
      (fun {X} {cdg} {q} em ek => by
        subst em ek
        exact gives_law_refused (gl _ (by decide)) (gl _ (by decide)) (fr _ (by decide)) (fr _ (by decide)) Te) T12 List.mem_cons_self (fun p hp _ => by rw [List.mem_singleton.mp hp]; rfl) C12)
    exact FnG.ok (ok_law (fr _ (by decide)) (fr _ (by decide)) (fr _ (by decide)) (fr _ (by decide)) (fr _ (by decide)) (fr _ (by decide)) (gl _ (by decide)) tG h4 h5 h10 h12 h8 h11 F13)
end Pl
open PySem PySem.W PySem.Calls PyProof.Rows
theorem PySem.Challenge.cw_openlimit_k17_choice_and_sequence_holds : PySem.Challenge.rw_openlimit_k17_choice_and_sequence.Holds := by
  w_on; o_law
  refine HandSHeadRun.head_any (r := OpenLaw.row PySem.Challenge.rw_openlimit_k17_choice_and_sequence) (q := view (OpenLaw.row PySem.Challenge.rw_openlimit_k17_choice_and_sequence).prog [23]) (H := Pl.hk17) (ob := Pl.ob17) (M := 20000) (loose := Pl.loose17) (d := HandSHeadRun.topDef (OpenLaw.row PySem.Challenge.rw_openlimit_k17_choice_and_sequence).prog 23) (kwd := []) Pl.ob17_eq
    (by kernel_rfl) (fun s => by kernel_rfl) Pl.run17 (by kernel_rfl) (by kernel_rfl) (by kernel_rfl) (by rfl) (by first | assumption | decide +kernel) (by decide +kernel) ⟨rfl, rfl, rfl, rfl, rfl, by decide +kernel⟩ ?hw ?hc
  case hw => w_witness2
  case hc =>
    refine LamX.walk_ofTsE (l := PySem.Challenge.rw_openlimit_k17_choice_and_sequence) (n := 63) (k := 7) (x := "script") (CX := fun w => L2.CX PySem.Challenge.rw_openlimit_k17_choice_and_sequence.prog w) rfl (by decide) (by kernel_rfl) ⟨rfl, by decide, by decide⟩ ?F ?Z
    case F =>
      intro w mg fa h Y G hmg0
      obtain ⟨K, KX, c⟩ := Y
      have hmg : mg ("law" : PySem.Str) = some (.ref fa) := by
        have e : (HandSHeadRun.topDef (OpenLaw.row PySem.Challenge.rw_openlimit_k17_choice_and_sequence).prog 23).name = ("law" : PySem.Str) := by kernel_rfl
        rw [← e]
        exact hmg0
      exact ⟨K, KX, Pl.at17 KX G hmg c⟩
    case Z =>
      rintro w H s e s' ⟨_, _, _, _, _, _, _, _, _, _, _, _, z⟩
      exact z
